import PyProof.Rows.All
import Wide.All
import OpenK.AllK
import Wide.FinOn
import Lean
import PyProof.EqAt
import PyProof.EqKinds
import PyProof.TupleCall
import PyProof.NeKinds
import PyProof.StationsW
import PyProof.RulesAs
import PyProof.ExcClass3
import PyProof.ExcInit
import PyProof.ExcArgsOwn
import PyProof.IsiH_set
import PyProof.NsDelKeeps
import PyProof.CompFree
import PySem.Challenge.RW_stow_k17_next
set_option Elab.async false
set_option linter.all false
set_option maxRecDepth 100000
set_option maxHeartbeats 4000000
namespace L2
open PySem PySem.Spec PyProof.Rows
def Xaj (s : Stmt) (j : Nat) : Stmt := match s with
 | .ClassDef _ _ _ body _ _ _ _ _ _ _ => body.getD j (.Pass ⟨0, 0, 0, 0⟩)
 | _ => .Pass ⟨0, 0, 0, 0⟩
def Xaf (s : Stmt) : Arguments := match s with
 | .FunctionDef _ a _ _ _ _ _ _ _ _ => a
 | _ => { posonlyargs := [], args := [], vararg := none, kwonlyargs := [], kw_defaults := [], kwarg := none, defaults := [] }
def Xae (s : Stmt) : List Stmt := match s with
 | .FunctionDef _ _ b _ _ _ _ _ _ _ => b
 | _ => []
def Xab (s : Stmt) : Scope := match s with
 | .FunctionDef _ _ _ _ _ _ sc _ _ _ => sc
 | _ => { kind := .function, names := [], isGenerator := false, isCoroutine := false }
end L2
namespace Stow
open PySem L2 PyProof.Rows
def top (i : Nat) : Stmt := PySem.Challenge.pw_stow_k17_next.main.body.getD i (.Pass ⟨0, 0, 0, 0⟩)
def en (P : Params) (s : Str) (t : Tok) (v : Value) : DictEntry := ⟨PyData.keyHash P s, .str s t, v⟩
def fo (nm qn : Str) (st : Stmt) (dV kV dc pm : Value) (an : Option Addr) (cd ct : Value) (od : Option Addr) : Obj := ⟨.type "function", od, .func (PySem.W.fnOf nm qn (Xaf st) (Xae st) (Xab st) dV kV dc pm an cd ct), #[]⟩
def fq (nm qn : Str) (st : Stmt) : Obj := ⟨.none, none, .func { name := nm, qualname := qn, params := Xaf st, body := .stmts (Xae st), scope := Xab st, globals := 0, closure := [], defaults := .none, kwdefaults := .none }, #[]⟩
def tu (l : List Value) : Obj := ⟨(.type "tuple"), none, .seq l.toArray 0, #[]⟩
def fl (l : List Value) : Obj := ⟨.none, none, .fields l.toArray, #[]⟩
def co (l : List Value) : Obj := ⟨(.type "code"), none, .fields l.toArray, #[]⟩
def ho0 (P : Params) : Obj := ⟨(.type "tuple"), none, .seq #[] 0, #[]⟩
def ho1 (P : Params) : Obj := ⟨.none, none, .fields #[], #[]⟩
def ho2 (P : Params) : Obj := co ((.str "<module>" 182) :: (.str "<module>" 183) :: (.str "/claim/cut.py" 184) :: (.int 1 0) :: (.int 0 0) :: (.int 0 0) :: (.int 0 0) :: (.int 0 0) :: (.ref 11) :: (.bool false) :: (.int 181 0) :: (.ref 12) :: .none :: .none :: .none :: .none :: (.int 185 0) :: (.int 1 0) :: (.str "/claim/cut.py" 186) :: [])
def ho3 (P : Params) : Obj := ⟨(.type "frame"), none, .plain, ((some (.ref 13)) :: (some (.ref 3)) :: (some (.ref 3)) :: none :: (some (.str "__main__" 164)) :: none :: (some (.ref 0)) :: []).toArray⟩
def ho4 (P : Params) : Obj := ⟨(.type "dict"), none, .dict (en P "__name__" 165 (.str "stow.errors" 187) :: en P "__doc__" 166 .none :: en P "__package__" 167 .none :: en P "__loader__" 168 (.builtin "__main__.__loader__#opaque") :: en P "__spec__" 169 .none :: en P "__annotations__" 170 (.ref 6) :: en P "__builtins__" 171 (.ref 4) :: en P "__file__" 173 (.str "/claim/cut.py" 172) :: en P "__cached__" 174 .none :: en P "StowError" 206 (.ref 24) :: en P "NoSize" 222 (.ref 37) :: en P "Broken" 247 (.ref 56) :: en P "NoPiece" 263 (.ref 68) :: en P "NoCell" 279 (.ref 80) :: en P "NoAsk" 295 (.ref 92) :: en P "NoBound" 311 (.ref 104) :: en P "NoRoom" 327 (.ref 116) :: []).toArray 17, #[]⟩
def ho5 (P : Params) : Obj := fl ((.int 2 0) :: (.int 0 0) :: (.ref 20) :: (.int 4 0) :: (.int 0 0) :: (.ref 33) :: (.int 6 0) :: (.int 0 0) :: (.ref 45) :: (.int 10 0) :: (.int 0 0) :: (.ref 64) :: (.int 12 0) :: (.int 0 0) :: (.ref 76) :: (.int 14 0) :: (.int 0 0) :: (.ref 88) :: (.int 16 0) :: (.int 0 0) :: (.ref 100) :: (.int 18 0) :: (.int 0 0) :: (.ref 112) :: [])
def ho6 (P : Params) : Obj := tu ((.type "ValueError") :: [])
def ho7 (P : Params) : Obj := ⟨(.type "builtin_function_or_method"), none, .fields ((.builtin "type.__prepare__") :: (.type "type") :: []).toArray, #[]⟩
def ho8 (P : Params) : Obj := ⟨(.type "dict"), none, .dict (en P "__module__" 196 (.str "stow.errors" 187) :: en P "__qualname__" 198 (.str "StowError" 197) :: en P "__firstlineno__" 200 (.int 2 199) :: en P "__static_attributes__" 201 (.ref 22) :: []).toArray 4, #[]⟩
def ho11 (P : Params) : Obj := co ((.str "StowError" 191) :: (.str "StowError" 192) :: (.str "/claim/cut.py" 193) :: (.int 2 0) :: (.int 0 0) :: (.int 0 0) :: (.int 0 0) :: (.int 0 0) :: (.ref 18) :: (.bool false) :: (.int 181 0) :: (.ref 19) :: .none :: .none :: .none :: .none :: (.int 194 0) :: (.int 2 0) :: (.str "/claim/cut.py" 195) :: [])
def ho12 (P : Params) : Obj := ⟨(.type "frame"), none, .plain, ((some (.ref 20)) :: (some (.ref 3)) :: (some (.ref 17)) :: none :: (some (.str "stow.errors" 187)) :: none :: (some (.ref 0)) :: []).toArray⟩
def ho14 (P : Params) : Obj := ⟨(.type "dict"), none, .dict (en P "__module__" 196 (.str "stow.errors" 187) :: en P "__firstlineno__" 200 (.int 2 199) :: en P "__static_attributes__" 201 (.ref 22) :: en P "__weakref__" 203 (.ref 25) :: en P "__doc__" 204 .none :: []).toArray 3, #[]⟩
def ho15 (P : Params) : Obj := ⟨(.type "type"), none, .cls ⟨"StowError", [(.type "ValueError")], [(.ref 24), (.type "ValueError"), (.type "Exception"), (.type "BaseException"), (.type "object")], 23, "StowError", true, [], [(.ref 37), (.ref 56), (.ref 68), (.ref 80), (.ref 92), (.ref 104), (.ref 116)], false, none, false⟩, ((some (.ref 15)) :: none :: (some (.str "StowError" 189)) :: (some (.str "StowError" 197)) :: (some (.builtin "ValueError.__new__")) :: (some (.bool true)) :: []).toArray⟩
def ho16 (P : Params) : Obj := ⟨(.type "getset_descriptor"), none, .fields ((.str "__weakref__" 202) :: (.ref 24) :: (.builtin "ExceptionGroup.__weakref__") :: .none :: []).toArray, #[]⟩
def ho17 (P : Params) : Obj := ⟨(.type "super"), none, .fields ((.ref 24) :: (.ref 24) :: (.ref 24) :: []).toArray, #[]⟩
def ho18 (P : Params) : Obj := ⟨(.type "builtin_function_or_method"), none, .fields ((.builtin "object.__init_subclass__") :: (.ref 24) :: []).toArray, #[]⟩
def ho19 (P : Params) : Obj := tu ((.ref 24) :: [])
def ho21 (P : Params) : Obj := ⟨(.type "dict"), none, .dict (en P "__module__" 214 (.str "stow.errors" 187) :: en P "__qualname__" 216 (.str "NoSize" 215) :: en P "__firstlineno__" 218 (.int 4 217) :: en P "__static_attributes__" 219 (.ref 35) :: []).toArray 4, #[]⟩
def ho24 (P : Params) : Obj := co ((.str "NoSize" 209) :: (.str "NoSize" 210) :: (.str "/claim/cut.py" 211) :: (.int 4 0) :: (.int 0 0) :: (.int 0 0) :: (.int 0 0) :: (.int 0 0) :: (.ref 31) :: (.bool false) :: (.int 181 0) :: (.ref 32) :: .none :: .none :: .none :: .none :: (.int 212 0) :: (.int 4 0) :: (.str "/claim/cut.py" 213) :: [])
def ho25 (P : Params) : Obj := ⟨(.type "frame"), none, .plain, ((some (.ref 33)) :: (some (.ref 3)) :: (some (.ref 30)) :: none :: (some (.str "stow.errors" 187)) :: none :: (some (.ref 0)) :: []).toArray⟩
def ho27 (P : Params) : Obj := ⟨(.type "dict"), none, .dict (en P "__module__" 214 (.str "stow.errors" 187) :: en P "__firstlineno__" 218 (.int 4 217) :: en P "__static_attributes__" 219 (.ref 35) :: en P "__doc__" 220 .none :: []).toArray 2, #[]⟩
def ho28 (P : Params) : Obj := ⟨(.type "type"), none, .cls ⟨"NoSize", [(.ref 24)], [(.ref 37), (.ref 24), (.type "ValueError"), (.type "Exception"), (.type "BaseException"), (.type "object")], 36, "NoSize", true, [], [], false, none, false⟩, ((some (.ref 28)) :: none :: (some (.str "NoSize" 207)) :: (some (.str "NoSize" 215)) :: (some (.builtin "ValueError.__new__")) :: (some (.bool true)) :: []).toArray⟩
def ho29 (P : Params) : Obj := ⟨(.type "super"), none, .fields ((.ref 37) :: (.ref 37) :: (.ref 37) :: []).toArray, #[]⟩
def ho30 (P : Params) : Obj := ⟨(.type "builtin_function_or_method"), none, .fields ((.builtin "object.__init_subclass__") :: (.ref 37) :: []).toArray, #[]⟩
def ho33 (P : Params) : Obj := ⟨(.type "dict"), none, .dict (en P "__module__" 230 (.str "stow.errors" 187) :: en P "__qualname__" 232 (.str "Broken" 231) :: en P "__firstlineno__" 234 (.int 6 233) :: en P "__init__" 242 (.ref 53) :: en P "__static_attributes__" 244 (.ref 54) :: []).toArray 5, #[]⟩
def ho35 (P : Params) : Obj := fl ((.int 8 0) :: (.int 4 0) :: (.ref 52) :: [])
def ho36 (P : Params) : Obj := co ((.str "Broken" 225) :: (.str "Broken" 226) :: (.str "/claim/cut.py" 227) :: (.int 6 0) :: (.int 0 0) :: (.int 0 0) :: (.int 0 0) :: (.int 0 0) :: (.ref 43) :: (.bool false) :: (.int 181 0) :: (.ref 44) :: .none :: .none :: .none :: .none :: (.int 228 0) :: (.int 6 0) :: (.str "/claim/cut.py" 229) :: [])
def ho37 (P : Params) : Obj := ⟨(.type "frame"), none, .plain, ((some (.ref 45)) :: (some (.ref 3)) :: (some (.ref 42)) :: none :: (some (.str "stow.errors" 187)) :: none :: (some (.ref 0)) :: []).toArray⟩
def ho40 (P : Params) : Obj := tu ((.str "self" 238) :: (.str "cell" 239) :: [])
def ho42 (P : Params) : Obj := fq "__init__" "Broken.__init__" (Xaj (top 3) 0)
def ho43 (P : Params) : Obj := co ((.str "__init__" 235) :: (.str "Broken.__init__" 236) :: (.str "/claim/cut.py" 237) :: (.int 8 0) :: (.int 2 0) :: (.int 0 0) :: (.int 0 0) :: (.int 3 0) :: (.ref 47) :: (.bool true) :: (.int 181 0) :: (.ref 48) :: .none :: (.ref 49) :: (.ref 50) :: (.ref 51) :: (.int 240 0) :: (.int 8 0) :: (.str "/claim/cut.py" 241) :: [])
def ho44 (P : Params) : Obj := fo "__init__" "Broken.__init__" (Xaj (top 3) 0) .none .none .none (.str "stow.errors" 187) none (.ref 52) .none none
def ho45 (P : Params) : Obj := tu ((.str "cell" 243) :: [])
def ho46 (P : Params) : Obj := ⟨(.type "dict"), none, .dict (en P "__module__" 230 (.str "stow.errors" 187) :: en P "__firstlineno__" 234 (.int 6 233) :: en P "__init__" 242 (.ref 53) :: en P "__static_attributes__" 244 (.ref 54) :: en P "__doc__" 245 .none :: []).toArray 2, #[]⟩
def ho47 (P : Params) : Obj := ⟨(.type "type"), none, .cls ⟨"Broken", [(.ref 24)], [(.ref 56), (.ref 24), (.type "ValueError"), (.type "Exception"), (.type "BaseException"), (.type "object")], 55, "Broken", true, [], [], false, none, false⟩, ((some (.ref 40)) :: none :: (some (.str "Broken" 223)) :: (some (.str "Broken" 231)) :: (some (.builtin "ValueError.__new__")) :: (some (.bool true)) :: []).toArray⟩
def ho48 (P : Params) : Obj := ⟨(.type "super"), none, .fields ((.ref 56) :: (.ref 56) :: (.ref 56) :: []).toArray, #[]⟩
def ho49 (P : Params) : Obj := ⟨(.type "builtin_function_or_method"), none, .fields ((.builtin "object.__init_subclass__") :: (.ref 56) :: []).toArray, #[]⟩
def ho52 (P : Params) : Obj := ⟨(.type "dict"), none, .dict (en P "__module__" 255 (.str "stow.errors" 187) :: en P "__qualname__" 257 (.str "NoPiece" 256) :: en P "__firstlineno__" 259 (.int 10 258) :: en P "__static_attributes__" 260 (.ref 66) :: []).toArray 4, #[]⟩
def ho55 (P : Params) : Obj := co ((.str "NoPiece" 250) :: (.str "NoPiece" 251) :: (.str "/claim/cut.py" 252) :: (.int 10 0) :: (.int 0 0) :: (.int 0 0) :: (.int 0 0) :: (.int 0 0) :: (.ref 62) :: (.bool false) :: (.int 181 0) :: (.ref 63) :: .none :: .none :: .none :: .none :: (.int 253 0) :: (.int 10 0) :: (.str "/claim/cut.py" 254) :: [])
def ho56 (P : Params) : Obj := ⟨(.type "frame"), none, .plain, ((some (.ref 64)) :: (some (.ref 3)) :: (some (.ref 61)) :: none :: (some (.str "stow.errors" 187)) :: none :: (some (.ref 0)) :: []).toArray⟩
def ho58 (P : Params) : Obj := ⟨(.type "dict"), none, .dict (en P "__module__" 255 (.str "stow.errors" 187) :: en P "__firstlineno__" 259 (.int 10 258) :: en P "__static_attributes__" 260 (.ref 66) :: en P "__doc__" 261 .none :: []).toArray 2, #[]⟩
def ho59 (P : Params) : Obj := ⟨(.type "type"), none, .cls ⟨"NoPiece", [(.ref 24)], [(.ref 68), (.ref 24), (.type "ValueError"), (.type "Exception"), (.type "BaseException"), (.type "object")], 67, "NoPiece", true, [], [], false, none, false⟩, ((some (.ref 59)) :: none :: (some (.str "NoPiece" 248)) :: (some (.str "NoPiece" 256)) :: (some (.builtin "ValueError.__new__")) :: (some (.bool true)) :: []).toArray⟩
def ho60 (P : Params) : Obj := ⟨(.type "super"), none, .fields ((.ref 68) :: (.ref 68) :: (.ref 68) :: []).toArray, #[]⟩
def ho61 (P : Params) : Obj := ⟨(.type "builtin_function_or_method"), none, .fields ((.builtin "object.__init_subclass__") :: (.ref 68) :: []).toArray, #[]⟩
def ho64 (P : Params) : Obj := ⟨(.type "dict"), none, .dict (en P "__module__" 271 (.str "stow.errors" 187) :: en P "__qualname__" 273 (.str "NoCell" 272) :: en P "__firstlineno__" 275 (.int 12 274) :: en P "__static_attributes__" 276 (.ref 78) :: []).toArray 4, #[]⟩
def ho67 (P : Params) : Obj := co ((.str "NoCell" 266) :: (.str "NoCell" 267) :: (.str "/claim/cut.py" 268) :: (.int 12 0) :: (.int 0 0) :: (.int 0 0) :: (.int 0 0) :: (.int 0 0) :: (.ref 74) :: (.bool false) :: (.int 181 0) :: (.ref 75) :: .none :: .none :: .none :: .none :: (.int 269 0) :: (.int 12 0) :: (.str "/claim/cut.py" 270) :: [])
def ho68 (P : Params) : Obj := ⟨(.type "frame"), none, .plain, ((some (.ref 76)) :: (some (.ref 3)) :: (some (.ref 73)) :: none :: (some (.str "stow.errors" 187)) :: none :: (some (.ref 0)) :: []).toArray⟩
def ho70 (P : Params) : Obj := ⟨(.type "dict"), none, .dict (en P "__module__" 271 (.str "stow.errors" 187) :: en P "__firstlineno__" 275 (.int 12 274) :: en P "__static_attributes__" 276 (.ref 78) :: en P "__doc__" 277 .none :: []).toArray 2, #[]⟩
def ho71 (P : Params) : Obj := ⟨(.type "type"), none, .cls ⟨"NoCell", [(.ref 24)], [(.ref 80), (.ref 24), (.type "ValueError"), (.type "Exception"), (.type "BaseException"), (.type "object")], 79, "NoCell", true, [], [], false, none, false⟩, ((some (.ref 71)) :: none :: (some (.str "NoCell" 264)) :: (some (.str "NoCell" 272)) :: (some (.builtin "ValueError.__new__")) :: (some (.bool true)) :: []).toArray⟩
def ho72 (P : Params) : Obj := ⟨(.type "super"), none, .fields ((.ref 80) :: (.ref 80) :: (.ref 80) :: []).toArray, #[]⟩
def ho73 (P : Params) : Obj := ⟨(.type "builtin_function_or_method"), none, .fields ((.builtin "object.__init_subclass__") :: (.ref 80) :: []).toArray, #[]⟩
def ho76 (P : Params) : Obj := ⟨(.type "dict"), none, .dict (en P "__module__" 287 (.str "stow.errors" 187) :: en P "__qualname__" 289 (.str "NoAsk" 288) :: en P "__firstlineno__" 291 (.int 14 290) :: en P "__static_attributes__" 292 (.ref 90) :: []).toArray 4, #[]⟩
def ho79 (P : Params) : Obj := co ((.str "NoAsk" 282) :: (.str "NoAsk" 283) :: (.str "/claim/cut.py" 284) :: (.int 14 0) :: (.int 0 0) :: (.int 0 0) :: (.int 0 0) :: (.int 0 0) :: (.ref 86) :: (.bool false) :: (.int 181 0) :: (.ref 87) :: .none :: .none :: .none :: .none :: (.int 285 0) :: (.int 14 0) :: (.str "/claim/cut.py" 286) :: [])
def ho80 (P : Params) : Obj := ⟨(.type "frame"), none, .plain, ((some (.ref 88)) :: (some (.ref 3)) :: (some (.ref 85)) :: none :: (some (.str "stow.errors" 187)) :: none :: (some (.ref 0)) :: []).toArray⟩
def ho82 (P : Params) : Obj := ⟨(.type "dict"), none, .dict (en P "__module__" 287 (.str "stow.errors" 187) :: en P "__firstlineno__" 291 (.int 14 290) :: en P "__static_attributes__" 292 (.ref 90) :: en P "__doc__" 293 .none :: []).toArray 2, #[]⟩
def ho83 (P : Params) : Obj := ⟨(.type "type"), none, .cls ⟨"NoAsk", [(.ref 24)], [(.ref 92), (.ref 24), (.type "ValueError"), (.type "Exception"), (.type "BaseException"), (.type "object")], 91, "NoAsk", true, [], [], false, none, false⟩, ((some (.ref 83)) :: none :: (some (.str "NoAsk" 280)) :: (some (.str "NoAsk" 288)) :: (some (.builtin "ValueError.__new__")) :: (some (.bool true)) :: []).toArray⟩
def ho84 (P : Params) : Obj := ⟨(.type "super"), none, .fields ((.ref 92) :: (.ref 92) :: (.ref 92) :: []).toArray, #[]⟩
def ho85 (P : Params) : Obj := ⟨(.type "builtin_function_or_method"), none, .fields ((.builtin "object.__init_subclass__") :: (.ref 92) :: []).toArray, #[]⟩
def ho88 (P : Params) : Obj := ⟨(.type "dict"), none, .dict (en P "__module__" 303 (.str "stow.errors" 187) :: en P "__qualname__" 305 (.str "NoBound" 304) :: en P "__firstlineno__" 307 (.int 16 306) :: en P "__static_attributes__" 308 (.ref 102) :: []).toArray 4, #[]⟩
def ho91 (P : Params) : Obj := co ((.str "NoBound" 298) :: (.str "NoBound" 299) :: (.str "/claim/cut.py" 300) :: (.int 16 0) :: (.int 0 0) :: (.int 0 0) :: (.int 0 0) :: (.int 0 0) :: (.ref 98) :: (.bool false) :: (.int 181 0) :: (.ref 99) :: .none :: .none :: .none :: .none :: (.int 301 0) :: (.int 16 0) :: (.str "/claim/cut.py" 302) :: [])
def ho92 (P : Params) : Obj := ⟨(.type "frame"), none, .plain, ((some (.ref 100)) :: (some (.ref 3)) :: (some (.ref 97)) :: none :: (some (.str "stow.errors" 187)) :: none :: (some (.ref 0)) :: []).toArray⟩
def ho94 (P : Params) : Obj := ⟨(.type "dict"), none, .dict (en P "__module__" 303 (.str "stow.errors" 187) :: en P "__firstlineno__" 307 (.int 16 306) :: en P "__static_attributes__" 308 (.ref 102) :: en P "__doc__" 309 .none :: []).toArray 2, #[]⟩
def ho95 (P : Params) : Obj := ⟨(.type "type"), none, .cls ⟨"NoBound", [(.ref 24)], [(.ref 104), (.ref 24), (.type "ValueError"), (.type "Exception"), (.type "BaseException"), (.type "object")], 103, "NoBound", true, [], [], false, none, false⟩, ((some (.ref 95)) :: none :: (some (.str "NoBound" 296)) :: (some (.str "NoBound" 304)) :: (some (.builtin "ValueError.__new__")) :: (some (.bool true)) :: []).toArray⟩
def ho96 (P : Params) : Obj := ⟨(.type "super"), none, .fields ((.ref 104) :: (.ref 104) :: (.ref 104) :: []).toArray, #[]⟩
def ho97 (P : Params) : Obj := ⟨(.type "builtin_function_or_method"), none, .fields ((.builtin "object.__init_subclass__") :: (.ref 104) :: []).toArray, #[]⟩
def ho100 (P : Params) : Obj := ⟨(.type "dict"), none, .dict (en P "__module__" 319 (.str "stow.errors" 187) :: en P "__qualname__" 321 (.str "NoRoom" 320) :: en P "__firstlineno__" 323 (.int 18 322) :: en P "__static_attributes__" 324 (.ref 114) :: []).toArray 4, #[]⟩
def ho103 (P : Params) : Obj := co ((.str "NoRoom" 314) :: (.str "NoRoom" 315) :: (.str "/claim/cut.py" 316) :: (.int 18 0) :: (.int 0 0) :: (.int 0 0) :: (.int 0 0) :: (.int 0 0) :: (.ref 110) :: (.bool false) :: (.int 181 0) :: (.ref 111) :: .none :: .none :: .none :: .none :: (.int 317 0) :: (.int 18 0) :: (.str "/claim/cut.py" 318) :: [])
def ho104 (P : Params) : Obj := ⟨(.type "frame"), none, .plain, ((some (.ref 112)) :: (some (.ref 3)) :: (some (.ref 109)) :: none :: (some (.str "stow.errors" 187)) :: none :: (some (.ref 0)) :: []).toArray⟩
def ho106 (P : Params) : Obj := ⟨(.type "dict"), none, .dict (en P "__module__" 319 (.str "stow.errors" 187) :: en P "__firstlineno__" 323 (.int 18 322) :: en P "__static_attributes__" 324 (.ref 114) :: en P "__doc__" 325 .none :: []).toArray 2, #[]⟩
def ho107 (P : Params) : Obj := ⟨(.type "type"), none, .cls ⟨"NoRoom", [(.ref 24)], [(.ref 116), (.ref 24), (.type "ValueError"), (.type "Exception"), (.type "BaseException"), (.type "object")], 115, "NoRoom", true, [], [], false, none, false⟩, ((some (.ref 107)) :: none :: (some (.str "NoRoom" 312)) :: (some (.str "NoRoom" 320)) :: (some (.builtin "ValueError.__new__")) :: (some (.bool true)) :: []).toArray⟩
def ho108 (P : Params) : Obj := ⟨(.type "super"), none, .fields ((.ref 116) :: (.ref 116) :: (.ref 116) :: []).toArray, #[]⟩
def ho109 (P : Params) : Obj := ⟨(.type "builtin_function_or_method"), none, .fields ((.builtin "object.__init_subclass__") :: (.ref 116) :: []).toArray, #[]⟩
def ho110 (P : Params) : Obj := ⟨(.type "dict"), none, .dict (en P "__name__" 165 (.str "stow.stretches" 723) :: en P "__doc__" 166 .none :: en P "__package__" 167 .none :: en P "__loader__" 168 (.builtin "__main__.__loader__#opaque") :: en P "__spec__" 169 .none :: en P "__annotations__" 170 (.ref 6) :: en P "__builtins__" 171 (.ref 4) :: en P "__file__" 173 (.str "/claim/cut.py" 172) :: en P "__cached__" 174 .none :: en P "StowError" 206 (.ref 24) :: en P "NoSize" 222 (.ref 37) :: en P "Broken" 247 (.ref 56) :: en P "NoPiece" 263 (.ref 68) :: en P "NoCell" 279 (.ref 80) :: en P "NoAsk" 295 (.ref 92) :: en P "NoBound" 311 (.ref 104) :: en P "NoRoom" 327 (.ref 116) :: en P "MARKS" 331 (.int 2 330) :: en P "check_ask" 339 (.ref 125) :: en P "check_plain_ask" 347 (.ref 132) :: en P "mark_of" 357 (.ref 139) :: en P "long_of" 364 (.ref 146) :: en P "live_of" 371 (.ref 153) :: en P "LEAST_LIVE" 375 (.int 3 374) :: en P "can_begin" 384 (.ref 160) :: en P "bad_of_piece" 393 (.ref 167) :: en P "looked" 404 (.ref 174) :: en P "fresh_room" 412 (.ref 181) :: en P "laid" 425 (.ref 188) :: en P "laid_free" 434 (.ref 195) :: en P "piece_at" 443 (.ref 202) :: en P "live_at" 452 (.ref 209) :: en P "free_at" 461 (.ref 216) :: en P "begin_around" 467 (.ref 221) :: en P "free_begin" 475 (.ref 228) :: en P "free_end" 483 (.ref 235) :: en P "cut_out" 498 (.ref 242) :: en P "freed" 509 (.ref 249) :: en P "joined_pieces" 520 (.ref 256) :: en P "joined" 531 (.ref 263) :: en P "carried" 542 (.ref 270) :: en P "Keeper" 695 (.ref 380) :: en P "first_place" 710 (.ref 391) :: en P "spots_for" 722 (.ref 398) :: en P "least_place" 731 (.ref 405) :: en P "Stretches" 809 (.ref 459) :: []).toArray 46, #[]⟩
def ho111 (P : Params) : Obj := fl ((.int 2 0) :: (.int 0 0) :: (.ref 20) :: (.int 4 0) :: (.int 0 0) :: (.ref 33) :: (.int 6 0) :: (.int 0 0) :: (.ref 45) :: (.int 10 0) :: (.int 0 0) :: (.ref 64) :: (.int 12 0) :: (.int 0 0) :: (.ref 76) :: (.int 14 0) :: (.int 0 0) :: (.ref 88) :: (.int 16 0) :: (.int 0 0) :: (.ref 100) :: (.int 18 0) :: (.int 0 0) :: (.ref 112) :: (.int 22 0) :: (.int 0 0) :: (.ref 124) :: (.int 25 0) :: (.int 0 0) :: (.ref 131) :: (.int 30 0) :: (.int 0 0) :: (.ref 138) :: (.int 34 0) :: (.int 0 0) :: (.ref 145) :: (.int 36 0) :: (.int 0 0) :: (.ref 152) :: (.int 40 0) :: (.int 0 0) :: (.ref 159) :: (.int 45 0) :: (.int 0 0) :: (.ref 166) :: (.int 52 0) :: (.int 0 0) :: (.ref 173) :: (.int 63 0) :: (.int 0 0) :: (.ref 180) :: (.int 71 0) :: (.int 0 0) :: (.ref 187) :: (.int 76 0) :: (.int 0 0) :: (.ref 194) :: (.int 80 0) :: (.int 0 0) :: (.ref 201) :: (.int 85 0) :: (.int 0 0) :: (.ref 208) :: (.int 90 0) :: (.int 0 0) :: (.ref 215) :: (.int 95 0) :: (.int 0 0) :: (.ref 220) :: (.int 98 0) :: (.int 0 0) :: (.ref 227) :: (.int 102 0) :: (.int 0 0) :: (.ref 234) :: (.int 106 0) :: (.int 0 0) :: (.ref 241) :: (.int 114 0) :: (.int 0 0) :: (.ref 248) :: (.int 117 0) :: (.int 0 0) :: (.ref 255) :: (.int 125 0) :: (.int 0 0) :: (.ref 262) :: (.int 130 0) :: (.int 0 0) :: (.ref 269) :: (.int 134 0) :: (.int 0 0) :: (.ref 276) :: (.int 195 0) :: (.int 0 0) :: (.ref 390) :: (.int 201 0) :: (.int 0 0) :: (.ref 397) :: (.int 209 0) :: (.int 0 0) :: (.ref 404) :: (.int 213 0) :: (.int 0 0) :: (.ref 411) :: [])
def ho114 (P : Params) : Obj := tu ((.str "count" 335) :: (.str "bound" 336) :: [])
def ho116 (P : Params) : Obj := fq "check_ask" "check_ask" (top 11)
def ho117 (P : Params) : Obj := co ((.str "check_ask" 332) :: (.str "check_ask" 333) :: (.str "/claim/cut.py" 334) :: (.int 22 0) :: (.int 2 0) :: (.int 0 0) :: (.int 0 0) :: (.int 3 0) :: (.ref 119) :: (.bool true) :: (.int 181 0) :: (.ref 120) :: .none :: (.ref 121) :: (.ref 122) :: (.ref 123) :: (.int 337 0) :: (.int 22 0) :: (.str "/claim/cut.py" 338) :: [])
def ho118 (P : Params) : Obj := fo "check_ask" "check_ask" (top 11) .none .none .none (.str "stow.asks" 328) none (.ref 124) .none none
def ho121 (P : Params) : Obj := tu ((.str "count" 343) :: (.str "bound" 344) :: [])
def ho123 (P : Params) : Obj := fq "check_plain_ask" "check_plain_ask" (top 12)
def ho124 (P : Params) : Obj := co ((.str "check_plain_ask" 340) :: (.str "check_plain_ask" 341) :: (.str "/claim/cut.py" 342) :: (.int 25 0) :: (.int 2 0) :: (.int 0 0) :: (.int 0 0) :: (.int 3 0) :: (.ref 126) :: (.bool true) :: (.int 181 0) :: (.ref 127) :: .none :: (.ref 128) :: (.ref 129) :: (.ref 130) :: (.int 345 0) :: (.int 25 0) :: (.str "/claim/cut.py" 346) :: [])
def ho125 (P : Params) : Obj := fo "check_plain_ask" "check_plain_ask" (top 12) .none .none .none (.str "stow.asks" 328) none (.ref 131) .none none
def ho128 (P : Params) : Obj := tu ((.str "long" 353) :: (.str "live" 354) :: [])
def ho130 (P : Params) : Obj := fq "mark_of" "mark_of" (top 14)
def ho131 (P : Params) : Obj := co ((.str "mark_of" 350) :: (.str "mark_of" 351) :: (.str "/claim/cut.py" 352) :: (.int 30 0) :: (.int 2 0) :: (.int 0 0) :: (.int 0 0) :: (.int 3 0) :: (.ref 133) :: (.bool true) :: (.int 181 0) :: (.ref 134) :: .none :: (.ref 135) :: (.ref 136) :: (.ref 137) :: (.int 355 0) :: (.int 30 0) :: (.str "/claim/cut.py" 356) :: [])
def ho132 (P : Params) : Obj := fo "mark_of" "mark_of" (top 14) .none .none .none (.str "stow.marks" 348) none (.ref 138) .none none
def ho135 (P : Params) : Obj := tu ((.str "number" 361) :: [])
def ho137 (P : Params) : Obj := fq "long_of" "long_of" (top 15)
def ho138 (P : Params) : Obj := co ((.str "long_of" 358) :: (.str "long_of" 359) :: (.str "/claim/cut.py" 360) :: (.int 34 0) :: (.int 1 0) :: (.int 0 0) :: (.int 0 0) :: (.int 3 0) :: (.ref 140) :: (.bool true) :: (.int 181 0) :: (.ref 141) :: .none :: (.ref 142) :: (.ref 143) :: (.ref 144) :: (.int 362 0) :: (.int 34 0) :: (.str "/claim/cut.py" 363) :: [])
def ho139 (P : Params) : Obj := fo "long_of" "long_of" (top 15) .none .none .none (.str "stow.marks" 348) none (.ref 145) .none none
def ho142 (P : Params) : Obj := tu ((.str "number" 368) :: [])
def ho144 (P : Params) : Obj := fq "live_of" "live_of" (top 16)
def ho145 (P : Params) : Obj := co ((.str "live_of" 365) :: (.str "live_of" 366) :: (.str "/claim/cut.py" 367) :: (.int 36 0) :: (.int 1 0) :: (.int 0 0) :: (.int 0 0) :: (.int 3 0) :: (.ref 147) :: (.bool true) :: (.int 181 0) :: (.ref 148) :: .none :: (.ref 149) :: (.ref 150) :: (.ref 151) :: (.int 369 0) :: (.int 36 0) :: (.str "/claim/cut.py" 370) :: [])
def ho146 (P : Params) : Obj := fo "live_of" "live_of" (top 16) .none .none .none (.str "stow.marks" 348) none (.ref 152) .none none
def ho149 (P : Params) : Obj := tu ((.str "cells" 379) :: (.str "at" 380) :: (.str "long" 381) :: [])
def ho151 (P : Params) : Obj := fq "can_begin" "can_begin" (top 19)
def ho152 (P : Params) : Obj := co ((.str "can_begin" 376) :: (.str "can_begin" 377) :: (.str "/claim/cut.py" 378) :: (.int 40 0) :: (.int 2 0) :: (.int 0 0) :: (.int 0 0) :: (.int 3 0) :: (.ref 154) :: (.bool true) :: (.int 181 0) :: (.ref 155) :: .none :: (.ref 156) :: (.ref 157) :: (.ref 158) :: (.int 382 0) :: (.int 40 0) :: (.str "/claim/cut.py" 383) :: [])
def ho153 (P : Params) : Obj := fo "can_begin" "can_begin" (top 19) .none .none .none (.str "stow.looks" 372) none (.ref 159) .none none
def ho156 (P : Params) : Obj := tu ((.str "cells" 388) :: (.str "at" 389) :: (.str "last" 390) :: [])
def ho158 (P : Params) : Obj := fq "bad_of_piece" "bad_of_piece" (top 20)
def ho159 (P : Params) : Obj := co ((.str "bad_of_piece" 385) :: (.str "bad_of_piece" 386) :: (.str "/claim/cut.py" 387) :: (.int 45 0) :: (.int 2 0) :: (.int 0 0) :: (.int 0 0) :: (.int 3 0) :: (.ref 161) :: (.bool true) :: (.int 181 0) :: (.ref 162) :: .none :: (.ref 163) :: (.ref 164) :: (.ref 165) :: (.int 391 0) :: (.int 45 0) :: (.str "/claim/cut.py" 392) :: [])
def ho160 (P : Params) : Obj := fo "bad_of_piece" "bad_of_piece" (top 20) .none .none .none (.str "stow.looks" 372) none (.ref 166) .none none
def ho163 (P : Params) : Obj := tu ((.str "cells" 397) :: (.str "pieces" 398) :: (.str "at" 399) :: (.str "bad" 400) :: (.str "long" 401) :: [])
def ho165 (P : Params) : Obj := fq "looked" "looked" (top 21)
def ho166 (P : Params) : Obj := co ((.str "looked" 394) :: (.str "looked" 395) :: (.str "/claim/cut.py" 396) :: (.int 52 0) :: (.int 1 0) :: (.int 0 0) :: (.int 0 0) :: (.int 3 0) :: (.ref 168) :: (.bool true) :: (.int 181 0) :: (.ref 169) :: .none :: (.ref 170) :: (.ref 171) :: (.ref 172) :: (.int 402 0) :: (.int 52 0) :: (.str "/claim/cut.py" 403) :: [])
def ho167 (P : Params) : Obj := fo "looked" "looked" (top 21) .none .none .none (.str "stow.looks" 372) none (.ref 173) .none none
def ho170 (P : Params) : Obj := tu ((.str "count" 408) :: (.str "cells" 409) :: [])
def ho172 (P : Params) : Obj := fq "fresh_room" "fresh_room" (top 22)
def ho173 (P : Params) : Obj := co ((.str "fresh_room" 405) :: (.str "fresh_room" 406) :: (.str "/claim/cut.py" 407) :: (.int 63 0) :: (.int 1 0) :: (.int 0 0) :: (.int 0 0) :: (.int 3 0) :: (.ref 175) :: (.bool true) :: (.int 181 0) :: (.ref 176) :: .none :: (.ref 177) :: (.ref 178) :: (.ref 179) :: (.int 410 0) :: (.int 63 0) :: (.str "/claim/cut.py" 411) :: [])
def ho174 (P : Params) : Obj := fo "fresh_room" "fresh_room" (top 22) .none .none .none (.str "stow.looks" 372) none (.ref 180) .none none
def ho177 (P : Params) : Obj := tu ((.str "cells" 418) :: (.str "at" 419) :: (.str "long" 420) :: (.str "live" 421) :: (.str "row" 422) :: [])
def ho179 (P : Params) : Obj := fq "laid" "laid" (top 24)
def ho180 (P : Params) : Obj := co ((.str "laid" 415) :: (.str "laid" 416) :: (.str "/claim/cut.py" 417) :: (.int 71 0) :: (.int 4 0) :: (.int 0 0) :: (.int 0 0) :: (.int 3 0) :: (.ref 182) :: (.bool true) :: (.int 181 0) :: (.ref 183) :: .none :: (.ref 184) :: (.ref 185) :: (.ref 186) :: (.int 423 0) :: (.int 71 0) :: (.str "/claim/cut.py" 424) :: [])
def ho181 (P : Params) : Obj := fo "laid" "laid" (top 24) .none .none .none (.str "stow.pieces" 413) none (.ref 187) .none none
def ho184 (P : Params) : Obj := tu ((.str "cells" 429) :: (.str "begin" 430) :: (.str "end" 431) :: [])
def ho186 (P : Params) : Obj := fq "laid_free" "laid_free" (top 25)
def ho187 (P : Params) : Obj := co ((.str "laid_free" 426) :: (.str "laid_free" 427) :: (.str "/claim/cut.py" 428) :: (.int 76 0) :: (.int 3 0) :: (.int 0 0) :: (.int 0 0) :: (.int 3 0) :: (.ref 189) :: (.bool true) :: (.int 181 0) :: (.ref 190) :: .none :: (.ref 191) :: (.ref 192) :: (.ref 193) :: (.int 432 0) :: (.int 76 0) :: (.str "/claim/cut.py" 433) :: [])
def ho188 (P : Params) : Obj := fo "laid_free" "laid_free" (top 25) .none .none .none (.str "stow.pieces" 413) none (.ref 194) .none none
def ho191 (P : Params) : Obj := tu ((.str "cells" 438) :: (.str "at" 439) :: (.str "piece" 440) :: [])
def ho193 (P : Params) : Obj := fq "piece_at" "piece_at" (top 26)
def ho194 (P : Params) : Obj := co ((.str "piece_at" 435) :: (.str "piece_at" 436) :: (.str "/claim/cut.py" 437) :: (.int 80 0) :: (.int 2 0) :: (.int 0 0) :: (.int 0 0) :: (.int 3 0) :: (.ref 196) :: (.bool true) :: (.int 181 0) :: (.ref 197) :: .none :: (.ref 198) :: (.ref 199) :: (.ref 200) :: (.int 441 0) :: (.int 80 0) :: (.str "/claim/cut.py" 442) :: [])
def ho195 (P : Params) : Obj := fo "piece_at" "piece_at" (top 26) .none .none .none (.str "stow.pieces" 413) none (.ref 201) .none none
def ho198 (P : Params) : Obj := tu ((.str "cells" 447) :: (.str "at" 448) :: (.str "piece" 449) :: [])
def ho200 (P : Params) : Obj := fq "live_at" "live_at" (top 27)
def ho201 (P : Params) : Obj := co ((.str "live_at" 444) :: (.str "live_at" 445) :: (.str "/claim/cut.py" 446) :: (.int 85 0) :: (.int 2 0) :: (.int 0 0) :: (.int 0 0) :: (.int 3 0) :: (.ref 203) :: (.bool true) :: (.int 181 0) :: (.ref 204) :: .none :: (.ref 205) :: (.ref 206) :: (.ref 207) :: (.int 450 0) :: (.int 85 0) :: (.str "/claim/cut.py" 451) :: [])
def ho202 (P : Params) : Obj := fo "live_at" "live_at" (top 27) .none .none .none (.str "stow.pieces" 413) none (.ref 208) .none none
def ho205 (P : Params) : Obj := tu ((.str "cells" 456) :: (.str "at" 457) :: (.str "piece" 458) :: [])
def ho207 (P : Params) : Obj := fq "free_at" "free_at" (top 28)
def ho208 (P : Params) : Obj := co ((.str "free_at" 453) :: (.str "free_at" 454) :: (.str "/claim/cut.py" 455) :: (.int 90 0) :: (.int 2 0) :: (.int 0 0) :: (.int 0 0) :: (.int 3 0) :: (.ref 210) :: (.bool true) :: (.int 181 0) :: (.ref 211) :: .none :: (.ref 212) :: (.ref 213) :: (.ref 214) :: (.int 459 0) :: (.int 90 0) :: (.str "/claim/cut.py" 460) :: [])
def ho209 (P : Params) : Obj := fo "free_at" "free_at" (top 28) .none .none .none (.str "stow.pieces" 413) none (.ref 215) .none none
def ho212 (P : Params) : Obj := fq "begin_around" "begin_around" (top 29)
def ho213 (P : Params) : Obj := co ((.str "begin_around" 462) :: (.str "begin_around" 463) :: (.str "/claim/cut.py" 464) :: (.int 95 0) :: (.int 2 0) :: (.int 0 0) :: (.int 0 0) :: (.int 3 0) :: (.ref 217) :: (.bool true) :: (.int 181 0) :: (.ref 218) :: .none :: .none :: .none :: (.ref 219) :: (.int 465 0) :: (.int 95 0) :: (.str "/claim/cut.py" 466) :: [])
def ho214 (P : Params) : Obj := fo "begin_around" "begin_around" (top 29) .none .none .none (.str "stow.pieces" 413) none (.ref 220) .none none
def ho217 (P : Params) : Obj := tu ((.str "cells" 471) :: (.str "at" 472) :: [])
def ho219 (P : Params) : Obj := fq "free_begin" "free_begin" (top 30)
def ho220 (P : Params) : Obj := co ((.str "free_begin" 468) :: (.str "free_begin" 469) :: (.str "/claim/cut.py" 470) :: (.int 98 0) :: (.int 2 0) :: (.int 0 0) :: (.int 0 0) :: (.int 3 0) :: (.ref 222) :: (.bool true) :: (.int 181 0) :: (.ref 223) :: .none :: (.ref 224) :: (.ref 225) :: (.ref 226) :: (.int 473 0) :: (.int 98 0) :: (.str "/claim/cut.py" 474) :: [])
def ho221 (P : Params) : Obj := fo "free_begin" "free_begin" (top 30) .none .none .none (.str "stow.pieces" 413) none (.ref 227) .none none
def ho224 (P : Params) : Obj := tu ((.str "cells" 479) :: (.str "end" 480) :: [])
def ho226 (P : Params) : Obj := fq "free_end" "free_end" (top 31)
def ho227 (P : Params) : Obj := co ((.str "free_end" 476) :: (.str "free_end" 477) :: (.str "/claim/cut.py" 478) :: (.int 102 0) :: (.int 2 0) :: (.int 0 0) :: (.int 0 0) :: (.int 3 0) :: (.ref 229) :: (.bool true) :: (.int 181 0) :: (.ref 230) :: .none :: (.ref 231) :: (.ref 232) :: (.ref 233) :: (.int 481 0) :: (.int 102 0) :: (.str "/claim/cut.py" 482) :: [])
def ho228 (P : Params) : Obj := fo "free_end" "free_end" (top 31) .none .none .none (.str "stow.pieces" 413) none (.ref 234) .none none
def ho231 (P : Params) : Obj := tu ((.str "cells" 487) :: (.str "at" 488) :: (.str "place" 489) :: (.str "long" 490) :: (.str "begin" 491) :: (.str "free_long" 492) :: (.str "live" 493) :: (.str "end" 494) :: (.str "row" 495) :: [])
def ho233 (P : Params) : Obj := fq "cut_out" "cut_out" (top 32)
def ho234 (P : Params) : Obj := co ((.str "cut_out" 484) :: (.str "cut_out" 485) :: (.str "/claim/cut.py" 486) :: (.int 106 0) :: (.int 4 0) :: (.int 0 0) :: (.int 0 0) :: (.int 3 0) :: (.ref 236) :: (.bool true) :: (.int 181 0) :: (.ref 237) :: .none :: (.ref 238) :: (.ref 239) :: (.ref 240) :: (.int 496 0) :: (.int 106 0) :: (.str "/claim/cut.py" 497) :: [])
def ho235 (P : Params) : Obj := fo "cut_out" "cut_out" (top 32) .none .none .none (.str "stow.pieces" 413) none (.ref 241) .none none
def ho238 (P : Params) : Obj := tu ((.str "cells" 502) :: (.str "at" 503) :: (.str "begin" 504) :: (.str "long" 505) :: (.str "live" 506) :: [])
def ho240 (P : Params) : Obj := fq "freed" "freed" (top 33)
def ho241 (P : Params) : Obj := co ((.str "freed" 499) :: (.str "freed" 500) :: (.str "/claim/cut.py" 501) :: (.int 114 0) :: (.int 2 0) :: (.int 0 0) :: (.int 0 0) :: (.int 3 0) :: (.ref 243) :: (.bool true) :: (.int 181 0) :: (.ref 244) :: .none :: (.ref 245) :: (.ref 246) :: (.ref 247) :: (.int 507 0) :: (.int 114 0) :: (.str "/claim/cut.py" 508) :: [])
def ho242 (P : Params) : Obj := fo "freed" "freed" (top 33) .none .none .none (.str "stow.pieces" 413) none (.ref 248) .none none
def ho245 (P : Params) : Obj := tu ((.str "pieces" 513) :: (.str "row" 514) :: (.str "at" 515) :: (.str "long" 516) :: (.str "live" 517) :: [])
def ho247 (P : Params) : Obj := fq "joined_pieces" "joined_pieces" (top 34)
def ho248 (P : Params) : Obj := co ((.str "joined_pieces" 510) :: (.str "joined_pieces" 511) :: (.str "/claim/cut.py" 512) :: (.int 117 0) :: (.int 1 0) :: (.int 0 0) :: (.int 0 0) :: (.int 3 0) :: (.ref 250) :: (.bool true) :: (.int 181 0) :: (.ref 251) :: .none :: (.ref 252) :: (.ref 253) :: (.ref 254) :: (.int 518 0) :: (.int 117 0) :: (.str "/claim/cut.py" 519) :: [])
def ho249 (P : Params) : Obj := fo "joined_pieces" "joined_pieces" (top 34) .none .none .none (.str "stow.pieces" 413) none (.ref 255) .none none
def ho252 (P : Params) : Obj := tu ((.str "cells" 524) :: (.str "row" 525) :: (.str "at" 526) :: (.str "long" 527) :: (.str "live" 528) :: [])
def ho254 (P : Params) : Obj := fq "joined" "joined" (top 35)
def ho255 (P : Params) : Obj := co ((.str "joined" 521) :: (.str "joined" 522) :: (.str "/claim/cut.py" 523) :: (.int 125 0) :: (.int 1 0) :: (.int 0 0) :: (.int 0 0) :: (.int 3 0) :: (.ref 257) :: (.bool true) :: (.int 181 0) :: (.ref 258) :: .none :: (.ref 259) :: (.ref 260) :: (.ref 261) :: (.int 529 0) :: (.int 125 0) :: (.str "/claim/cut.py" 530) :: [])
def ho256 (P : Params) : Obj := fo "joined" "joined" (top 35) .none .none .none (.str "stow.pieces" 413) none (.ref 262) .none none
def ho259 (P : Params) : Obj := tu ((.str "cells" 535) :: (.str "source" 536) :: (.str "goal" 537) :: (.str "count" 538) :: (.str "row" 539) :: [])
def ho261 (P : Params) : Obj := fq "carried" "carried" (top 36)
def ho262 (P : Params) : Obj := co ((.str "carried" 532) :: (.str "carried" 533) :: (.str "/claim/cut.py" 534) :: (.int 130 0) :: (.int 4 0) :: (.int 0 0) :: (.int 0 0) :: (.int 3 0) :: (.ref 264) :: (.bool true) :: (.int 181 0) :: (.ref 265) :: .none :: (.ref 266) :: (.ref 267) :: (.ref 268) :: (.int 540 0) :: (.int 130 0) :: (.str "/claim/cut.py" 541) :: [])
def ho263 (P : Params) : Obj := fo "carried" "carried" (top 36) .none .none .none (.str "stow.pieces" 413) none (.ref 269) .none none
def ho266 (P : Params) : Obj := ⟨(.type "dict"), none, .dict (en P "__module__" 552 (.str "stow.keepers" 543) :: en P "__qualname__" 554 (.str "Keeper" 553) :: en P "__firstlineno__" 556 (.int 134 555) :: en P "__init__" 564 (.ref 284) :: en P "cells" 571 (.ref 291) :: en P "pieces" 578 (.ref 298) :: en P "lay" 586 (.ref 305) :: en P "clear" 593 (.ref 312) :: en P "many" 604 (.ref 319) :: en P "get" 613 (.ref 326) :: en P "put" 624 (.ref 333) :: en P "ask" 634 (.ref 341) :: en P "give" 645 (.ref 348) :: en P "grow" 657 (.ref 356) :: en P "room_begin" 665 (.ref 363) :: en P "room_cell_of" 675 (.ref 370) :: en P "room_moved" 686 (.ref 377) :: en P "__static_attributes__" 688 (.ref 378) :: []).toArray 18, #[]⟩
def ho268 (P : Params) : Obj := fl ((.int 136 0) :: (.int 4 0) :: (.ref 283) :: (.int 139 0) :: (.int 4 0) :: (.ref 290) :: (.int 142 0) :: (.int 4 0) :: (.ref 297) :: (.int 145 0) :: (.int 4 0) :: (.ref 304) :: (.int 151 0) :: (.int 4 0) :: (.ref 311) :: (.int 154 0) :: (.int 4 0) :: (.ref 318) :: (.int 158 0) :: (.int 4 0) :: (.ref 325) :: (.int 161 0) :: (.int 4 0) :: (.ref 332) :: (.int 165 0) :: (.int 4 0) :: (.ref 340) :: (.int 169 0) :: (.int 4 0) :: (.ref 347) :: (.int 173 0) :: (.int 4 0) :: (.ref 355) :: (.int 180 0) :: (.int 4 0) :: (.ref 362) :: (.int 183 0) :: (.int 4 0) :: (.ref 369) :: (.int 189 0) :: (.int 4 0) :: (.ref 376) :: [])
def ho269 (P : Params) : Obj := co ((.str "Keeper" 547) :: (.str "Keeper" 548) :: (.str "/claim/cut.py" 549) :: (.int 134 0) :: (.int 0 0) :: (.int 0 0) :: (.int 0 0) :: (.int 0 0) :: (.ref 274) :: (.bool false) :: (.int 181 0) :: (.ref 275) :: .none :: .none :: .none :: .none :: (.int 550 0) :: (.int 134 0) :: (.str "/claim/cut.py" 551) :: [])
def ho270 (P : Params) : Obj := ⟨(.type "frame"), none, .plain, ((some (.ref 276)) :: (some (.ref 3)) :: (some (.ref 273)) :: none :: (some (.str "stow.keepers" 543)) :: none :: (some (.ref 0)) :: []).toArray⟩
def ho273 (P : Params) : Obj := tu ((.str "self" 560) :: (.str "size" 561) :: [])
def ho275 (P : Params) : Obj := fq "__init__" "Keeper.__init__" (Xaj (top 38) 0)
def ho276 (P : Params) : Obj := co ((.str "__init__" 557) :: (.str "Keeper.__init__" 558) :: (.str "/claim/cut.py" 559) :: (.int 136 0) :: (.int 2 0) :: (.int 0 0) :: (.int 0 0) :: (.int 3 0) :: (.ref 278) :: (.bool true) :: (.int 181 0) :: (.ref 279) :: .none :: (.ref 280) :: (.ref 281) :: (.ref 282) :: (.int 562 0) :: (.int 136 0) :: (.str "/claim/cut.py" 563) :: [])
def ho277 (P : Params) : Obj := fo "__init__" "Keeper.__init__" (Xaj (top 38) 0) .none .none .none (.str "stow.keepers" 543) none (.ref 283) .none none
def ho280 (P : Params) : Obj := tu ((.str "self" 568) :: [])
def ho282 (P : Params) : Obj := fq "cells" "Keeper.cells" (Xaj (top 38) 1)
def ho283 (P : Params) : Obj := co ((.str "cells" 565) :: (.str "Keeper.cells" 566) :: (.str "/claim/cut.py" 567) :: (.int 139 0) :: (.int 1 0) :: (.int 0 0) :: (.int 0 0) :: (.int 3 0) :: (.ref 285) :: (.bool true) :: (.int 181 0) :: (.ref 286) :: .none :: (.ref 287) :: (.ref 288) :: (.ref 289) :: (.int 569 0) :: (.int 139 0) :: (.str "/claim/cut.py" 570) :: [])
def ho284 (P : Params) : Obj := fo "cells" "Keeper.cells" (Xaj (top 38) 1) .none .none .none (.str "stow.keepers" 543) none (.ref 290) .none none
def ho287 (P : Params) : Obj := tu ((.str "self" 575) :: [])
def ho289 (P : Params) : Obj := fq "pieces" "Keeper.pieces" (Xaj (top 38) 2)
def ho290 (P : Params) : Obj := co ((.str "pieces" 572) :: (.str "Keeper.pieces" 573) :: (.str "/claim/cut.py" 574) :: (.int 142 0) :: (.int 1 0) :: (.int 0 0) :: (.int 0 0) :: (.int 3 0) :: (.ref 292) :: (.bool true) :: (.int 181 0) :: (.ref 293) :: .none :: (.ref 294) :: (.ref 295) :: (.ref 296) :: (.int 576 0) :: (.int 142 0) :: (.str "/claim/cut.py" 577) :: [])
def ho291 (P : Params) : Obj := fo "pieces" "Keeper.pieces" (Xaj (top 38) 2) .none .none .none (.str "stow.keepers" 543) none (.ref 297) .none none
def ho294 (P : Params) : Obj := tu ((.str "self" 582) :: (.str "cells" 583) :: [])
def ho296 (P : Params) : Obj := fq "lay" "Keeper.lay" (Xaj (top 38) 3)
def ho297 (P : Params) : Obj := co ((.str "lay" 579) :: (.str "Keeper.lay" 580) :: (.str "/claim/cut.py" 581) :: (.int 145 0) :: (.int 2 0) :: (.int 0 0) :: (.int 0 0) :: (.int 3 0) :: (.ref 299) :: (.bool true) :: (.int 181 0) :: (.ref 300) :: .none :: (.ref 301) :: (.ref 302) :: (.ref 303) :: (.int 584 0) :: (.int 145 0) :: (.str "/claim/cut.py" 585) :: [])
def ho298 (P : Params) : Obj := fo "lay" "Keeper.lay" (Xaj (top 38) 3) .none .none .none (.str "stow.keepers" 543) none (.ref 304) .none none
def ho301 (P : Params) : Obj := tu ((.str "self" 590) :: [])
def ho303 (P : Params) : Obj := fq "clear" "Keeper.clear" (Xaj (top 38) 4)
def ho304 (P : Params) : Obj := co ((.str "clear" 587) :: (.str "Keeper.clear" 588) :: (.str "/claim/cut.py" 589) :: (.int 151 0) :: (.int 1 0) :: (.int 0 0) :: (.int 0 0) :: (.int 3 0) :: (.ref 306) :: (.bool true) :: (.int 181 0) :: (.ref 307) :: .none :: (.ref 308) :: (.ref 309) :: (.ref 310) :: (.int 591 0) :: (.int 151 0) :: (.str "/claim/cut.py" 592) :: [])
def ho305 (P : Params) : Obj := fo "clear" "Keeper.clear" (Xaj (top 38) 4) .none .none .none (.str "stow.keepers" 543) none (.ref 311) .none none
def ho308 (P : Params) : Obj := tu ((.str "self" 597) :: (.str "place" 598) :: (.str "at" 599) :: (.str "long" 600) :: (.str "live" 601) :: [])
def ho310 (P : Params) : Obj := fq "many" "Keeper.many" (Xaj (top 38) 5)
def ho311 (P : Params) : Obj := co ((.str "many" 594) :: (.str "Keeper.many" 595) :: (.str "/claim/cut.py" 596) :: (.int 154 0) :: (.int 2 0) :: (.int 0 0) :: (.int 0 0) :: (.int 3 0) :: (.ref 313) :: (.bool true) :: (.int 181 0) :: (.ref 314) :: .none :: (.ref 315) :: (.ref 316) :: (.ref 317) :: (.int 602 0) :: (.int 154 0) :: (.str "/claim/cut.py" 603) :: [])
def ho312 (P : Params) : Obj := fo "many" "Keeper.many" (Xaj (top 38) 5) .none .none .none (.str "stow.keepers" 543) none (.ref 318) .none none
def ho315 (P : Params) : Obj := tu ((.str "self" 608) :: (.str "place" 609) :: (.str "k" 610) :: [])
def ho317 (P : Params) : Obj := fq "get" "Keeper.get" (Xaj (top 38) 6)
def ho318 (P : Params) : Obj := co ((.str "get" 605) :: (.str "Keeper.get" 606) :: (.str "/claim/cut.py" 607) :: (.int 158 0) :: (.int 3 0) :: (.int 0 0) :: (.int 0 0) :: (.int 3 0) :: (.ref 320) :: (.bool true) :: (.int 181 0) :: (.ref 321) :: .none :: (.ref 322) :: (.ref 323) :: (.ref 324) :: (.int 611 0) :: (.int 158 0) :: (.str "/claim/cut.py" 612) :: [])
def ho319 (P : Params) : Obj := fo "get" "Keeper.get" (Xaj (top 38) 6) .none .none .none (.str "stow.keepers" 543) none (.ref 325) .none none
def ho322 (P : Params) : Obj := tu ((.str "self" 617) :: (.str "place" 618) :: (.str "k" 619) :: (.str "number" 620) :: (.str "cell" 621) :: [])
def ho324 (P : Params) : Obj := fq "put" "Keeper.put" (Xaj (top 38) 7)
def ho325 (P : Params) : Obj := co ((.str "put" 614) :: (.str "Keeper.put" 615) :: (.str "/claim/cut.py" 616) :: (.int 161 0) :: (.int 4 0) :: (.int 0 0) :: (.int 0 0) :: (.int 3 0) :: (.ref 327) :: (.bool true) :: (.int 181 0) :: (.ref 328) :: .none :: (.ref 329) :: (.ref 330) :: (.ref 331) :: (.int 622 0) :: (.int 161 0) :: (.str "/claim/cut.py" 623) :: [])
def ho326 (P : Params) : Obj := fo "put" "Keeper.put" (Xaj (top 38) 7) .none .none .none (.str "stow.keepers" 543) none (.ref 332) .none none
def ho327 (P : Params) : Obj := tu ((.int 1 625) :: [])
def ho330 (P : Params) : Obj := tu ((.str "self" 629) :: (.str "count" 630) :: (.str "bound" 631) :: [])
def ho332 (P : Params) : Obj := fq "ask" "Keeper.ask" (Xaj (top 38) 8)
def ho333 (P : Params) : Obj := co ((.str "ask" 626) :: (.str "Keeper.ask" 627) :: (.str "/claim/cut.py" 628) :: (.int 165 0) :: (.int 3 0) :: (.int 0 0) :: (.int 0 0) :: (.int 3 0) :: (.ref 335) :: (.bool true) :: (.int 181 0) :: (.ref 336) :: .none :: (.ref 337) :: (.ref 338) :: (.ref 339) :: (.int 632 0) :: (.int 165 0) :: (.str "/claim/cut.py" 633) :: [])
def ho334 (P : Params) : Obj := fo "ask" "Keeper.ask" (Xaj (top 38) 8) (.ref 334) .none .none (.str "stow.keepers" 543) none (.ref 340) .none none
def ho337 (P : Params) : Obj := tu ((.str "self" 638) :: (.str "place" 639) :: (.str "at" 640) :: (.str "long" 641) :: (.str "live" 642) :: [])
def ho339 (P : Params) : Obj := fq "give" "Keeper.give" (Xaj (top 38) 9)
def ho340 (P : Params) : Obj := co ((.str "give" 635) :: (.str "Keeper.give" 636) :: (.str "/claim/cut.py" 637) :: (.int 169 0) :: (.int 2 0) :: (.int 0 0) :: (.int 0 0) :: (.int 3 0) :: (.ref 342) :: (.bool true) :: (.int 181 0) :: (.ref 343) :: .none :: (.ref 344) :: (.ref 345) :: (.ref 346) :: (.int 643 0) :: (.int 169 0) :: (.str "/claim/cut.py" 644) :: [])
def ho341 (P : Params) : Obj := fo "give" "Keeper.give" (Xaj (top 38) 9) .none .none .none (.str "stow.keepers" 543) none (.ref 347) .none none
def ho342 (P : Params) : Obj := tu ((.int 1 646) :: [])
def ho345 (P : Params) : Obj := tu ((.str "self" 650) :: (.str "place" 651) :: (.str "count" 652) :: (.str "bound" 653) :: (.str "had" 654) :: [])
def ho347 (P : Params) : Obj := fq "grow" "Keeper.grow" (Xaj (top 38) 10)
def ho348 (P : Params) : Obj := co ((.str "grow" 647) :: (.str "Keeper.grow" 648) :: (.str "/claim/cut.py" 649) :: (.int 173 0) :: (.int 4 0) :: (.int 0 0) :: (.int 0 0) :: (.int 3 0) :: (.ref 350) :: (.bool true) :: (.int 181 0) :: (.ref 351) :: .none :: (.ref 352) :: (.ref 353) :: (.ref 354) :: (.int 655 0) :: (.int 173 0) :: (.str "/claim/cut.py" 656) :: [])
def ho349 (P : Params) : Obj := fo "grow" "Keeper.grow" (Xaj (top 38) 10) (.ref 349) .none .none (.str "stow.keepers" 543) none (.ref 355) .none none
def ho352 (P : Params) : Obj := tu ((.str "self" 661) :: (.str "cells" 662) :: [])
def ho354 (P : Params) : Obj := fq "room_begin" "Keeper.room_begin" (Xaj (top 38) 11)
def ho355 (P : Params) : Obj := co ((.str "room_begin" 658) :: (.str "Keeper.room_begin" 659) :: (.str "/claim/cut.py" 660) :: (.int 180 0) :: (.int 2 0) :: (.int 0 0) :: (.int 0 0) :: (.int 3 0) :: (.ref 357) :: (.bool true) :: (.int 181 0) :: (.ref 358) :: .none :: (.ref 359) :: (.ref 360) :: (.ref 361) :: (.int 663 0) :: (.int 180 0) :: (.str "/claim/cut.py" 664) :: [])
def ho356 (P : Params) : Obj := fo "room_begin" "Keeper.room_begin" (Xaj (top 38) 11) .none .none .none (.str "stow.keepers" 543) none (.ref 362) .none none
def ho359 (P : Params) : Obj := tu ((.str "self" 669) :: (.str "place" 670) :: (.str "k" 671) :: (.str "many" 672) :: [])
def ho361 (P : Params) : Obj := fq "room_cell_of" "Keeper.room_cell_of" (Xaj (top 38) 12)
def ho362 (P : Params) : Obj := co ((.str "room_cell_of" 666) :: (.str "Keeper.room_cell_of" 667) :: (.str "/claim/cut.py" 668) :: (.int 183 0) :: (.int 3 0) :: (.int 0 0) :: (.int 0 0) :: (.int 3 0) :: (.ref 364) :: (.bool true) :: (.int 181 0) :: (.ref 365) :: .none :: (.ref 366) :: (.ref 367) :: (.ref 368) :: (.int 673 0) :: (.int 183 0) :: (.str "/claim/cut.py" 674) :: [])
def ho363 (P : Params) : Obj := fo "room_cell_of" "Keeper.room_cell_of" (Xaj (top 38) 12) .none .none .none (.str "stow.keepers" 543) none (.ref 369) .none none
def ho366 (P : Params) : Obj := tu ((.str "self" 679) :: (.str "place" 680) :: (.str "count" 681) :: (.str "bound" 682) :: (.str "goal" 683) :: [])
def ho368 (P : Params) : Obj := fq "room_moved" "Keeper.room_moved" (Xaj (top 38) 13)
def ho369 (P : Params) : Obj := co ((.str "room_moved" 676) :: (.str "Keeper.room_moved" 677) :: (.str "/claim/cut.py" 678) :: (.int 189 0) :: (.int 4 0) :: (.int 0 0) :: (.int 0 0) :: (.int 3 0) :: (.ref 371) :: (.bool true) :: (.int 181 0) :: (.ref 372) :: .none :: (.ref 373) :: (.ref 374) :: (.ref 375) :: (.int 684 0) :: (.int 189 0) :: (.str "/claim/cut.py" 685) :: [])
def ho370 (P : Params) : Obj := fo "room_moved" "Keeper.room_moved" (Xaj (top 38) 13) .none .none .none (.str "stow.keepers" 543) none (.ref 376) .none none
def ho371 (P : Params) : Obj := tu ((.str "room_cells" 687) :: [])
def ho372 (P : Params) : Obj := ⟨(.type "dict"), none, .dict (en P "__module__" 552 (.str "stow.keepers" 543) :: en P "__firstlineno__" 556 (.int 134 555) :: en P "__init__" 564 (.ref 284) :: en P "cells" 571 (.ref 291) :: en P "pieces" 578 (.ref 298) :: en P "lay" 586 (.ref 305) :: en P "clear" 593 (.ref 312) :: en P "many" 604 (.ref 319) :: en P "get" 613 (.ref 326) :: en P "put" 624 (.ref 333) :: en P "ask" 634 (.ref 341) :: en P "give" 645 (.ref 348) :: en P "grow" 657 (.ref 356) :: en P "room_begin" 665 (.ref 363) :: en P "room_cell_of" 675 (.ref 370) :: en P "room_moved" 686 (.ref 377) :: en P "__static_attributes__" 688 (.ref 378) :: en P "__dict__" 690 (.ref 381) :: en P "__weakref__" 692 (.ref 382) :: en P "__doc__" 693 .none :: []).toArray 4, #[]⟩
def ho373 (P : Params) : Obj := ⟨(.type "type"), none, .cls ⟨"Keeper", [(.type "object")], [(.ref 380), (.type "object")], 379, "Keeper", true, [], [(.ref 459)], false, none, false⟩, (none :: none :: (some (.str "Keeper" 545)) :: (some (.str "Keeper" 553)) :: (some (.builtin "object.__new__")) :: (some (.bool true)) :: []).toArray⟩
def ho374 (P : Params) : Obj := ⟨(.type "getset_descriptor"), none, .fields ((.str "__dict__" 689) :: (.ref 380) :: (.builtin "function.__dict__") :: (.builtin "function.__dict__#set") :: []).toArray, #[]⟩
def ho375 (P : Params) : Obj := ⟨(.type "getset_descriptor"), none, .fields ((.str "__weakref__" 691) :: (.ref 380) :: (.builtin "ExceptionGroup.__weakref__") :: .none :: []).toArray, #[]⟩
def ho376 (P : Params) : Obj := ⟨(.type "super"), none, .fields ((.ref 380) :: (.ref 380) :: (.ref 380) :: []).toArray, #[]⟩
def ho377 (P : Params) : Obj := ⟨(.type "builtin_function_or_method"), none, .fields ((.builtin "object.__init_subclass__") :: (.ref 380) :: []).toArray, #[]⟩
def ho380 (P : Params) : Obj := tu ((.str "piece" 701) :: (.str "long" 702) :: (.str "bound" 703) :: (.str "at" 704) :: (.str "piece_long" 705) :: (.str "live" 706) :: (.str "place" 707) :: [])
def ho382 (P : Params) : Obj := fq "first_place" "first_place" (top 40)
def ho383 (P : Params) : Obj := co ((.str "first_place" 698) :: (.str "first_place" 699) :: (.str "/claim/cut.py" 700) :: (.int 195 0) :: (.int 3 0) :: (.int 0 0) :: (.int 0 0) :: (.int 3 0) :: (.ref 385) :: (.bool true) :: (.int 181 0) :: (.ref 386) :: .none :: (.ref 387) :: (.ref 388) :: (.ref 389) :: (.int 708 0) :: (.int 195 0) :: (.str "/claim/cut.py" 709) :: [])
def ho384 (P : Params) : Obj := fo "first_place" "first_place" (top 40) .none .none .none (.str "stow.places" 696) none (.ref 390) .none none
def ho387 (P : Params) : Obj := tu ((.str "cells" 714) :: (.str "long" 715) :: (.str "bound" 716) :: (.str "spots" 717) :: (.str "piece" 718) :: (.str "place" 719) :: [])
def ho389 (P : Params) : Obj := fq "spots_for" "spots_for" (top 41)
def ho390 (P : Params) : Obj := co ((.str "spots_for" 711) :: (.str "spots_for" 712) :: (.str "/claim/cut.py" 713) :: (.int 201 0) :: (.int 3 0) :: (.int 0 0) :: (.int 0 0) :: (.int 3 0) :: (.ref 392) :: (.bool true) :: (.int 181 0) :: (.ref 393) :: .none :: (.ref 394) :: (.ref 395) :: (.ref 396) :: (.int 720 0) :: (.int 201 0) :: (.str "/claim/cut.py" 721) :: [])
def ho391 (P : Params) : Obj := fo "spots_for" "spots_for" (top 41) .none .none .none (.str "stow.places" 696) none (.ref 397) .none none
def ho394 (P : Params) : Obj := tu ((.str "ranked" 728) :: [])
def ho396 (P : Params) : Obj := fq "least_place" "least_place" (top 43)
def ho397 (P : Params) : Obj := co ((.str "least_place" 725) :: (.str "least_place" 726) :: (.str "/claim/cut.py" 727) :: (.int 209 0) :: (.int 1 0) :: (.int 0 0) :: (.int 0 0) :: (.int 3 0) :: (.ref 399) :: (.bool true) :: (.int 181 0) :: (.ref 400) :: .none :: (.ref 401) :: (.ref 402) :: (.ref 403) :: (.int 729 0) :: (.int 209 0) :: (.str "/claim/cut.py" 730) :: [])
def ho398 (P : Params) : Obj := fo "least_place" "least_place" (top 43) .none .none .none (.str "stow.stretches" 723) none (.ref 404) .none none
def ho399 (P : Params) : Obj := tu ((.ref 380) :: [])
def ho401 (P : Params) : Obj := ⟨(.type "dict"), none, .dict (en P "__module__" 739 (.str "stow.stretches" 723) :: en P "__qualname__" 741 (.str "Stretches" 740) :: en P "__firstlineno__" 743 (.int 213 742) :: en P "chosen" 752 (.ref 419) :: en P "ask" 764 (.ref 427) :: en P "give" 772 (.ref 434) :: en P "grow" 788 (.ref 442) :: en P "room_begin" 796 (.ref 449) :: en P "room_granted" 804 (.ref 456) :: en P "__static_attributes__" 806 (.ref 457) :: []).toArray 10, #[]⟩
def ho403 (P : Params) : Obj := fl ((.int 215 0) :: (.int 4 0) :: (.ref 418) :: (.int 218 0) :: (.int 4 0) :: (.ref 426) :: (.int 228 0) :: (.int 4 0) :: (.ref 433) :: (.int 231 0) :: (.int 4 0) :: (.ref 441) :: (.int 241 0) :: (.int 4 0) :: (.ref 448) :: (.int 244 0) :: (.int 4 0) :: (.ref 455) :: [])
def ho404 (P : Params) : Obj := co ((.str "Stretches" 734) :: (.str "Stretches" 735) :: (.str "/claim/cut.py" 736) :: (.int 213 0) :: (.int 0 0) :: (.int 0 0) :: (.int 0 0) :: (.int 0 0) :: (.ref 409) :: (.bool false) :: (.int 181 0) :: (.ref 410) :: .none :: .none :: .none :: .none :: (.int 737 0) :: (.int 213 0) :: (.str "/claim/cut.py" 738) :: [])
def ho405 (P : Params) : Obj := ⟨(.type "frame"), none, .plain, ((some (.ref 411)) :: (some (.ref 3)) :: (some (.ref 408)) :: none :: (some (.str "stow.stretches" 723)) :: none :: (some (.ref 0)) :: []).toArray⟩
def ho408 (P : Params) : Obj := tu ((.str "self" 747) :: (.str "long" 748) :: (.str "bound" 749) :: [])
def ho410 (P : Params) : Obj := fq "chosen" "Stretches.chosen" (Xaj (top 44) 0)
def ho411 (P : Params) : Obj := co ((.str "chosen" 744) :: (.str "Stretches.chosen" 745) :: (.str "/claim/cut.py" 746) :: (.int 215 0) :: (.int 3 0) :: (.int 0 0) :: (.int 0 0) :: (.int 3 0) :: (.ref 413) :: (.bool true) :: (.int 181 0) :: (.ref 414) :: .none :: (.ref 415) :: (.ref 416) :: (.ref 417) :: (.int 750 0) :: (.int 215 0) :: (.str "/claim/cut.py" 751) :: [])
def ho412 (P : Params) : Obj := fo "chosen" "Stretches.chosen" (Xaj (top 44) 0) .none .none .none (.str "stow.stretches" 723) none (.ref 418) .none none
def ho413 (P : Params) : Obj := tu ((.int 1 753) :: [])
def ho416 (P : Params) : Obj := tu ((.str "self" 757) :: (.str "count" 758) :: (.str "bound" 759) :: (.str "long" 760) :: (.str "at" 761) :: [])
def ho418 (P : Params) : Obj := fq "ask" "Stretches.ask" (Xaj (top 44) 1)
def ho419 (P : Params) : Obj := co ((.str "ask" 754) :: (.str "Stretches.ask" 755) :: (.str "/claim/cut.py" 756) :: (.int 218 0) :: (.int 3 0) :: (.int 0 0) :: (.int 0 0) :: (.int 3 0) :: (.ref 421) :: (.bool true) :: (.int 181 0) :: (.ref 422) :: .none :: (.ref 423) :: (.ref 424) :: (.ref 425) :: (.int 762 0) :: (.int 218 0) :: (.str "/claim/cut.py" 763) :: [])
def ho420 (P : Params) : Obj := fo "ask" "Stretches.ask" (Xaj (top 44) 1) (.ref 420) .none .none (.str "stow.stretches" 723) none (.ref 426) .none none
def ho423 (P : Params) : Obj := tu ((.str "self" 768) :: (.str "place" 769) :: [])
def ho425 (P : Params) : Obj := fq "give" "Stretches.give" (Xaj (top 44) 2)
def ho426 (P : Params) : Obj := co ((.str "give" 765) :: (.str "Stretches.give" 766) :: (.str "/claim/cut.py" 767) :: (.int 228 0) :: (.int 2 0) :: (.int 0 0) :: (.int 0 0) :: (.int 3 0) :: (.ref 428) :: (.bool true) :: (.int 181 0) :: (.ref 429) :: .none :: (.ref 430) :: (.ref 431) :: (.ref 432) :: (.int 770 0) :: (.int 228 0) :: (.str "/claim/cut.py" 771) :: [])
def ho427 (P : Params) : Obj := fo "give" "Stretches.give" (Xaj (top 44) 2) .none .none .none (.str "stow.stretches" 723) none (.ref 433) .none none
def ho428 (P : Params) : Obj := tu ((.int 1 773) :: [])
def ho431 (P : Params) : Obj := tu ((.str "self" 777) :: (.str "place" 778) :: (.str "count" 779) :: (.str "bound" 780) :: (.str "at" 781) :: (.str "had" 782) :: (.str "live" 783) :: (.str "long" 784) :: (.str "end" 785) :: [])
def ho433 (P : Params) : Obj := fq "grow" "Stretches.grow" (Xaj (top 44) 3)
def ho434 (P : Params) : Obj := co ((.str "grow" 774) :: (.str "Stretches.grow" 775) :: (.str "/claim/cut.py" 776) :: (.int 231 0) :: (.int 4 0) :: (.int 0 0) :: (.int 0 0) :: (.int 3 0) :: (.ref 436) :: (.bool true) :: (.int 181 0) :: (.ref 437) :: .none :: (.ref 438) :: (.ref 439) :: (.ref 440) :: (.int 786 0) :: (.int 231 0) :: (.str "/claim/cut.py" 787) :: [])
def ho435 (P : Params) : Obj := fo "grow" "Stretches.grow" (Xaj (top 44) 3) (.ref 435) .none .none (.str "stow.stretches" 723) none (.ref 441) .none none
def ho438 (P : Params) : Obj := tu ((.str "self" 792) :: (.str "cells" 793) :: [])
def ho440 (P : Params) : Obj := fq "room_begin" "Stretches.room_begin" (Xaj (top 44) 4)
def ho441 (P : Params) : Obj := co ((.str "room_begin" 789) :: (.str "Stretches.room_begin" 790) :: (.str "/claim/cut.py" 791) :: (.int 241 0) :: (.int 2 0) :: (.int 0 0) :: (.int 0 0) :: (.int 3 0) :: (.ref 443) :: (.bool true) :: (.int 181 0) :: (.ref 444) :: .none :: (.ref 445) :: (.ref 446) :: (.ref 447) :: (.int 794 0) :: (.int 241 0) :: (.str "/claim/cut.py" 795) :: [])
def ho442 (P : Params) : Obj := fo "room_begin" "Stretches.room_begin" (Xaj (top 44) 4) .none .none .none (.str "stow.stretches" 723) none (.ref 448) .none none
def ho445 (P : Params) : Obj := tu ((.str "self" 800) :: (.str "behind" 801) :: [])
def ho447 (P : Params) : Obj := fq "room_granted" "Stretches.room_granted" (Xaj (top 44) 5)
def ho448 (P : Params) : Obj := co ((.str "room_granted" 797) :: (.str "Stretches.room_granted" 798) :: (.str "/claim/cut.py" 799) :: (.int 244 0) :: (.int 2 0) :: (.int 0 0) :: (.int 0 0) :: (.int 3 0) :: (.ref 450) :: (.bool true) :: (.int 181 0) :: (.ref 451) :: .none :: (.ref 452) :: (.ref 453) :: (.ref 454) :: (.int 802 0) :: (.int 244 0) :: (.str "/claim/cut.py" 803) :: [])
def ho449 (P : Params) : Obj := fo "room_granted" "Stretches.room_granted" (Xaj (top 44) 5) .none .none .none (.str "stow.stretches" 723) none (.ref 455) .none none
def ho450 (P : Params) : Obj := tu ((.str "room_cells" 805) :: [])
def ho451 (P : Params) : Obj := ⟨(.type "dict"), none, .dict (en P "__module__" 739 (.str "stow.stretches" 723) :: en P "__firstlineno__" 743 (.int 213 742) :: en P "chosen" 752 (.ref 419) :: en P "ask" 764 (.ref 427) :: en P "give" 772 (.ref 434) :: en P "grow" 788 (.ref 442) :: en P "room_begin" 796 (.ref 449) :: en P "room_granted" 804 (.ref 456) :: en P "__static_attributes__" 806 (.ref 457) :: en P "__doc__" 807 .none :: []).toArray 2, #[]⟩
def ho452 (P : Params) : Obj := ⟨(.type "type"), none, .cls ⟨"Stretches", [(.ref 380)], [(.ref 459), (.ref 380), (.type "object")], 458, "Stretches", true, [], [], false, none, false⟩, ((some (.ref 406)) :: none :: (some (.str "Stretches" 732)) :: (some (.str "Stretches" 740)) :: (some (.builtin "object.__new__")) :: (some (.bool true)) :: []).toArray⟩
def ho453 (P : Params) : Obj := ⟨(.type "super"), none, .fields ((.ref 459) :: (.ref 459) :: (.ref 459) :: []).toArray, #[]⟩
def ho454 (P : Params) : Obj := ⟨(.type "builtin_function_or_method"), none, .fields ((.builtin "object.__init_subclass__") :: (.ref 459) :: []).toArray, #[]⟩
def ho455 (P : Params) : Obj := ⟨(.type "dict"), none, .dict (en P "__name__" 165 (.str "law_stow_k17_next" 865) :: en P "__doc__" 166 .none :: en P "__package__" 167 .none :: en P "__loader__" 168 (.builtin "__main__.__loader__#opaque") :: en P "__spec__" 169 .none :: en P "__annotations__" 170 (.ref 6) :: en P "__builtins__" 171 (.ref 4) :: en P "__file__" 173 (.str "/claim/cut.py" 172) :: en P "__cached__" 174 .none :: en P "StowError" 206 (.ref 24) :: en P "NoSize" 222 (.ref 37) :: en P "Broken" 247 (.ref 56) :: en P "NoPiece" 263 (.ref 68) :: en P "NoCell" 279 (.ref 80) :: en P "NoAsk" 295 (.ref 92) :: en P "NoBound" 311 (.ref 104) :: en P "NoRoom" 327 (.ref 116) :: en P "MARKS" 331 (.int 2 330) :: en P "check_ask" 339 (.ref 125) :: en P "check_plain_ask" 347 (.ref 132) :: en P "mark_of" 357 (.ref 139) :: en P "long_of" 364 (.ref 146) :: en P "live_of" 371 (.ref 153) :: en P "LEAST_LIVE" 375 (.int 3 374) :: en P "can_begin" 384 (.ref 160) :: en P "bad_of_piece" 393 (.ref 167) :: en P "looked" 404 (.ref 174) :: en P "fresh_room" 412 (.ref 181) :: en P "laid" 425 (.ref 188) :: en P "laid_free" 434 (.ref 195) :: en P "piece_at" 443 (.ref 202) :: en P "live_at" 452 (.ref 209) :: en P "free_at" 461 (.ref 216) :: en P "begin_around" 467 (.ref 221) :: en P "free_begin" 475 (.ref 228) :: en P "free_end" 483 (.ref 235) :: en P "cut_out" 498 (.ref 242) :: en P "freed" 509 (.ref 249) :: en P "joined_pieces" 520 (.ref 256) :: en P "joined" 531 (.ref 263) :: en P "carried" 542 (.ref 270) :: en P "Keeper" 695 (.ref 380) :: en P "first_place" 710 (.ref 391) :: en P "spots_for" 722 (.ref 398) :: en P "least_place" 731 (.ref 405) :: en P "Stretches" 809 (.ref 459) :: en P "Next" 864 (.ref 504) :: en P "_law_cell_at" 874 (.ref 513) :: en P "_law_whole" 881 (.ref 520) :: en P "_law_as_one" 890 (.ref 527) :: en P "_law_cut" 902 (.ref 534) :: en P "_law_free" 908 (.ref 539) :: en P "_law_end" 918 (.ref 546) :: en P "_law_regrown" 930 (.ref 553) :: en P "_law_next" 942 (.ref 560) :: en P "_law_answer" 955 (.ref 567) :: en P "_law_new" 972 (.ref 574) :: en P "_law_grow" 986 (.ref 581) :: en P "_law_laid" 995 (.ref 588) :: en P "_law_parted" 1001 (.ref 593) :: en P "_law_put" 1007 (.ref 598) :: en P "_law_looks" 1020 (.ref 605) :: en P "_law_step" 1026 (.ref 610) :: en P "law" 1038 (.ref 617) :: []).toArray 64, #[]⟩
def ho456 (P : Params) : Obj := fl ((.int 2 0) :: (.int 0 0) :: (.ref 20) :: (.int 4 0) :: (.int 0 0) :: (.ref 33) :: (.int 6 0) :: (.int 0 0) :: (.ref 45) :: (.int 10 0) :: (.int 0 0) :: (.ref 64) :: (.int 12 0) :: (.int 0 0) :: (.ref 76) :: (.int 14 0) :: (.int 0 0) :: (.ref 88) :: (.int 16 0) :: (.int 0 0) :: (.ref 100) :: (.int 18 0) :: (.int 0 0) :: (.ref 112) :: (.int 22 0) :: (.int 0 0) :: (.ref 124) :: (.int 25 0) :: (.int 0 0) :: (.ref 131) :: (.int 30 0) :: (.int 0 0) :: (.ref 138) :: (.int 34 0) :: (.int 0 0) :: (.ref 145) :: (.int 36 0) :: (.int 0 0) :: (.ref 152) :: (.int 40 0) :: (.int 0 0) :: (.ref 159) :: (.int 45 0) :: (.int 0 0) :: (.ref 166) :: (.int 52 0) :: (.int 0 0) :: (.ref 173) :: (.int 63 0) :: (.int 0 0) :: (.ref 180) :: (.int 71 0) :: (.int 0 0) :: (.ref 187) :: (.int 76 0) :: (.int 0 0) :: (.ref 194) :: (.int 80 0) :: (.int 0 0) :: (.ref 201) :: (.int 85 0) :: (.int 0 0) :: (.ref 208) :: (.int 90 0) :: (.int 0 0) :: (.ref 215) :: (.int 95 0) :: (.int 0 0) :: (.ref 220) :: (.int 98 0) :: (.int 0 0) :: (.ref 227) :: (.int 102 0) :: (.int 0 0) :: (.ref 234) :: (.int 106 0) :: (.int 0 0) :: (.ref 241) :: (.int 114 0) :: (.int 0 0) :: (.ref 248) :: (.int 117 0) :: (.int 0 0) :: (.ref 255) :: (.int 125 0) :: (.int 0 0) :: (.ref 262) :: (.int 130 0) :: (.int 0 0) :: (.ref 269) :: (.int 134 0) :: (.int 0 0) :: (.ref 276) :: (.int 195 0) :: (.int 0 0) :: (.ref 390) :: (.int 201 0) :: (.int 0 0) :: (.ref 397) :: (.int 209 0) :: (.int 0 0) :: (.ref 404) :: (.int 213 0) :: (.int 0 0) :: (.ref 411) :: (.int 246 0) :: (.int 0 0) :: (.ref 467) :: (.int 266 0) :: (.int 0 0) :: (.ref 512) :: (.int 270 0) :: (.int 0 0) :: (.ref 519) :: (.int 272 0) :: (.int 0 0) :: (.ref 526) :: (.int 280 0) :: (.int 0 0) :: (.ref 533) :: (.int 293 0) :: (.int 0 0) :: (.ref 538) :: (.int 295 0) :: (.int 0 0) :: (.ref 545) :: (.int 301 0) :: (.int 0 0) :: (.ref 552) :: (.int 311 0) :: (.int 0 0) :: (.ref 559) :: (.int 321 0) :: (.int 0 0) :: (.ref 566) :: (.int 335 0) :: (.int 0 0) :: (.ref 573) :: (.int 349 0) :: (.int 0 0) :: (.ref 580) :: (.int 357 0) :: (.int 0 0) :: (.ref 587) :: (.int 369 0) :: (.int 0 0) :: (.ref 592) :: (.int 378 0) :: (.int 0 0) :: (.ref 597) :: (.int 386 0) :: (.int 0 0) :: (.ref 604) :: (.int 392 0) :: (.int 0 0) :: (.ref 609) :: (.int 416 0) :: (.int 0 0) :: (.ref 616) :: [])
def ho457 (P : Params) : Obj := ⟨(.type "type"), none, .cls ⟨"Stretches", [(.ref 380)], [(.ref 459), (.ref 380), (.type "object")], 458, "Stretches", true, [], [(.ref 504)], false, none, false⟩, ((some (.ref 406)) :: none :: (some (.str "Stretches" 732)) :: (some (.str "Stretches" 740)) :: (some (.builtin "object.__new__")) :: (some (.bool true)) :: []).toArray⟩
def ho458 (P : Params) : Obj := tu ((.ref 459) :: [])
def ho460 (P : Params) : Obj := ⟨(.type "dict"), none, .dict (en P "__module__" 817 (.str "stow.stretches" 723) :: en P "__qualname__" 819 (.str "Next" 818) :: en P "__firstlineno__" 821 (.int 246 820) :: en P "__init__" 829 (.ref 475) :: en P "rover" 836 (.ref 482) :: en P "chosen" 842 (.ref 487) :: en P "room_begin" 850 (.ref 494) :: en P "room_granted" 858 (.ref 501) :: en P "__static_attributes__" 861 (.ref 502) :: []).toArray 9, #[]⟩
def ho462 (P : Params) : Obj := fl ((.int 248 0) :: (.int 4 0) :: (.ref 474) :: (.int 252 0) :: (.int 4 0) :: (.ref 481) :: (.int 255 0) :: (.int 4 0) :: (.ref 486) :: (.int 259 0) :: (.int 4 0) :: (.ref 493) :: (.int 263 0) :: (.int 4 0) :: (.ref 500) :: [])
def ho463 (P : Params) : Obj := co ((.str "Next" 812) :: (.str "Next" 813) :: (.str "/claim/cut.py" 814) :: (.int 246 0) :: (.int 0 0) :: (.int 0 0) :: (.int 0 0) :: (.int 0 0) :: (.ref 465) :: (.bool false) :: (.int 181 0) :: (.ref 466) :: .none :: .none :: .none :: .none :: (.int 815 0) :: (.int 246 0) :: (.str "/claim/cut.py" 816) :: [])
def ho464 (P : Params) : Obj := ⟨(.type "frame"), none, .plain, ((some (.ref 467)) :: (some (.ref 3)) :: (some (.ref 464)) :: none :: (some (.str "stow.stretches" 723)) :: none :: (some (.ref 0)) :: []).toArray⟩
def ho467 (P : Params) : Obj := tu ((.str "self" 825) :: (.str "size" 826) :: [])
def ho469 (P : Params) : Obj := fq "__init__" "Next.__init__" (Xaj (top 45) 0)
def ho470 (P : Params) : Obj := co ((.str "__init__" 822) :: (.str "Next.__init__" 823) :: (.str "/claim/cut.py" 824) :: (.int 248 0) :: (.int 2 0) :: (.int 0 0) :: (.int 0 0) :: (.int 3 0) :: (.ref 469) :: (.bool true) :: (.int 181 0) :: (.ref 470) :: .none :: (.ref 471) :: (.ref 472) :: (.ref 473) :: (.int 827 0) :: (.int 248 0) :: (.str "/claim/cut.py" 828) :: [])
def ho471 (P : Params) : Obj := fo "__init__" "Next.__init__" (Xaj (top 45) 0) .none .none .none (.str "stow.stretches" 723) none (.ref 474) .none none
def ho474 (P : Params) : Obj := tu ((.str "self" 833) :: [])
def ho476 (P : Params) : Obj := fq "rover" "Next.rover" (Xaj (top 45) 1)
def ho477 (P : Params) : Obj := co ((.str "rover" 830) :: (.str "Next.rover" 831) :: (.str "/claim/cut.py" 832) :: (.int 252 0) :: (.int 1 0) :: (.int 0 0) :: (.int 0 0) :: (.int 3 0) :: (.ref 476) :: (.bool true) :: (.int 181 0) :: (.ref 477) :: .none :: (.ref 478) :: (.ref 479) :: (.ref 480) :: (.int 834 0) :: (.int 252 0) :: (.str "/claim/cut.py" 835) :: [])
def ho478 (P : Params) : Obj := fo "rover" "Next.rover" (Xaj (top 45) 1) .none .none .none (.str "stow.stretches" 723) none (.ref 481) .none none
def ho481 (P : Params) : Obj := fq "chosen" "Next.chosen" (Xaj (top 45) 2)
def ho482 (P : Params) : Obj := co ((.str "chosen" 837) :: (.str "Next.chosen" 838) :: (.str "/claim/cut.py" 839) :: (.int 255 0) :: (.int 3 0) :: (.int 0 0) :: (.int 0 0) :: (.int 3 0) :: (.ref 483) :: (.bool true) :: (.int 181 0) :: (.ref 484) :: .none :: .none :: .none :: (.ref 485) :: (.int 840 0) :: (.int 255 0) :: (.str "/claim/cut.py" 841) :: [])
def ho483 (P : Params) : Obj := fo "chosen" "Next.chosen" (Xaj (top 45) 2) .none .none .none (.str "stow.stretches" 723) none (.ref 486) .none none
def ho486 (P : Params) : Obj := tu ((.str "self" 846) :: (.str "cells" 847) :: [])
def ho488 (P : Params) : Obj := fq "room_begin" "Next.room_begin" (Xaj (top 45) 3)
def ho489 (P : Params) : Obj := co ((.str "room_begin" 843) :: (.str "Next.room_begin" 844) :: (.str "/claim/cut.py" 845) :: (.int 259 0) :: (.int 2 0) :: (.int 0 0) :: (.int 0 0) :: (.int 3 0) :: (.ref 488) :: (.bool true) :: (.int 181 0) :: (.ref 489) :: .none :: (.ref 490) :: (.ref 491) :: (.ref 492) :: (.int 848 0) :: (.int 259 0) :: (.str "/claim/cut.py" 849) :: [])
def ho490 (P : Params) : Obj := fo "room_begin" "Next.room_begin" (Xaj (top 45) 3) .none .none .none (.str "stow.stretches" 723) none (.ref 493) .none none
def ho493 (P : Params) : Obj := tu ((.str "self" 854) :: (.str "behind" 855) :: [])
def ho495 (P : Params) : Obj := fq "room_granted" "Next.room_granted" (Xaj (top 45) 4)
def ho496 (P : Params) : Obj := co ((.str "room_granted" 851) :: (.str "Next.room_granted" 852) :: (.str "/claim/cut.py" 853) :: (.int 263 0) :: (.int 2 0) :: (.int 0 0) :: (.int 0 0) :: (.int 3 0) :: (.ref 495) :: (.bool true) :: (.int 181 0) :: (.ref 496) :: .none :: (.ref 497) :: (.ref 498) :: (.ref 499) :: (.int 856 0) :: (.int 263 0) :: (.str "/claim/cut.py" 857) :: [])
def ho497 (P : Params) : Obj := fo "room_granted" "Next.room_granted" (Xaj (top 45) 4) .none .none .none (.str "stow.stretches" 723) none (.ref 500) .none none
def ho498 (P : Params) : Obj := tu ((.str "room_cells" 859) :: (.str "room_rover" 860) :: [])
def ho499 (P : Params) : Obj := ⟨(.type "dict"), none, .dict (en P "__module__" 817 (.str "stow.stretches" 723) :: en P "__firstlineno__" 821 (.int 246 820) :: en P "__init__" 829 (.ref 475) :: en P "rover" 836 (.ref 482) :: en P "chosen" 842 (.ref 487) :: en P "room_begin" 850 (.ref 494) :: en P "room_granted" 858 (.ref 501) :: en P "__static_attributes__" 861 (.ref 502) :: en P "__doc__" 862 .none :: []).toArray 2, #[]⟩
def ho500 (P : Params) : Obj := ⟨(.type "type"), none, .cls ⟨"Next", [(.ref 459)], [(.ref 504), (.ref 459), (.ref 380), (.type "object")], 503, "Next", true, [], [], false, none, false⟩, ((some (.ref 462)) :: none :: (some (.str "Next" 810)) :: (some (.str "Next" 818)) :: (some (.builtin "object.__new__")) :: (some (.bool true)) :: []).toArray⟩
def ho501 (P : Params) : Obj := ⟨(.type "super"), none, .fields ((.ref 504) :: (.ref 504) :: (.ref 504) :: []).toArray, #[]⟩
def ho502 (P : Params) : Obj := ⟨(.type "builtin_function_or_method"), none, .fields ((.builtin "object.__init_subclass__") :: (.ref 504) :: []).toArray, #[]⟩
def ho505 (P : Params) : Obj := tu ((.str "_law_script" 870) :: (.str "_law_k" 871) :: [])
def ho507 (P : Params) : Obj := fq "_law_cell_at" "_law_cell_at" (top 47)
def ho508 (P : Params) : Obj := co ((.str "_law_cell_at" 867) :: (.str "_law_cell_at" 868) :: (.str "/claim/cut.py" 869) :: (.int 266 0) :: (.int 2 0) :: (.int 0 0) :: (.int 0 0) :: (.int 3 0) :: (.ref 507) :: (.bool true) :: (.int 181 0) :: (.ref 508) :: .none :: (.ref 509) :: (.ref 510) :: (.ref 511) :: (.int 872 0) :: (.int 266 0) :: (.str "/claim/cut.py" 873) :: [])
def ho509 (P : Params) : Obj := fo "_law_cell_at" "_law_cell_at" (top 47) .none .none .none (.str "law_stow_k17_next" 865) none (.ref 512) .none none
def ho512 (P : Params) : Obj := tu ((.str "_law_found" 878) :: [])
def ho514 (P : Params) : Obj := fq "_law_whole" "_law_whole" (top 48)
def ho515 (P : Params) : Obj := co ((.str "_law_whole" 875) :: (.str "_law_whole" 876) :: (.str "/claim/cut.py" 877) :: (.int 270 0) :: (.int 1 0) :: (.int 0 0) :: (.int 0 0) :: (.int 3 0) :: (.ref 514) :: (.bool true) :: (.int 181 0) :: (.ref 515) :: .none :: (.ref 516) :: (.ref 517) :: (.ref 518) :: (.int 879 0) :: (.int 270 0) :: (.str "/claim/cut.py" 880) :: [])
def ho516 (P : Params) : Obj := fo "_law_whole" "_law_whole" (top 48) .none .none .none (.str "law_stow_k17_next" 865) none (.ref 519) .none none
def ho519 (P : Params) : Obj := tu ((.str "_law_pieces" 885) :: (.str "_law_told" 886) :: (.str "_law_piece" 887) :: [])
def ho521 (P : Params) : Obj := fq "_law_as_one" "_law_as_one" (top 49)
def ho522 (P : Params) : Obj := co ((.str "_law_as_one" 882) :: (.str "_law_as_one" 883) :: (.str "/claim/cut.py" 884) :: (.int 272 0) :: (.int 1 0) :: (.int 0 0) :: (.int 0 0) :: (.int 3 0) :: (.ref 521) :: (.bool true) :: (.int 181 0) :: (.ref 522) :: .none :: (.ref 523) :: (.ref 524) :: (.ref 525) :: (.int 888 0) :: (.int 272 0) :: (.str "/claim/cut.py" 889) :: [])
def ho523 (P : Params) : Obj := fo "_law_as_one" "_law_as_one" (top 49) .none .none .none (.str "law_stow_k17_next" 865) none (.ref 526) .none none
def ho526 (P : Params) : Obj := tu ((.str "_law_pieces" 894) :: (.str "_law_spot" 895) :: (.str "_law_long" 896) :: (.str "_law_due" 897) :: (.str "_law_piece" 898) :: (.str "_law_end_here" 899) :: [])
def ho528 (P : Params) : Obj := fq "_law_cut" "_law_cut" (top 50)
def ho529 (P : Params) : Obj := co ((.str "_law_cut" 891) :: (.str "_law_cut" 892) :: (.str "/claim/cut.py" 893) :: (.int 280 0) :: (.int 3 0) :: (.int 0 0) :: (.int 0 0) :: (.int 3 0) :: (.ref 528) :: (.bool true) :: (.int 181 0) :: (.ref 529) :: .none :: (.ref 530) :: (.ref 531) :: (.ref 532) :: (.int 900 0) :: (.int 280 0) :: (.str "/claim/cut.py" 901) :: [])
def ho530 (P : Params) : Obj := fo "_law_cut" "_law_cut" (top 50) .none .none .none (.str "law_stow_k17_next" 865) none (.ref 533) .none none
def ho533 (P : Params) : Obj := fq "_law_free" "_law_free" (top 51)
def ho534 (P : Params) : Obj := co ((.str "_law_free" 903) :: (.str "_law_free" 904) :: (.str "/claim/cut.py" 905) :: (.int 293 0) :: (.int 2 0) :: (.int 0 0) :: (.int 0 0) :: (.int 3 0) :: (.ref 535) :: (.bool true) :: (.int 181 0) :: (.ref 536) :: .none :: .none :: .none :: (.ref 537) :: (.int 906 0) :: (.int 293 0) :: (.str "/claim/cut.py" 907) :: [])
def ho535 (P : Params) : Obj := fo "_law_free" "_law_free" (top 51) .none .none .none (.str "law_stow_k17_next" 865) none (.ref 538) .none none
def ho538 (P : Params) : Obj := tu ((.str "_law_pieces" 912) :: (.str "_law_at" 913) :: (.str "_law_end_here" 914) :: (.str "_law_piece" 915) :: [])
def ho540 (P : Params) : Obj := fq "_law_end" "_law_end" (top 52)
def ho541 (P : Params) : Obj := co ((.str "_law_end" 909) :: (.str "_law_end" 910) :: (.str "/claim/cut.py" 911) :: (.int 295 0) :: (.int 2 0) :: (.int 0 0) :: (.int 0 0) :: (.int 3 0) :: (.ref 540) :: (.bool true) :: (.int 181 0) :: (.ref 541) :: .none :: (.ref 542) :: (.ref 543) :: (.ref 544) :: (.int 916 0) :: (.int 295 0) :: (.str "/claim/cut.py" 917) :: [])
def ho542 (P : Params) : Obj := fo "_law_end" "_law_end" (top 52) .none .none .none (.str "law_stow_k17_next" 865) none (.ref 545) .none none
def ho545 (P : Params) : Obj := tu ((.str "_law_pieces" 922) :: (.str "_law_at" 923) :: (.str "_law_long" 924) :: (.str "_law_end_here" 925) :: (.str "_law_due" 926) :: (.str "_law_piece" 927) :: [])
def ho547 (P : Params) : Obj := fq "_law_regrown" "_law_regrown" (top 53)
def ho548 (P : Params) : Obj := co ((.str "_law_regrown" 919) :: (.str "_law_regrown" 920) :: (.str "/claim/cut.py" 921) :: (.int 301 0) :: (.int 4 0) :: (.int 0 0) :: (.int 0 0) :: (.int 3 0) :: (.ref 547) :: (.bool true) :: (.int 181 0) :: (.ref 548) :: .none :: (.ref 549) :: (.ref 550) :: (.ref 551) :: (.int 928 0) :: (.int 301 0) :: (.str "/claim/cut.py" 929) :: [])
def ho549 (P : Params) : Obj := fo "_law_regrown" "_law_regrown" (top 53) .none .none .none (.str "law_stow_k17_next" 865) none (.ref 552) .none none
def ho552 (P : Params) : Obj := tu ((.str "_law_state" 934) :: (.str "_law_long" 935) :: (.str "_law_bound" 936) :: (.str "_law_low" 937) :: (.str "_law_piece" 938) :: (.str "_law_spot" 939) :: [])
def ho554 (P : Params) : Obj := fq "_law_next" "_law_next" (top 54)
def ho555 (P : Params) : Obj := co ((.str "_law_next" 931) :: (.str "_law_next" 932) :: (.str "/claim/cut.py" 933) :: (.int 311 0) :: (.int 3 0) :: (.int 0 0) :: (.int 0 0) :: (.int 3 0) :: (.ref 554) :: (.bool true) :: (.int 181 0) :: (.ref 555) :: .none :: (.ref 556) :: (.ref 557) :: (.ref 558) :: (.int 940 0) :: (.int 311 0) :: (.str "/claim/cut.py" 941) :: [])
def ho556 (P : Params) : Obj := fo "_law_next" "_law_next" (top 54) .none .none .none (.str "law_stow_k17_next" 865) none (.ref 559) .none none
def ho559 (P : Params) : Obj := tu ((.str "_law_keeper" 946) :: (.str "_law_way" 947) :: (.str "_law_place" 948) :: (.str "_law_count" 949) :: (.str "_law_bound" 950) :: (.str "_law_brief" 951) :: (.str "_law_told" 952) :: [])
def ho561 (P : Params) : Obj := fq "_law_answer" "_law_answer" (top 55)
def ho562 (P : Params) : Obj := co ((.str "_law_answer" 943) :: (.str "_law_answer" 944) :: (.str "/claim/cut.py" 945) :: (.int 321 0) :: (.int 6 0) :: (.int 0 0) :: (.int 0 0) :: (.int 3 0) :: (.ref 561) :: (.bool true) :: (.int 181 0) :: (.ref 562) :: .none :: (.ref 563) :: (.ref 564) :: (.ref 565) :: (.int 953 0) :: (.int 321 0) :: (.str "/claim/cut.py" 954) :: [])
def ho563 (P : Params) : Obj := fo "_law_answer" "_law_answer" (top 55) .none .none .none (.str "law_stow_k17_next" 865) none (.ref 566) .none none
def ho566 (P : Params) : Obj := tu ((.str "_law_keeper" 959) :: (.str "_law_state" 960) :: (.str "_law_way" 961) :: (.str "_law_place" 962) :: (.str "_law_count" 963) :: (.str "_law_bound" 964) :: (.str "_law_brief" 965) :: (.str "_law_spot" 966) :: (.str "_law_told" 967) :: (.str "_law_found" 968) :: (.str "_law_pieces" 969) :: [])
def ho568 (P : Params) : Obj := fq "_law_new" "_law_new" (top 56)
def ho569 (P : Params) : Obj := co ((.str "_law_new" 956) :: (.str "_law_new" 957) :: (.str "/claim/cut.py" 958) :: (.int 335 0) :: (.int 7 0) :: (.int 0 0) :: (.int 0 0) :: (.int 3 0) :: (.ref 568) :: (.bool true) :: (.int 181 0) :: (.ref 569) :: .none :: (.ref 570) :: (.ref 571) :: (.ref 572) :: (.int 970 0) :: (.int 335 0) :: (.str "/claim/cut.py" 971) :: [])
def ho570 (P : Params) : Obj := fo "_law_new" "_law_new" (top 56) .none .none .none (.str "law_stow_k17_next" 865) none (.ref 573) .none none
def ho573 (P : Params) : Obj := tu ((.str "_law_keeper" 976) :: (.str "_law_state" 977) :: (.str "_law_at" 978) :: (.str "_law_count" 979) :: (.str "_law_bound" 980) :: (.str "_law_brief" 981) :: (.str "_law_end_here" 982) :: (.str "_law_found" 983) :: [])
def ho575 (P : Params) : Obj := fq "_law_grow" "_law_grow" (top 57)
def ho576 (P : Params) : Obj := co ((.str "_law_grow" 973) :: (.str "_law_grow" 974) :: (.str "/claim/cut.py" 975) :: (.int 349 0) :: (.int 6 0) :: (.int 0 0) :: (.int 0 0) :: (.int 3 0) :: (.ref 575) :: (.bool true) :: (.int 181 0) :: (.ref 576) :: .none :: (.ref 577) :: (.ref 578) :: (.ref 579) :: (.int 984 0) :: (.int 349 0) :: (.str "/claim/cut.py" 985) :: [])
def ho577 (P : Params) : Obj := fo "_law_grow" "_law_grow" (top 57) .none .none .none (.str "law_stow_k17_next" 865) none (.ref 580) .none none
def ho580 (P : Params) : Obj := tu ((.str "_law_keeper" 990) :: (.str "_law_more" 991) :: (.str "_law_told" 992) :: [])
def ho582 (P : Params) : Obj := fq "_law_laid" "_law_laid" (top 58)
def ho583 (P : Params) : Obj := co ((.str "_law_laid" 987) :: (.str "_law_laid" 988) :: (.str "/claim/cut.py" 989) :: (.int 357 0) :: (.int 2 0) :: (.int 0 0) :: (.int 0 0) :: (.int 3 0) :: (.ref 582) :: (.bool true) :: (.int 181 0) :: (.ref 583) :: .none :: (.ref 584) :: (.ref 585) :: (.ref 586) :: (.int 993 0) :: (.int 357 0) :: (.str "/claim/cut.py" 994) :: [])
def ho584 (P : Params) : Obj := fo "_law_laid" "_law_laid" (top 58) .none .none .none (.str "law_stow_k17_next" 865) none (.ref 587) .none none
def ho587 (P : Params) : Obj := fq "_law_parted" "_law_parted" (top 59)
def ho588 (P : Params) : Obj := co ((.str "_law_parted" 996) :: (.str "_law_parted" 997) :: (.str "/claim/cut.py" 998) :: (.int 369 0) :: (.int 3 0) :: (.int 0 0) :: (.int 0 0) :: (.int 3 0) :: (.ref 589) :: (.bool true) :: (.int 181 0) :: (.ref 590) :: .none :: .none :: .none :: (.ref 591) :: (.int 999 0) :: (.int 369 0) :: (.str "/claim/cut.py" 1000) :: [])
def ho589 (P : Params) : Obj := fo "_law_parted" "_law_parted" (top 59) .none .none .none (.str "law_stow_k17_next" 865) none (.ref 592) .none none
def ho592 (P : Params) : Obj := fq "_law_put" "_law_put" (top 60)
def ho593 (P : Params) : Obj := co ((.str "_law_put" 1002) :: (.str "_law_put" 1003) :: (.str "/claim/cut.py" 1004) :: (.int 378 0) :: (.int 3 0) :: (.int 0 0) :: (.int 0 0) :: (.int 3 0) :: (.ref 594) :: (.bool true) :: (.int 181 0) :: (.ref 595) :: .none :: .none :: .none :: (.ref 596) :: (.int 1005 0) :: (.int 378 0) :: (.str "/claim/cut.py" 1006) :: [])
def ho594 (P : Params) : Obj := fo "_law_put" "_law_put" (top 60) .none .none .none (.str "law_stow_k17_next" 865) none (.ref 597) .none none
def ho597 (P : Params) : Obj := tu ((.str "_law_keeper" 1011) :: (.str "_law_state" 1012) :: (.str "_law_c" 1013) :: (.str "_law_long" 1014) :: (.str "_law_bound" 1015) :: (.str "_law_spot" 1016) :: (.str "_law_told" 1017) :: [])
def ho599 (P : Params) : Obj := fq "_law_looks" "_law_looks" (top 61)
def ho600 (P : Params) : Obj := co ((.str "_law_looks" 1008) :: (.str "_law_looks" 1009) :: (.str "/claim/cut.py" 1010) :: (.int 386 0) :: (.int 3 0) :: (.int 0 0) :: (.int 0 0) :: (.int 3 0) :: (.ref 599) :: (.bool true) :: (.int 181 0) :: (.ref 600) :: .none :: (.ref 601) :: (.ref 602) :: (.ref 603) :: (.int 1018 0) :: (.int 386 0) :: (.str "/claim/cut.py" 1019) :: [])
def ho601 (P : Params) : Obj := fo "_law_looks" "_law_looks" (top 61) .none .none .none (.str "law_stow_k17_next" 865) none (.ref 604) .none none
def ho604 (P : Params) : Obj := fq "_law_step" "_law_step" (top 62)
def ho605 (P : Params) : Obj := co ((.str "_law_step" 1021) :: (.str "_law_step" 1022) :: (.str "/claim/cut.py" 1023) :: (.int 392 0) :: (.int 3 0) :: (.int 0 0) :: (.int 0 0) :: (.int 3 0) :: (.ref 606) :: (.bool true) :: (.int 181 0) :: (.ref 607) :: .none :: .none :: .none :: (.ref 608) :: (.int 1024 0) :: (.int 392 0) :: (.str "/claim/cut.py" 1025) :: [])
def ho606 (P : Params) : Obj := fo "_law_step" "_law_step" (top 62) .none .none .none (.str "law_stow_k17_next" 865) none (.ref 609) .none none
def ho609 (P : Params) : Obj := tu ((.str "_law_script" 1030) :: (.str "_law_size" 1031) :: (.str "_law_keeper" 1032) :: (.str "_law_state" 1033) :: (.str "_law_c" 1034) :: (.str "_law_told" 1035) :: [])
def ho611 (P : Params) : Obj := fq "law" "law" (top 63)
def ho612 (P : Params) : Obj := co ((.str "law" 1027) :: (.str "law" 1028) :: (.str "/claim/cut.py" 1029) :: (.int 416 0) :: (.int 1 0) :: (.int 0 0) :: (.int 0 0) :: (.int 3 0) :: (.ref 611) :: (.bool true) :: (.int 181 0) :: (.ref 612) :: .none :: (.ref 613) :: (.ref 614) :: (.ref 615) :: (.int 1036 0) :: (.int 416 0) :: (.str "/claim/cut.py" 1037) :: [])
def ho613 (P : Params) : Obj := fo "law" "law" (top 63) .none .none .none (.str "law_stow_k17_next" 865) none (.ref 616) .none none
noncomputable def heapA : Params → Heap := fun P => ⟨Array.mk (PySem.W.boot_o_0 P :: PySem.W.boot_o_1 P :: PySem.W.boot_o_2 P :: PySem.W.boot_o_3 P :: PySem.W.boot_o_4 P :: PySem.W.boot_o_5 P :: PySem.W.boot_o_6 P :: PySem.W.boot_o_7 P :: PySem.W.boot_o_8 P :: PySem.W.boot_o_9 P :: PySem.W.boot_o_10 P :: ho0 P :: ho1 P :: ho2 P :: ho3 P :: []), ⟨[], [], [], 0, [], [], false, #[], [], 0, false, false, false, 0, [2000, 10, 10], false, 0, true, [], [], 0, false⟩⟩
def body0 : List Stmt := PySem.W.behindTheImports PySem.Challenge.pw_stow_k17_next
def sts0 : List Stmt := (body0.drop 0).take 9
def sts1 : List Stmt := (body0.drop 9).take 36
def sts2 : List Stmt := (body0.drop 45).take 19
def all0 : List Stmt := sts0 ++ (sts1 ++ (sts2 ++ []))
def env0 : Env := { scope := (PySem.Challenge.pw_stow_k17_next).main.scope, locals := mainNs, globals := mainNs, cells := [], code := (.ref 13), frame := some 14 }
def code0 : Code := .body all0 env0
theorem pre0 (w : World) (os : OsState) : PySem.W.topGo treeTable PySem.Challenge.pw_stow_k17_next w 11 (some (.ref 6)) 12 ⟨PySem.W.boot_heap w.params, Array.mk [], PySem.W.boot_drawn, PySem.W.boot_toks, os⟩ (PySem.W.topStub PySem.Challenge.pw_stow_k17_next) = some (⟨heapA w.params, #[], ⟨0, 0, 0, 0⟩, 187, os⟩, ⟨denote treeTable (.body all0 env0), code0, ⟨0, 0, 0, 0⟩, [PySem.W.topFrame ⟨0, 0, 0, 0⟩]⟩) := by kernel_rfl
noncomputable def treeB : Params → PySem.W.BT := fun P => (.node (PySem.W.boot_o_0 P) (.node (PySem.W.boot_o_1 P) (.node (PySem.W.boot_o_3 P) (.node (PySem.W.boot_o_7 P) .nil .nil) (.node (ho0 P) .nil .nil)) (.node (PySem.W.boot_o_5 P) (.node (PySem.W.boot_o_9 P) .nil .nil) (.node (ho2 P) .nil .nil))) (.node (PySem.W.boot_o_2 P) (.node (PySem.W.boot_o_4 P) (.node (PySem.W.boot_o_8 P) .nil .nil) (.node (ho1 P) .nil .nil)) (.node (PySem.W.boot_o_6 P) (.node (PySem.W.boot_o_10 P) .nil .nil) (.node (ho3 P) .nil .nil))))
theorem blk0 (w : World) (os : OsState) : PySem.W.segRun treeTable PySem.Challenge.pw_stow_k17_next w 11 (some (.ref 6)) 1 1 ⟨heapA w.params, #[], ⟨0, 0, 0, 0⟩, 187, os⟩ (PySem.W.blockOf all0 env0 code0 ⟨0, 0, 0, 0⟩ [PySem.W.topFrame ⟨0, 0, 0, 0⟩]) = some (.next, (PySem.W.SharedT.mk (treeB w.params) 15 ⟨[], [], [], 0, [], [], false, #[], [], 0, false, false, false, 0, [2000, 10, 10], false, 0, true, [], [], 0, false⟩ #[] ⟨0, 0, 0, 0⟩ 187 os).abs, code0, ⟨0, 0, 0, 0⟩) := by kernel_rfl
noncomputable def treeG9 : Params → PySem.W.BT := fun P => (.node (PySem.W.boot_o_0 P) (.node (PySem.W.boot_o_1 P) (.node (ho4 P) (.node (PySem.W.boot_o_7 P) (.node (ho6 P) (.node (ho0 P) (.node (ho1 P) .nil .nil) (.node (ho19 P) .nil .nil)) (.node (ho0 P) (.node (ho70 P) .nil .nil) (.node (ho1 P) .nil .nil))) (.node (ho14 P) (.node (ho30 P) (.node (ho19 P) .nil .nil) (.node (ho94 P) .nil .nil)) (.node (ho46 P) (.node (ho1 P) .nil .nil) .nil))) (.node (ho0 P) (.node (ho1 P) (.node (ho0 P) (.node (ho58 P) .nil .nil) (.node (ho1 P) .nil .nil)) (.node (ho42 P) (.node (ho19 P) .nil .nil) (.node (ho106 P) .nil .nil))) (.node (ho18 P) (.node (ho0 P) (.node (ho1 P) .nil .nil) (.node (ho19 P) .nil .nil)) (.node (ho19 P) (.node (ho82 P) .nil .nil) .nil)))) (.node (PySem.W.boot_o_5 P) (.node (PySem.W.boot_o_9 P) (.node (ho8 P) (.node (ho24 P) (.node (ho56 P) .nil .nil) (.node (ho88 P) .nil .nil)) (.node (ho40 P) (.node (ho72 P) .nil .nil) (.node (ho104 P) .nil .nil))) (.node (ho16 P) (.node (ho7 P) (.node (ho64 P) .nil .nil) (.node (ho96 P) .nil .nil)) (.node (ho48 P) (.node (ho80 P) .nil .nil) .nil))) (.node (ho2 P) (.node (ho12 P) (.node (ho28 P) (.node (ho60 P) .nil .nil) (.node (ho92 P) .nil .nil)) (.node (ho44 P) (.node (ho76 P) .nil .nil) (.node (ho108 P) .nil .nil))) (.node (ho7 P) (.node (ho36 P) (.node (ho68 P) .nil .nil) (.node (ho100 P) .nil .nil)) (.node (ho52 P) (.node (ho84 P) .nil .nil) .nil))))) (.node (PySem.W.boot_o_2 P) (.node (PySem.W.boot_o_4 P) (.node (PySem.W.boot_o_8 P) (.node (ho7 P) (.node (ho1 P) (.node (ho55 P) .nil .nil) (.node (ho7 P) .nil .nil)) (.node (ho1 P) (.node (ho71 P) .nil .nil) (.node (ho103 P) .nil .nil))) (.node (ho15 P) (.node (ho19 P) (.node (ho7 P) .nil .nil) (.node (ho95 P) .nil .nil)) (.node (ho47 P) (.node (ho79 P) .nil .nil) .nil))) (.node (ho5 P) (.node (ho11 P) (.node (ho27 P) (.node (ho59 P) .nil .nil) (.node (ho91 P) .nil .nil)) (.node (ho43 P) (.node (ho7 P) .nil .nil) (.node (ho107 P) .nil .nil))) (.node (ho19 P) (.node (ho35 P) (.node (ho67 P) .nil .nil) (.node (ho7 P) .nil .nil)) (.node (ho7 P) (.node (ho83 P) .nil .nil) .nil)))) (.node (PySem.W.boot_o_6 P) (.node (PySem.W.boot_o_10 P) (.node (ho0 P) (.node (ho25 P) (.node (ho0 P) .nil .nil) (.node (ho0 P) .nil .nil)) (.node (ho0 P) (.node (ho73 P) .nil .nil) (.node (ho0 P) .nil .nil))) (.node (ho17 P) (.node (ho33 P) (.node (ho0 P) .nil .nil) (.node (ho97 P) .nil .nil)) (.node (ho49 P) (.node (ho0 P) .nil .nil) .nil))) (.node (ho3 P) (.node (ho0 P) (.node (ho29 P) (.node (ho61 P) .nil .nil) (.node (ho0 P) .nil .nil)) (.node (ho45 P) (.node (ho0 P) .nil .nil) (.node (ho109 P) .nil .nil))) (.node (ho21 P) (.node (ho37 P) (.node (ho0 P) .nil .nil) (.node (ho0 P) .nil .nil)) (.node (ho0 P) (.node (ho85 P) .nil .nil) .nil))))))
theorem grp0 (w : World) (os : OsState) : PySem.W.segRunT treeTable PySem.Challenge.pw_stow_k17_next w 11 (some (.ref 6)) 1 1719 (PySem.W.SharedT.mk (treeB w.params) 15 ⟨[], [], [], 0, [], [], false, #[], [], 0, false, false, false, 0, [2000, 10, 10], false, 0, true, [], [], 0, false⟩ #[] ⟨0, 0, 0, 0⟩ 187 os) (PySem.W.piecesOf sts0 env0 code0 ⟨0, 0, 0, 0⟩ [PySem.W.topFrame ⟨0, 0, 0, 0⟩]) = some (.next, (PySem.W.SharedT.mk (treeG9 w.params) 119 ⟨[], [], [], 0, [], [], false, #[], [], 0, false, false, false, 0, [2000, 10, 10], false, 0, true, [], [], 0, false⟩ #[] ⟨0, 0, 0, 0⟩ 328 os), code0, ⟨18, 0, 19, 8⟩) := by kernel_rfl
noncomputable def treeG45 : Params → PySem.W.BT := fun P => (.node (PySem.W.boot_o_0 P) (.node (PySem.W.boot_o_1 P) (.node (ho110 P) (.node (PySem.W.boot_o_7 P) (.node (ho6 P) (.node (ho0 P) (.node (ho1 P) (.node (ho1 P) (.node (ho248 P) .nil .nil) (.node (ho376 P) .nil .nil)) (.node (ho184 P) (.node (ho312 P) .nil .nil) (.node (ho440 P) .nil .nil))) (.node (ho19 P) (.node (ho152 P) (.node (ho280 P) .nil .nil) (.node (ho408 P) .nil .nil)) (.node (ho1 P) (.node (ho1 P) .nil .nil) .nil))) (.node (ho0 P) (.node (ho70 P) (.node (ho0 P) (.node (ho0 P) .nil .nil) (.node (ho0 P) .nil .nil)) (.node (ho200 P) (.node (ho0 P) .nil .nil) .nil)) (.node (ho1 P) (.node (ho0 P) (.node (ho296 P) .nil .nil) (.node (ho0 P) .nil .nil)) (.node (ho0 P) (.node (ho0 P) .nil .nil) .nil)))) (.node (ho14 P) (.node (ho30 P) (.node (ho19 P) (.node (ho128 P) (.node (ho256 P) .nil .nil) (.node (ho384 P) .nil .nil)) (.node (ho0 P) (.node (ho0 P) .nil .nil) (.node (ho448 P) .nil .nil))) (.node (ho94 P) (.node (ho160 P) (.node (ho0 P) .nil .nil) (.node (ho416 P) .nil .nil)) (.node (ho224 P) (.node (ho352 P) .nil .nil) .nil))) (.node (ho46 P) (.node (ho1 P) (.node (ho144 P) (.node (ho1 P) .nil .nil) (.node (ho7 P) .nil .nil)) (.node (ho208 P) (.node (ho1 P) .nil .nil) .nil)) (.node (ho0 P) (.node (ho1 P) (.node (ho304 P) .nil .nil) (.node (ho0 P) .nil .nil)) (.node (ho240 P) (.node (ho368 P) .nil .nil) .nil))))) (.node (ho0 P) (.node (ho1 P) (.node (ho0 P) (.node (ho58 P) (.node (ho124 P) (.node (ho252 P) .nil .nil) (.node (ho380 P) .nil .nil)) (.node (ho188 P) (.node (ho0 P) .nil .nil) (.node (ho1 P) .nil .nil))) (.node (ho1 P) (.node (ho156 P) (.node (ho284 P) .nil .nil) (.node (ho412 P) .nil .nil)) (.node (ho220 P) (.node (ho348 P) .nil .nil) .nil))) (.node (ho42 P) (.node (ho19 P) (.node (ho0 P) (.node (ho268 P) .nil .nil) (.node (ho396 P) .nil .nil)) (.node (ho1 P) (.node (ho332 P) .nil .nil) .nil)) (.node (ho106 P) (.node (ho172 P) (.node (ho1 P) .nil .nil) (.node (ho428 P) .nil .nil)) (.node (ho0 P) (.node (ho0 P) .nil .nil) .nil)))) (.node (ho18 P) (.node (ho0 P) (.node (ho1 P) (.node (ho132 P) (.node (ho0 P) .nil .nil) (.node (ho0 P) .nil .nil)) (.node (ho0 P) (.node (ho324 P) .nil .nil) (.node (ho452 P) .nil .nil))) (.node (ho19 P) (.node (ho0 P) (.node (ho0 P) .nil .nil) (.node (ho420 P) .nil .nil)) (.node (ho228 P) (.node (ho356 P) .nil .nil) .nil))) (.node (ho19 P) (.node (ho82 P) (.node (ho1 P) (.node (ho276 P) .nil .nil) (.node (ho404 P) .nil .nil)) (.node (ho212 P) (.node (ho340 P) .nil .nil) .nil)) (.node (ho116 P) (.node (ho180 P) (.node (ho308 P) .nil .nil) (.node (ho0 P) .nil .nil)) (.node (ho1 P) (.node (ho372 P) .nil .nil) .nil)))))) (.node (PySem.W.boot_o_5 P) (.node (PySem.W.boot_o_9 P) (.node (ho8 P) (.node (ho24 P) (.node (ho56 P) (.node (ho0 P) (.node (ho0 P) .nil .nil) (.node (ho0 P) .nil .nil)) (.node (ho186 P) (.node (ho1 P) .nil .nil) (.node (ho442 P) .nil .nil))) (.node (ho88 P) (.node (ho0 P) (.node (ho282 P) .nil .nil) (.node (ho410 P) .nil .nil)) (.node (ho0 P) (.node (ho0 P) .nil .nil) .nil))) (.node (ho40 P) (.node (ho72 P) (.node (ho138 P) (.node (ho266 P) .nil .nil) (.node (ho394 P) .nil .nil)) (.node (ho202 P) (.node (ho330 P) .nil .nil) .nil)) (.node (ho104 P) (.node (ho170 P) (.node (ho298 P) .nil .nil) (.node (ho426 P) .nil .nil)) (.node (ho234 P) (.node (ho362 P) .nil .nil) .nil)))) (.node (ho16 P) (.node (ho7 P) (.node (ho64 P) (.node (ho130 P) (.node (ho1 P) .nil .nil) (.node (ho1 P) .nil .nil)) (.node (ho194 P) (.node (ho322 P) .nil .nil) (.node (ho450 P) .nil .nil))) (.node (ho96 P) (.node (ho1 P) (.node (ho290 P) .nil .nil) (.node (ho418 P) .nil .nil)) (.node (ho226 P) (.node (ho354 P) .nil .nil) .nil))) (.node (ho48 P) (.node (ho80 P) (.node (ho146 P) (.node (ho0 P) .nil .nil) (.node (ho0 P) .nil .nil)) (.node (ho0 P) (.node (ho0 P) .nil .nil) .nil)) (.node (ho114 P) (.node (ho0 P) (.node (ho0 P) .nil .nil) (.node (ho434 P) .nil .nil)) (.node (ho242 P) (.node (ho370 P) .nil .nil) .nil))))) (.node (ho2 P) (.node (ho12 P) (.node (ho28 P) (.node (ho60 P) (.node (ho0 P) (.node (ho254 P) .nil .nil) (.node (ho382 P) .nil .nil)) (.node (ho1 P) (.node (ho318 P) .nil .nil) (.node (ho0 P) .nil .nil))) (.node (ho92 P) (.node (ho158 P) (.node (ho1 P) .nil .nil) (.node (ho0 P) .nil .nil)) (.node (ho0 P) (.node (ho0 P) .nil .nil) .nil))) (.node (ho44 P) (.node (ho76 P) (.node (ho142 P) (.node (ho270 P) .nil .nil) (.node (ho398 P) .nil .nil)) (.node (ho0 P) (.node (ho334 P) .nil .nil) .nil)) (.node (ho108 P) (.node (ho174 P) (.node (ho0 P) .nil .nil) (.node (ho1 P) .nil .nil)) (.node (ho238 P) (.node (ho366 P) .nil .nil) .nil)))) (.node (ho7 P) (.node (ho36 P) (.node (ho68 P) (.node (ho1 P) (.node (ho262 P) .nil .nil) (.node (ho390 P) .nil .nil)) (.node (ho198 P) (.node (ho326 P) .nil .nil) (.node (ho454 P) .nil .nil))) (.node (ho100 P) (.node (ho166 P) (.node (ho294 P) .nil .nil) (.node (ho1 P) .nil .nil)) (.node (ho1 P) (.node (ho1 P) .nil .nil) .nil))) (.node (ho52 P) (.node (ho84 P) (.node (ho0 P) (.node (ho0 P) .nil .nil) (.node (ho0 P) .nil .nil)) (.node (ho214 P) (.node (ho342 P) .nil .nil) .nil)) (.node (ho118 P) (.node (ho0 P) (.node (ho310 P) .nil .nil) (.node (ho438 P) .nil .nil)) (.node (ho0 P) (.node (ho374 P) .nil .nil) .nil))))))) (.node (PySem.W.boot_o_2 P) (.node (PySem.W.boot_o_4 P) (.node (PySem.W.boot_o_8 P) (.node (ho7 P) (.node (ho1 P) (.node (ho55 P) (.node (ho121 P) (.node (ho249 P) .nil .nil) (.node (ho377 P) .nil .nil)) (.node (ho0 P) (.node (ho0 P) .nil .nil) (.node (ho441 P) .nil .nil))) (.node (ho7 P) (.node (ho153 P) (.node (ho0 P) .nil .nil) (.node (ho0 P) .nil .nil)) (.node (ho217 P) (.node (ho345 P) .nil .nil) .nil))) (.node (ho1 P) (.node (ho71 P) (.node (ho137 P) (.node (ho7 P) .nil .nil) (.node (ho1 P) .nil .nil)) (.node (ho201 P) (.node (ho1 P) .nil .nil) .nil)) (.node (ho103 P) (.node (ho1 P) (.node (ho297 P) .nil .nil) (.node (ho425 P) .nil .nil)) (.node (ho233 P) (.node (ho361 P) .nil .nil) .nil)))) (.node (ho15 P) (.node (ho19 P) (.node (ho7 P) (.node (ho0 P) (.node (ho0 P) .nil .nil) (.node (ho0 P) .nil .nil)) (.node (ho193 P) (.node (ho1 P) .nil .nil) (.node (ho449 P) .nil .nil))) (.node (ho95 P) (.node (ho0 P) (.node (ho289 P) .nil .nil) (.node (ho0 P) .nil .nil)) (.node (ho0 P) (.node (ho0 P) .nil .nil) .nil))) (.node (ho47 P) (.node (ho79 P) (.node (ho145 P) (.node (ho273 P) .nil .nil) (.node (ho401 P) .nil .nil)) (.node (ho209 P) (.node (ho337 P) .nil .nil) .nil)) (.node (ho1 P) (.node (ho177 P) (.node (ho305 P) .nil .nil) (.node (ho433 P) .nil .nil)) (.node (ho241 P) (.node (ho369 P) .nil .nil) .nil))))) (.node (ho111 P) (.node (ho11 P) (.node (ho27 P) (.node (ho59 P) (.node (ho125 P) (.node (ho0 P) .nil .nil) (.node (ho0 P) .nil .nil)) (.node (ho0 P) (.node (ho317 P) .nil .nil) (.node (ho445 P) .nil .nil))) (.node (ho91 P) (.node (ho0 P) (.node (ho0 P) .nil .nil) (.node (ho413 P) .nil .nil)) (.node (ho221 P) (.node (ho349 P) .nil .nil) .nil))) (.node (ho43 P) (.node (ho7 P) (.node (ho1 P) (.node (ho269 P) .nil .nil) (.node (ho397 P) .nil .nil)) (.node (ho205 P) (.node (ho333 P) .nil .nil) .nil)) (.node (ho107 P) (.node (ho173 P) (.node (ho301 P) .nil .nil) (.node (ho0 P) .nil .nil)) (.node (ho1 P) (.node (ho1 P) .nil .nil) .nil)))) (.node (ho19 P) (.node (ho35 P) (.node (ho67 P) (.node (ho0 P) (.node (ho261 P) .nil .nil) (.node (ho389 P) .nil .nil)) (.node (ho1 P) (.node (ho325 P) .nil .nil) (.node (ho453 P) .nil .nil))) (.node (ho7 P) (.node (ho165 P) (.node (ho1 P) .nil .nil) (.node (ho0 P) .nil .nil)) (.node (ho0 P) (.node (ho0 P) .nil .nil) .nil))) (.node (ho7 P) (.node (ho83 P) (.node (ho149 P) (.node (ho277 P) .nil .nil) (.node (ho405 P) .nil .nil)) (.node (ho213 P) (.node (ho341 P) .nil .nil) .nil)) (.node (ho117 P) (.node (ho181 P) (.node (ho0 P) .nil .nil) (.node (ho1 P) .nil .nil)) (.node (ho245 P) (.node (ho373 P) .nil .nil) .nil)))))) (.node (PySem.W.boot_o_6 P) (.node (PySem.W.boot_o_10 P) (.node (ho0 P) (.node (ho25 P) (.node (ho0 P) (.node (ho123 P) (.node (ho1 P) .nil .nil) (.node (ho1 P) .nil .nil)) (.node (ho187 P) (.node (ho315 P) .nil .nil) (.node (ho0 P) .nil .nil))) (.node (ho0 P) (.node (ho1 P) (.node (ho283 P) .nil .nil) (.node (ho411 P) .nil .nil)) (.node (ho219 P) (.node (ho347 P) .nil .nil) .nil))) (.node (ho0 P) (.node (ho73 P) (.node (ho139 P) (.node (ho0 P) .nil .nil) (.node (ho0 P) .nil .nil)) (.node (ho0 P) (.node (ho0 P) .nil .nil) .nil)) (.node (ho0 P) (.node (ho0 P) (.node (ho0 P) .nil .nil) (.node (ho427 P) .nil .nil)) (.node (ho235 P) (.node (ho363 P) .nil .nil) .nil)))) (.node (ho17 P) (.node (ho33 P) (.node (ho0 P) (.node (ho131 P) (.node (ho259 P) .nil .nil) (.node (ho387 P) .nil .nil)) (.node (ho195 P) (.node (ho0 P) .nil .nil) (.node (ho451 P) .nil .nil))) (.node (ho97 P) (.node (ho163 P) (.node (ho291 P) .nil .nil) (.node (ho419 P) .nil .nil)) (.node (ho227 P) (.node (ho355 P) .nil .nil) .nil))) (.node (ho49 P) (.node (ho0 P) (.node (ho0 P) (.node (ho275 P) .nil .nil) (.node (ho403 P) .nil .nil)) (.node (ho1 P) (.node (ho339 P) .nil .nil) .nil)) (.node (ho0 P) (.node (ho179 P) (.node (ho1 P) .nil .nil) (.node (ho435 P) .nil .nil)) (.node (ho0 P) (.node (ho371 P) .nil .nil) .nil))))) (.node (ho3 P) (.node (ho0 P) (.node (ho29 P) (.node (ho61 P) (.node (ho1 P) (.node (ho255 P) .nil .nil) (.node (ho383 P) .nil .nil)) (.node (ho191 P) (.node (ho319 P) .nil .nil) (.node (ho447 P) .nil .nil))) (.node (ho0 P) (.node (ho159 P) (.node (ho287 P) .nil .nil) (.node (ho1 P) .nil .nil)) (.node (ho1 P) (.node (ho1 P) .nil .nil) .nil))) (.node (ho45 P) (.node (ho0 P) (.node (ho0 P) (.node (ho0 P) .nil .nil) (.node (ho399 P) .nil .nil)) (.node (ho207 P) (.node (ho0 P) .nil .nil) .nil)) (.node (ho109 P) (.node (ho0 P) (.node (ho303 P) .nil .nil) (.node (ho431 P) .nil .nil)) (.node (ho0 P) (.node (ho0 P) .nil .nil) .nil)))) (.node (ho21 P) (.node (ho37 P) (.node (ho0 P) (.node (ho135 P) (.node (ho263 P) .nil .nil) (.node (ho391 P) .nil .nil)) (.node (ho0 P) (.node (ho327 P) .nil .nil) .nil)) (.node (ho0 P) (.node (ho167 P) (.node (ho0 P) .nil .nil) (.node (ho423 P) .nil .nil)) (.node (ho231 P) (.node (ho359 P) .nil .nil) .nil))) (.node (ho0 P) (.node (ho85 P) (.node (ho151 P) (.node (ho1 P) .nil .nil) (.node (ho1 P) .nil .nil)) (.node (ho0 P) (.node (ho0 P) .nil .nil) .nil)) (.node (ho0 P) (.node (ho1 P) (.node (ho311 P) .nil .nil) (.node (ho0 P) .nil .nil)) (.node (ho247 P) (.node (ho375 P) .nil .nil) .nil))))))))
theorem grp1 (w : World) (os : OsState) : PySem.W.segRunT treeTable PySem.Challenge.pw_stow_k17_next w 11 (some (.ref 6)) 1 1943 (PySem.W.SharedT.mk (treeG9 w.params) 119 ⟨[], [], [], 0, [], [], false, #[], [], 0, false, false, false, 0, [2000, 10, 10], false, 0, true, [], [], 0, false⟩ #[] ⟨0, 0, 0, 0⟩ 328 os) (PySem.W.piecesOf sts1 env0 code0 ⟨18, 0, 19, 8⟩ [PySem.W.topFrame ⟨0, 0, 0, 0⟩]) = some (.next, (PySem.W.SharedT.mk (treeG45 w.params) 462 ⟨[], [], [], 0, [], [], false, #[], [], 0, false, false, false, 0, [2000, 10, 10], false, 0, true, [], [], 0, false⟩ #[] ⟨0, 0, 0, 0⟩ 810 os), code0, ⟨213, 0, 245, 12⟩) := by kernel_rfl
noncomputable def treeG64 : Params → PySem.W.BT := fun P => (.node (PySem.W.boot_o_0 P) (.node (PySem.W.boot_o_1 P) (.node (ho455 P) (.node (PySem.W.boot_o_7 P) (.node (ho6 P) (.node (ho0 P) (.node (ho1 P) (.node (ho1 P) (.node (ho248 P) (.node (ho507 P) .nil .nil) .nil) (.node (ho376 P) .nil .nil)) (.node (ho184 P) (.node (ho312 P) (.node (ho0 P) .nil .nil) .nil) (.node (ho440 P) .nil .nil))) (.node (ho19 P) (.node (ho152 P) (.node (ho280 P) (.node (ho0 P) .nil .nil) .nil) (.node (ho408 P) .nil .nil)) (.node (ho1 P) (.node (ho1 P) (.node (ho1 P) .nil .nil) .nil) (.node (ho0 P) .nil .nil)))) (.node (ho0 P) (.node (ho70 P) (.node (ho0 P) (.node (ho0 P) (.node (ho523 P) .nil .nil) .nil) (.node (ho0 P) .nil .nil)) (.node (ho200 P) (.node (ho0 P) (.node (ho587 P) .nil .nil) .nil) (.node (ho7 P) .nil .nil))) (.node (ho1 P) (.node (ho0 P) (.node (ho296 P) (.node (ho555 P) .nil .nil) .nil) (.node (ho0 P) .nil .nil)) (.node (ho0 P) (.node (ho0 P) .nil .nil) (.node (ho0 P) .nil .nil))))) (.node (ho14 P) (.node (ho30 P) (.node (ho19 P) (.node (ho128 P) (.node (ho256 P) (.node (ho515 P) .nil .nil) .nil) (.node (ho384 P) .nil .nil)) (.node (ho0 P) (.node (ho0 P) (.node (ho1 P) .nil .nil) .nil) (.node (ho448 P) .nil .nil))) (.node (ho94 P) (.node (ho160 P) (.node (ho0 P) (.node (ho547 P) .nil .nil) .nil) (.node (ho416 P) .nil .nil)) (.node (ho224 P) (.node (ho352 P) (.node (ho611 P) .nil .nil) .nil) (.node (ho483 P) .nil .nil)))) (.node (ho46 P) (.node (ho1 P) (.node (ho144 P) (.node (ho1 P) (.node (ho0 P) .nil .nil) .nil) (.node (ho7 P) .nil .nil)) (.node (ho208 P) (.node (ho1 P) (.node (ho0 P) .nil .nil) .nil) (.node (ho467 P) .nil .nil))) (.node (ho0 P) (.node (ho1 P) (.node (ho304 P) (.node (ho563 P) .nil .nil) .nil) (.node (ho0 P) .nil .nil)) (.node (ho240 P) (.node (ho368 P) .nil .nil) (.node (ho499 P) .nil .nil)))))) (.node (ho0 P) (.node (ho1 P) (.node (ho0 P) (.node (ho58 P) (.node (ho124 P) (.node (ho252 P) (.node (ho1 P) .nil .nil) .nil) (.node (ho380 P) .nil .nil)) (.node (ho188 P) (.node (ho0 P) (.node (ho575 P) .nil .nil) .nil) (.node (ho1 P) .nil .nil))) (.node (ho1 P) (.node (ho156 P) (.node (ho284 P) (.node (ho0 P) .nil .nil) .nil) (.node (ho412 P) .nil .nil)) (.node (ho220 P) (.node (ho348 P) (.node (ho0 P) .nil .nil) .nil) (.node (ho0 P) .nil .nil)))) (.node (ho42 P) (.node (ho19 P) (.node (ho0 P) (.node (ho268 P) (.node (ho0 P) .nil .nil) .nil) (.node (ho396 P) .nil .nil)) (.node (ho1 P) (.node (ho332 P) (.node (ho1 P) .nil .nil) .nil) (.node (ho463 P) .nil .nil))) (.node (ho106 P) (.node (ho172 P) (.node (ho1 P) (.node (ho559 P) .nil .nil) .nil) (.node (ho428 P) .nil .nil)) (.node (ho0 P) (.node (ho0 P) .nil .nil) (.node (ho495 P) .nil .nil))))) (.node (ho18 P) (.node (ho0 P) (.node (ho1 P) (.node (ho132 P) (.node (ho0 P) (.node (ho519 P) .nil .nil) .nil) (.node (ho0 P) .nil .nil)) (.node (ho0 P) (.node (ho324 P) (.node (ho583 P) .nil .nil) .nil) (.node (ho457 P) .nil .nil))) (.node (ho19 P) (.node (ho0 P) (.node (ho0 P) (.node (ho1 P) .nil .nil) .nil) (.node (ho420 P) .nil .nil)) (.node (ho228 P) (.node (ho356 P) .nil .nil) (.node (ho0 P) .nil .nil)))) (.node (ho19 P) (.node (ho82 P) (.node (ho1 P) (.node (ho276 P) (.node (ho535 P) .nil .nil) .nil) (.node (ho404 P) .nil .nil)) (.node (ho212 P) (.node (ho340 P) (.node (ho599 P) .nil .nil) .nil) (.node (ho471 P) .nil .nil))) (.node (ho116 P) (.node (ho180 P) (.node (ho308 P) (.node (ho0 P) .nil .nil) .nil) (.node (ho0 P) .nil .nil)) (.node (ho1 P) (.node (ho372 P) .nil .nil) (.node (ho0 P) .nil .nil))))))) (.node (PySem.W.boot_o_5 P) (.node (PySem.W.boot_o_9 P) (.node (ho8 P) (.node (ho24 P) (.node (ho56 P) (.node (ho0 P) (.node (ho0 P) (.node (ho509 P) .nil .nil) .nil) (.node (ho0 P) .nil .nil)) (.node (ho186 P) (.node (ho1 P) (.node (ho573 P) .nil .nil) .nil) (.node (ho442 P) .nil .nil))) (.node (ho88 P) (.node (ho0 P) (.node (ho282 P) (.node (ho541 P) .nil .nil) .nil) (.node (ho410 P) .nil .nil)) (.node (ho0 P) (.node (ho0 P) (.node (ho605 P) .nil .nil) .nil) (.node (ho477 P) .nil .nil)))) (.node (ho40 P) (.node (ho72 P) (.node (ho138 P) (.node (ho266 P) (.node (ho1 P) .nil .nil) .nil) (.node (ho394 P) .nil .nil)) (.node (ho202 P) (.node (ho330 P) (.node (ho589 P) .nil .nil) .nil) (.node (ho0 P) .nil .nil))) (.node (ho104 P) (.node (ho170 P) (.node (ho298 P) (.node (ho0 P) .nil .nil) .nil) (.node (ho426 P) .nil .nil)) (.node (ho234 P) (.node (ho362 P) .nil .nil) (.node (ho493 P) .nil .nil))))) (.node (ho16 P) (.node (ho7 P) (.node (ho64 P) (.node (ho130 P) (.node (ho1 P) (.node (ho0 P) .nil .nil) .nil) (.node (ho1 P) .nil .nil)) (.node (ho194 P) (.node (ho322 P) (.node (ho0 P) .nil .nil) .nil) (.node (ho450 P) .nil .nil))) (.node (ho96 P) (.node (ho1 P) (.node (ho290 P) (.node (ho549 P) .nil .nil) .nil) (.node (ho418 P) .nil .nil)) (.node (ho226 P) (.node (ho354 P) (.node (ho613 P) .nil .nil) .nil) (.node (ho1 P) .nil .nil)))) (.node (ho48 P) (.node (ho80 P) (.node (ho146 P) (.node (ho0 P) (.node (ho533 P) .nil .nil) .nil) (.node (ho0 P) .nil .nil)) (.node (ho0 P) (.node (ho0 P) (.node (ho597 P) .nil .nil) .nil) (.node (ho469 P) .nil .nil))) (.node (ho114 P) (.node (ho0 P) (.node (ho0 P) (.node (ho1 P) .nil .nil) .nil) (.node (ho434 P) .nil .nil)) (.node (ho242 P) (.node (ho370 P) .nil .nil) (.node (ho501 P) .nil .nil)))))) (.node (ho2 P) (.node (ho12 P) (.node (ho28 P) (.node (ho60 P) (.node (ho0 P) (.node (ho254 P) (.node (ho0 P) .nil .nil) .nil) (.node (ho382 P) .nil .nil)) (.node (ho1 P) (.node (ho318 P) (.node (ho577 P) .nil .nil) .nil) (.node (ho0 P) .nil .nil))) (.node (ho92 P) (.node (ho158 P) (.node (ho1 P) (.node (ho545 P) .nil .nil) .nil) (.node (ho0 P) .nil .nil)) (.node (ho0 P) (.node (ho0 P) (.node (ho609 P) .nil .nil) .nil) (.node (ho481 P) .nil .nil)))) (.node (ho44 P) (.node (ho76 P) (.node (ho142 P) (.node (ho270 P) (.node (ho529 P) .nil .nil) .nil) (.node (ho398 P) .nil .nil)) (.node (ho0 P) (.node (ho334 P) (.node (ho593 P) .nil .nil) .nil) (.node (ho0 P) .nil .nil))) (.node (ho108 P) (.node (ho174 P) (.node (ho0 P) (.node (ho561 P) .nil .nil) .nil) (.node (ho1 P) .nil .nil)) (.node (ho238 P) (.node (ho366 P) .nil .nil) (.node (ho497 P) .nil .nil))))) (.node (ho7 P) (.node (ho36 P) (.node (ho68 P) (.node (ho1 P) (.node (ho262 P) (.node (ho521 P) .nil .nil) .nil) (.node (ho390 P) .nil .nil)) (.node (ho198 P) (.node (ho326 P) (.node (ho0 P) .nil .nil) .nil) (.node (ho454 P) .nil .nil))) (.node (ho100 P) (.node (ho166 P) (.node (ho294 P) (.node (ho0 P) .nil .nil) .nil) (.node (ho1 P) .nil .nil)) (.node (ho1 P) (.node (ho1 P) .nil .nil) (.node (ho489 P) .nil .nil)))) (.node (ho52 P) (.node (ho84 P) (.node (ho0 P) (.node (ho0 P) (.node (ho1 P) .nil .nil) .nil) (.node (ho0 P) .nil .nil)) (.node (ho214 P) (.node (ho342 P) (.node (ho601 P) .nil .nil) .nil) (.node (ho1 P) .nil .nil))) (.node (ho118 P) (.node (ho0 P) (.node (ho310 P) (.node (ho569 P) .nil .nil) .nil) (.node (ho438 P) .nil .nil)) (.node (ho0 P) (.node (ho374 P) .nil .nil) (.node (ho505 P) .nil .nil)))))))) (.node (PySem.W.boot_o_2 P) (.node (PySem.W.boot_o_4 P) (.node (PySem.W.boot_o_8 P) (.node (ho7 P) (.node (ho1 P) (.node (ho55 P) (.node (ho121 P) (.node (ho249 P) (.node (ho508 P) .nil .nil) .nil) (.node (ho377 P) .nil .nil)) (.node (ho0 P) (.node (ho0 P) (.node (ho1 P) .nil .nil) .nil) (.node (ho441 P) .nil .nil))) (.node (ho7 P) (.node (ho153 P) (.node (ho0 P) (.node (ho540 P) .nil .nil) .nil) (.node (ho0 P) .nil .nil)) (.node (ho217 P) (.node (ho345 P) (.node (ho604 P) .nil .nil) .nil) (.node (ho476 P) .nil .nil)))) (.node (ho1 P) (.node (ho71 P) (.node (ho137 P) (.node (ho7 P) (.node (ho0 P) .nil .nil) .nil) (.node (ho1 P) .nil .nil)) (.node (ho201 P) (.node (ho1 P) (.node (ho588 P) .nil .nil) .nil) (.node (ho460 P) .nil .nil))) (.node (ho103 P) (.node (ho1 P) (.node (ho297 P) (.node (ho556 P) .nil .nil) .nil) (.node (ho425 P) .nil .nil)) (.node (ho233 P) (.node (ho361 P) .nil .nil) (.node (ho1 P) .nil .nil))))) (.node (ho15 P) (.node (ho19 P) (.node (ho7 P) (.node (ho0 P) (.node (ho0 P) (.node (ho516 P) .nil .nil) .nil) (.node (ho0 P) .nil .nil)) (.node (ho193 P) (.node (ho1 P) (.node (ho580 P) .nil .nil) .nil) (.node (ho449 P) .nil .nil))) (.node (ho95 P) (.node (ho0 P) (.node (ho289 P) (.node (ho548 P) .nil .nil) .nil) (.node (ho0 P) .nil .nil)) (.node (ho0 P) (.node (ho0 P) (.node (ho612 P) .nil .nil) .nil) (.node (ho0 P) .nil .nil)))) (.node (ho47 P) (.node (ho79 P) (.node (ho145 P) (.node (ho273 P) (.node (ho1 P) .nil .nil) .nil) (.node (ho401 P) .nil .nil)) (.node (ho209 P) (.node (ho337 P) (.node (ho1 P) .nil .nil) .nil) (.node (ho0 P) .nil .nil))) (.node (ho1 P) (.node (ho177 P) (.node (ho305 P) (.node (ho0 P) .nil .nil) .nil) (.node (ho433 P) .nil .nil)) (.node (ho241 P) (.node (ho369 P) .nil .nil) (.node (ho500 P) .nil .nil)))))) (.node (ho456 P) (.node (ho11 P) (.node (ho27 P) (.node (ho59 P) (.node (ho125 P) (.node (ho0 P) (.node (ho512 P) .nil .nil) .nil) (.node (ho0 P) .nil .nil)) (.node (ho0 P) (.node (ho317 P) (.node (ho576 P) .nil .nil) .nil) (.node (ho445 P) .nil .nil))) (.node (ho91 P) (.node (ho0 P) (.node (ho0 P) (.node (ho1 P) .nil .nil) .nil) (.node (ho413 P) .nil .nil)) (.node (ho221 P) (.node (ho349 P) (.node (ho1 P) .nil .nil) .nil) (.node (ho1 P) .nil .nil)))) (.node (ho43 P) (.node (ho7 P) (.node (ho1 P) (.node (ho269 P) (.node (ho528 P) .nil .nil) .nil) (.node (ho397 P) .nil .nil)) (.node (ho205 P) (.node (ho333 P) (.node (ho592 P) .nil .nil) .nil) (.node (ho464 P) .nil .nil))) (.node (ho107 P) (.node (ho173 P) (.node (ho301 P) (.node (ho0 P) .nil .nil) .nil) (.node (ho0 P) .nil .nil)) (.node (ho1 P) (.node (ho1 P) .nil .nil) (.node (ho496 P) .nil .nil))))) (.node (ho19 P) (.node (ho35 P) (.node (ho67 P) (.node (ho0 P) (.node (ho261 P) (.node (ho0 P) .nil .nil) .nil) (.node (ho389 P) .nil .nil)) (.node (ho1 P) (.node (ho325 P) (.node (ho584 P) .nil .nil) .nil) (.node (ho453 P) .nil .nil))) (.node (ho7 P) (.node (ho165 P) (.node (ho1 P) (.node (ho552 P) .nil .nil) .nil) (.node (ho0 P) .nil .nil)) (.node (ho0 P) (.node (ho0 P) .nil .nil) (.node (ho488 P) .nil .nil)))) (.node (ho7 P) (.node (ho83 P) (.node (ho149 P) (.node (ho277 P) (.node (ho0 P) .nil .nil) .nil) (.node (ho405 P) .nil .nil)) (.node (ho213 P) (.node (ho341 P) (.node (ho600 P) .nil .nil) .nil) (.node (ho0 P) .nil .nil))) (.node (ho117 P) (.node (ho181 P) (.node (ho0 P) (.node (ho568 P) .nil .nil) .nil) (.node (ho1 P) .nil .nil)) (.node (ho245 P) (.node (ho373 P) .nil .nil) (.node (ho1 P) .nil .nil))))))) (.node (PySem.W.boot_o_6 P) (.node (PySem.W.boot_o_10 P) (.node (ho0 P) (.node (ho25 P) (.node (ho0 P) (.node (ho123 P) (.node (ho1 P) (.node (ho0 P) .nil .nil) .nil) (.node (ho1 P) .nil .nil)) (.node (ho187 P) (.node (ho315 P) (.node (ho0 P) .nil .nil) .nil) (.node (ho0 P) .nil .nil))) (.node (ho0 P) (.node (ho1 P) (.node (ho283 P) (.node (ho542 P) .nil .nil) .nil) (.node (ho411 P) .nil .nil)) (.node (ho219 P) (.node (ho347 P) (.node (ho606 P) .nil .nil) .nil) (.node (ho478 P) .nil .nil)))) (.node (ho0 P) (.node (ho73 P) (.node (ho139 P) (.node (ho0 P) (.node (ho526 P) .nil .nil) .nil) (.node (ho0 P) .nil .nil)) (.node (ho0 P) (.node (ho0 P) (.node (ho0 P) .nil .nil) .nil) (.node (ho462 P) .nil .nil))) (.node (ho0 P) (.node (ho0 P) (.node (ho0 P) (.node (ho1 P) .nil .nil) .nil) (.node (ho427 P) .nil .nil)) (.node (ho235 P) (.node (ho363 P) .nil .nil) (.node (ho0 P) .nil .nil))))) (.node (ho17 P) (.node (ho33 P) (.node (ho0 P) (.node (ho131 P) (.node (ho259 P) (.node (ho1 P) .nil .nil) .nil) (.node (ho387 P) .nil .nil)) (.node (ho195 P) (.node (ho0 P) (.node (ho582 P) .nil .nil) .nil) (.node (ho451 P) .nil .nil))) (.node (ho97 P) (.node (ho163 P) (.node (ho291 P) (.node (ho0 P) .nil .nil) .nil) (.node (ho419 P) .nil .nil)) (.node (ho227 P) (.node (ho355 P) .nil .nil) (.node (ho486 P) .nil .nil)))) (.node (ho49 P) (.node (ho0 P) (.node (ho0 P) (.node (ho275 P) (.node (ho534 P) .nil .nil) .nil) (.node (ho403 P) .nil .nil)) (.node (ho1 P) (.node (ho339 P) (.node (ho0 P) .nil .nil) .nil) (.node (ho470 P) .nil .nil))) (.node (ho0 P) (.node (ho179 P) (.node (ho1 P) (.node (ho566 P) .nil .nil) .nil) (.node (ho435 P) .nil .nil)) (.node (ho0 P) (.node (ho371 P) .nil .nil) (.node (ho502 P) .nil .nil)))))) (.node (ho3 P) (.node (ho0 P) (.node (ho29 P) (.node (ho61 P) (.node (ho1 P) (.node (ho255 P) (.node (ho514 P) .nil .nil) .nil) (.node (ho383 P) .nil .nil)) (.node (ho191 P) (.node (ho319 P) (.node (ho0 P) .nil .nil) .nil) (.node (ho447 P) .nil .nil))) (.node (ho0 P) (.node (ho159 P) (.node (ho287 P) (.node (ho0 P) .nil .nil) .nil) (.node (ho1 P) .nil .nil)) (.node (ho1 P) (.node (ho1 P) (.node (ho0 P) .nil .nil) .nil) (.node (ho482 P) .nil .nil)))) (.node (ho45 P) (.node (ho0 P) (.node (ho0 P) (.node (ho0 P) (.node (ho530 P) .nil .nil) .nil) (.node (ho399 P) .nil .nil)) (.node (ho207 P) (.node (ho0 P) (.node (ho594 P) .nil .nil) .nil) (.node (ho1 P) .nil .nil))) (.node (ho109 P) (.node (ho0 P) (.node (ho303 P) (.node (ho562 P) .nil .nil) .nil) (.node (ho431 P) .nil .nil)) (.node (ho0 P) (.node (ho0 P) .nil .nil) (.node (ho498 P) .nil .nil))))) (.node (ho21 P) (.node (ho37 P) (.node (ho0 P) (.node (ho135 P) (.node (ho263 P) (.node (ho522 P) .nil .nil) .nil) (.node (ho391 P) .nil .nil)) (.node (ho0 P) (.node (ho327 P) (.node (ho1 P) .nil .nil) .nil) (.node (ho458 P) .nil .nil))) (.node (ho0 P) (.node (ho167 P) (.node (ho0 P) (.node (ho554 P) .nil .nil) .nil) (.node (ho423 P) .nil .nil)) (.node (ho231 P) (.node (ho359 P) .nil .nil) (.node (ho490 P) .nil .nil)))) (.node (ho0 P) (.node (ho85 P) (.node (ho151 P) (.node (ho1 P) (.node (ho538 P) .nil .nil) .nil) (.node (ho1 P) .nil .nil)) (.node (ho0 P) (.node (ho0 P) (.node (ho0 P) .nil .nil) .nil) (.node (ho474 P) .nil .nil))) (.node (ho0 P) (.node (ho1 P) (.node (ho311 P) (.node (ho570 P) .nil .nil) .nil) (.node (ho0 P) .nil .nil)) (.node (ho247 P) (.node (ho375 P) .nil .nil) (.node (ho0 P) .nil .nil)))))))))
theorem grp2 (w : World) (os : OsState) : PySem.W.segRunT treeTable PySem.Challenge.pw_stow_k17_next w 11 (some (.ref 6)) 1 931 (PySem.W.SharedT.mk (treeG45 w.params) 462 ⟨[], [], [], 0, [], [], false, #[], [], 0, false, false, false, 0, [2000, 10, 10], false, 0, true, [], [], 0, false⟩ #[] ⟨0, 0, 0, 0⟩ 810 os) (PySem.W.piecesOf sts2 env0 code0 ⟨213, 0, 245, 12⟩ [PySem.W.topFrame ⟨0, 0, 0, 0⟩]) = some (.next, (PySem.W.SharedT.mk (treeG64 w.params) 618 ⟨[], [], [], 0, [], [], false, #[], [], 0, false, false, false, 0, [2000, 10, 10], false, 0, true, [], [], 0, false⟩ #[] ⟨0, 0, 0, 0⟩ 1039 os), code0, ⟨416, 0, 431, 89⟩) := by kernel_rfl
theorem fin0 (w : World) (os : OsState) : PySem.W.topRun treeTable PySem.Challenge.pw_stow_k17_next w 11 (some (.ref 6)) 2 ⟨PySem.W.absHeap (treeG64 w.params) 618 ⟨[], [], [], 0, [], [], false, #[], [], 0, false, false, false, 0, [2000, 10, 10], false, 0, true, [], [], 0, false⟩, #[], ⟨0, 0, 0, 0⟩, 1039, os⟩ (PySem.W.restOf [] env0 code0 ⟨416, 0, 431, 89⟩ [PySem.W.topFrame ⟨0, 0, 0, 0⟩]) = some ⟨PySem.W.absHeap (treeG64 w.params) 618 ⟨[], [], [], 0, [], [], false, #[], [], 0, false, false, false, 0, [2000, 10, 10], false, 0, true, [], [], 0, false⟩, #[], ⟨0, 0, 0, 0⟩, 1039, os⟩ := by kernel_rfl
theorem run0 (w : World) (os : OsState) : PySem.W.topRun treeTable PySem.Challenge.pw_stow_k17_next w 11 (some (.ref 6)) (12 + (1 + (1719 + (1943 + (931 + 2))))) ⟨PySem.W.boot_heap w.params, Array.mk [], PySem.W.boot_drawn, PySem.W.boot_toks, os⟩ (PySem.W.topStub PySem.Challenge.pw_stow_k17_next) = some ⟨PySem.W.absHeap (treeG64 w.params) 618 ⟨[], [], [], 0, [], [], false, #[], [], 0, false, false, false, 0, [2000, 10, 10], false, 0, true, [], [], 0, false⟩, #[], ⟨0, 0, 0, 0⟩, 1039, os⟩ := PySem.W.go_top (pre0 w os) (PySem.W.piece_block (blk0 w os) (PySem.W.piece_app (PySem.W.segRun_of (grp0 w os)) (PySem.W.piece_app (PySem.W.segRun_of (grp1 w os)) (PySem.W.piece_app (PySem.W.segRun_of (grp2 w os)) (fin0 w os)))))
theorem open0 (w : World) : (PySem.W.fencedOpening treeTable PySem.Challenge.pw_stow_k17_next w 5308).map (fun s => (s.heap, s.gens, s.drawn, s.toks)) = some (PySem.W.boot_heap w.params, Array.mk [], PySem.W.boot_drawn, PySem.W.boot_toks) := PySem.W.boot_open (by kernel_rfl) rfl (fun s => by kernel_rfl) w
noncomputable def heap0 : Params → PySem.W.Frag := fun P =>
 (nat_lit 2, PySem.W.boot_o_2 P) ::
 (nat_lit 3, ho455 P) ::
 (nat_lit 17, ho8 P) ::
 (nat_lit 23, ho14 P) ::
 (nat_lit 24, ho15 P) ::
 (nat_lit 30, ho21 P) ::
 (nat_lit 36, ho27 P) ::
 (nat_lit 37, ho28 P) ::
 (nat_lit 42, ho33 P) ::
 (nat_lit 52, ho43 P) ::
 (nat_lit 53, ho44 P) ::
 (nat_lit 55, ho46 P) ::
 (nat_lit 56, ho47 P) ::
 (nat_lit 61, ho52 P) ::
 (nat_lit 67, ho58 P) ::
 (nat_lit 68, ho59 P) ::
 (nat_lit 73, ho64 P) ::
 (nat_lit 79, ho70 P) ::
 (nat_lit 80, ho71 P) ::
 (nat_lit 85, ho76 P) ::
 (nat_lit 91, ho82 P) ::
 (nat_lit 92, ho83 P) ::
 (nat_lit 97, ho88 P) ::
 (nat_lit 103, ho94 P) ::
 (nat_lit 104, ho95 P) ::
 (nat_lit 109, ho100 P) ::
 (nat_lit 115, ho106 P) ::
 (nat_lit 116, ho107 P) ::
 (nat_lit 124, ho117 P) ::
 (nat_lit 125, ho118 P) ::
 (nat_lit 131, ho124 P) ::
 (nat_lit 132, ho125 P) ::
 (nat_lit 138, ho131 P) ::
 (nat_lit 139, ho132 P) ::
 (nat_lit 145, ho138 P) ::
 (nat_lit 146, ho139 P) ::
 (nat_lit 152, ho145 P) ::
 (nat_lit 153, ho146 P) ::
 (nat_lit 159, ho152 P) ::
 (nat_lit 160, ho153 P) ::
 (nat_lit 166, ho159 P) ::
 (nat_lit 167, ho160 P) ::
 (nat_lit 173, ho166 P) ::
 (nat_lit 174, ho167 P) ::
 (nat_lit 180, ho173 P) ::
 (nat_lit 181, ho174 P) ::
 (nat_lit 187, ho180 P) ::
 (nat_lit 188, ho181 P) ::
 (nat_lit 194, ho187 P) ::
 (nat_lit 195, ho188 P) ::
 (nat_lit 201, ho194 P) ::
 (nat_lit 202, ho195 P) ::
 (nat_lit 208, ho201 P) ::
 (nat_lit 209, ho202 P) ::
 (nat_lit 215, ho208 P) ::
 (nat_lit 216, ho209 P) ::
 (nat_lit 220, ho213 P) ::
 (nat_lit 221, ho214 P) ::
 (nat_lit 227, ho220 P) ::
 (nat_lit 228, ho221 P) ::
 (nat_lit 234, ho227 P) ::
 (nat_lit 235, ho228 P) ::
 (nat_lit 241, ho234 P) ::
 (nat_lit 242, ho235 P) ::
 (nat_lit 248, ho241 P) ::
 (nat_lit 249, ho242 P) ::
 (nat_lit 255, ho248 P) ::
 (nat_lit 256, ho249 P) ::
 (nat_lit 262, ho255 P) ::
 (nat_lit 263, ho256 P) ::
 (nat_lit 269, ho262 P) ::
 (nat_lit 270, ho263 P) ::
 (nat_lit 273, ho266 P) ::
 (nat_lit 283, ho276 P) ::
 (nat_lit 284, ho277 P) ::
 (nat_lit 290, ho283 P) ::
 (nat_lit 291, ho284 P) ::
 (nat_lit 297, ho290 P) ::
 (nat_lit 298, ho291 P) ::
 (nat_lit 304, ho297 P) ::
 (nat_lit 305, ho298 P) ::
 (nat_lit 311, ho304 P) ::
 (nat_lit 312, ho305 P) ::
 (nat_lit 318, ho311 P) ::
 (nat_lit 319, ho312 P) ::
 (nat_lit 325, ho318 P) ::
 (nat_lit 326, ho319 P) ::
 (nat_lit 332, ho325 P) ::
 (nat_lit 333, ho326 P) ::
 (nat_lit 369, ho362 P) ::
 (nat_lit 370, ho363 P) ::
 (nat_lit 376, ho369 P) ::
 (nat_lit 377, ho370 P) ::
 (nat_lit 379, ho372 P) ::
 (nat_lit 380, ho373 P) ::
 (nat_lit 390, ho383 P) ::
 (nat_lit 391, ho384 P) ::
 (nat_lit 397, ho390 P) ::
 (nat_lit 398, ho391 P) ::
 (nat_lit 404, ho397 P) ::
 (nat_lit 405, ho398 P) ::
 (nat_lit 408, ho401 P) ::
 (nat_lit 420, ho413 P) ::
 (nat_lit 426, ho419 P) ::
 (nat_lit 427, ho420 P) ::
 (nat_lit 433, ho426 P) ::
 (nat_lit 434, ho427 P) ::
 (nat_lit 435, ho428 P) ::
 (nat_lit 441, ho434 P) ::
 (nat_lit 442, ho435 P) ::
 (nat_lit 458, ho451 P) ::
 (nat_lit 459, ho457 P) ::
 (nat_lit 464, ho460 P) ::
 (nat_lit 474, ho470 P) ::
 (nat_lit 475, ho471 P) ::
 (nat_lit 481, ho477 P) ::
 (nat_lit 482, ho478 P) ::
 (nat_lit 486, ho482 P) ::
 (nat_lit 487, ho483 P) ::
 (nat_lit 493, ho489 P) ::
 (nat_lit 494, ho490 P) ::
 (nat_lit 500, ho496 P) ::
 (nat_lit 501, ho497 P) ::
 (nat_lit 503, ho499 P) ::
 (nat_lit 504, ho500 P) ::
 (nat_lit 512, ho508 P) ::
 (nat_lit 513, ho509 P) ::
 (nat_lit 519, ho515 P) ::
 (nat_lit 520, ho516 P) ::
 (nat_lit 526, ho522 P) ::
 (nat_lit 527, ho523 P) ::
 (nat_lit 533, ho529 P) ::
 (nat_lit 534, ho530 P) ::
 (nat_lit 538, ho534 P) ::
 (nat_lit 539, ho535 P) ::
 (nat_lit 545, ho541 P) ::
 (nat_lit 546, ho542 P) ::
 (nat_lit 552, ho548 P) ::
 (nat_lit 553, ho549 P) ::
 (nat_lit 559, ho555 P) ::
 (nat_lit 560, ho556 P) ::
 (nat_lit 566, ho562 P) ::
 (nat_lit 567, ho563 P) ::
 (nat_lit 573, ho569 P) ::
 (nat_lit 574, ho570 P) ::
 (nat_lit 580, ho576 P) ::
 (nat_lit 581, ho577 P) ::
 (nat_lit 587, ho583 P) ::
 (nat_lit 588, ho584 P) ::
 (nat_lit 592, ho588 P) ::
 (nat_lit 593, ho589 P) ::
 (nat_lit 597, ho593 P) ::
 (nat_lit 598, ho594 P) ::
 (nat_lit 604, ho600 P) ::
 (nat_lit 605, ho601 P) ::
 (nat_lit 609, ho605 P) ::
 (nat_lit 610, ho606 P) ::
 (nat_lit 616, ho612 P) ::
 (nat_lit 617, ho613 P) ::
 []
def at0 : List Addr := 2 :: 3 :: 17 :: 23 :: 24 :: 30 :: 36 :: 37 :: 42 :: 52 :: 53 :: 55 :: 56 :: 61 :: 67 :: 68 :: 73 :: 79 :: 80 :: 85 :: 91 :: 92 :: 97 :: 103 :: 104 :: 109 :: 115 :: 116 :: 124 :: 125 :: 131 :: 132 :: 138 :: 139 :: 145 :: 146 :: 152 :: 153 :: 159 :: 160 :: 166 :: 167 :: 173 :: 174 :: 180 :: 181 :: 187 :: 188 :: 194 :: 195 :: 201 :: 202 :: 208 :: 209 :: 215 :: 216 :: 220 :: 221 :: 227 :: 228 :: 234 :: 235 :: 241 :: 242 :: 248 :: 249 :: 255 :: 256 :: 262 :: 263 :: 269 :: 270 :: 273 :: 283 :: 284 :: 290 :: 291 :: 297 :: 298 :: 304 :: 305 :: 311 :: 312 :: 318 :: 319 :: 325 :: 326 :: 332 :: 333 :: 369 :: 370 :: 376 :: 377 :: 379 :: 380 :: 390 :: 391 :: 397 :: 398 :: 404 :: 405 :: 408 :: 420 :: 426 :: 427 :: 433 :: 434 :: 435 :: 441 :: 442 :: 458 :: 459 :: 464 :: 474 :: 475 :: 481 :: 482 :: 486 :: 487 :: 493 :: 494 :: 500 :: 501 :: 503 :: 504 :: 512 :: 513 :: 519 :: 520 :: 526 :: 527 :: 533 :: 534 :: 538 :: 539 :: 545 :: 546 :: 552 :: 553 :: 559 :: 560 :: 566 :: 567 :: 573 :: 574 :: 580 :: 581 :: 587 :: 588 :: 592 :: 593 :: 597 :: 598 :: 604 :: 605 :: 609 :: 610 :: 616 :: 617 :: []
def loose0 : List Str := "StowError" :: "NoSize" :: "Broken" :: "NoPiece" :: "NoCell" :: "NoAsk" :: "NoBound" :: "NoRoom" :: "MARKS" :: "check_ask" :: "check_plain_ask" :: "mark_of" :: "long_of" :: "live_of" :: "LEAST_LIVE" :: "can_begin" :: "bad_of_piece" :: "looked" :: "fresh_room" :: "laid" :: "laid_free" :: "piece_at" :: "live_at" :: "free_at" :: "begin_around" :: "free_begin" :: "free_end" :: "cut_out" :: "freed" :: "joined_pieces" :: "joined" :: "carried" :: "Keeper" :: "first_place" :: "spots_for" :: "least_place" :: "Stretches" :: "Next" :: "_law_cell_at" :: "_law_whole" :: "_law_as_one" :: "_law_cut" :: "_law_free" :: "_law_end" :: "_law_regrown" :: "_law_next" :: "_law_answer" :: "_law_new" :: "_law_grow" :: "_law_laid" :: "_law_parted" :: "_law_put" :: "_law_looks" :: "_law_step" :: []
theorem at0_eq (P : Params) : at0 = (heap0 P).map (·.1) := by kernel_rfl
abbrev seen0 (s : Shared) : Bool := PySem.W.recOk (PySem.W.RowW.records (PySem.W.OpenRow.toRowW (PySem.Challenge.rw_stow_k17_next).row)) s
theorem left0 : PySem.W.LeftO PySem.Challenge.pw_stow_k17_next (PySem.W.view PySem.Challenge.pw_stow_k17_next [63]) loose0 seen0 (fun s => at0.map s.heap.get?) (fun w => (heap0 w.params).map fun p => some p.2) 5308 :=
 PySem.W.LeftO.of_pieces (H₁ := fun P => PySem.W.absHeap (treeG64 P) 618 ⟨[], [], [], 0, [], [], false, #[], [], 0, false, false, false, 0, [2000, 10, 10], false, 0, true, [], [], 0, false⟩) (gs₁ := #[]) (d₁ := ⟨0, 0, 0, 0⟩) (k₁ := 1039) (m₀ := 11) (ann := (some (.ref 6))) open0 (fun w => by kernel_rfl) run0 rfl (fun w => funext fun os => by kernel_rfl)
end Stow
set_option Elab.async false
set_option linter.all false
set_option maxRecDepth 100000
namespace L2
open PySem PySem.Spec PyProof.Rows
abbrev Key := Sum Int Str
def keyIs : Key → Value → Bool
 | .inl k, v => Value.isInt k v
 | .inr x, v => Value.isStrOf x v
def keyH (w : World) : Key → Int
 | .inl k => hashInt k
 | .inr x => hashStr w x
theorem Xca : ∀ {k : Key} {v : Value}, keyIs k v = true → (∃ i t, k = Sum.inl i ∧ v = Value.int i t) ∨ (∃ x t, k = Sum.inr x ∧ v = Value.str x t)
 | .inl i, v, h => by
   obtain ⟨t, e⟩ := Value.isInt_shape (k := i) (v := v) h
   exact .inl ⟨i, t, rfl, e⟩
 | .inr x, v, h => by
   obtain ⟨t, e⟩ := Value.isStrOf_shape (x := x) (v := v) h
   exact .inr ⟨x, t, rfl, e⟩
theorem key_ll (a b : Int) : decide ((Sum.inl a : Key) = Sum.inl b) = (a == b) := by
 by_cases e : a = b
 · subst e; simp
 · have h : ¬ (Sum.inl a : Key) = Sum.inl b := fun q => e (Sum.inl.inj q)
   rw [decide_eq_false h]
   exact (beq_eq_false_iff_ne.mpr e).symm
theorem key_rr (a b : Str) : decide ((Sum.inr a : Key) = Sum.inr b) = decide (a = b) := by
 by_cases e : a = b
 · subst e; simp
 · have h : ¬ (Sum.inr a : Key) = Sum.inr b := fun q => e (Sum.inr.inj q)
   rw [decide_eq_false h, decide_eq_false e]
theorem key_lr (a : Int) (b : Str) : decide ((Sum.inl a : Key) = Sum.inr b) = false := decide_eq_false (fun q => nomatch q)
theorem key_rl (a : Str) (b : Int) : decide ((Sum.inr a : Key) = Sum.inl b) = false := decide_eq_false (fun q => nomatch q)
def mixKind (prog : Program) (w : World) : PySem.KeyKind prog w Key where
 is := keyIs
 hash := keyH w
 inj := fun v a b ha hb => by
   rcases Xca ha with ⟨i, t, rfl, rfl⟩ | ⟨x, t, rfl, rfl⟩
   · rcases Xca hb with ⟨j, u, rfl, e⟩ | ⟨y, u, rfl, e⟩
     · injection e with e1 _; rw [e1]
     · exact nomatch e
   · rcases Xca hb with ⟨j, u, rfl, e⟩ | ⟨y, u, rfl, e⟩
     · exact nomatch e
     · injection e with e1 _; rw [e1]
 byValue := fun k v h => by
   rcases Xca h with ⟨i, t, rfl, rfl⟩ | ⟨x, t, rfl, rfl⟩ <;> rfl
 pyHash := fun hv h => by
   rcases Xca hv with ⟨i, t, rfl, rfl⟩ | ⟨x, t, rfl, rfl⟩
   · exact wpAny_pyHash_int h
   · exact wpAny_pyHash_str h
 eqBool := fun hu hv h => by
   rcases Xca hu with ⟨i, t, rfl, rfl⟩ | ⟨x, t, rfl, rfl⟩
   · rcases Xca hv with ⟨j, u, rfl, rfl⟩ | ⟨y, u, rfl, rfl⟩
     · rw [key_ll] at h; exact wpAny_eqBool_int h
     · rw [key_lr] at h; exact SeqAt.EqAt.int_str i t y u _ _ _ _ h
   · rcases Xca hv with ⟨j, u, rfl, rfl⟩ | ⟨y, u, rfl, rfl⟩
     · rw [key_rl] at h; exact SeqAt.EqAt.str_int x t j u _ _ _ _ h
     · rw [key_rr] at h; exact wpAny_eqBool_str h
 «strs» := fun k x t v h => by
   rcases Xca h with ⟨i, u, rfl, e⟩ | ⟨y, u, rfl, e⟩
   · exact nomatch e
   · injection e with e1 _
     subst e1
     cases v <;> rfl
end L2
namespace L2
open PySem PySem.Spec PyProof.Rows
inductive V where
 | non | bl (b : Bool) | int (i : Int) | str (x : Str) | byt (b : Array UInt8) | flt (b : UInt64) | ref (a : Addr) | ty (n : String)
 deriving DecidableEq
def RelV : V → Value → Prop
 | .non, u => u = Value.none
 | .bl b, u => u = Value.bool b
 | .int i, u => ∃ t, u = Value.int i t
 | .str x, u => ∃ t, u = Value.str x t
 | .byt b, u => ∃ t, u = Value.bytes b t
 | .flt b, u => ∃ t, u = Value.float b t
 | .ref a, u => u = Value.ref a
 | .ty n, u => u = Value.type n
abbrev Vals : List V → List Value → Prop := Paired RelV
theorem Vals.length {xs : List V} {us : List Value} (r : Vals xs us) : xs.length = us.length := Paired.length r
theorem Vals.get : ∀ {xs : List V} {us : List Value} {i : Nat} {x : V}, Vals xs us → xs[i]? = some x → ∃ u, us[i]? = some u ∧ RelV x u
 | _, _, _, _, .nil, e => by simp at e
 | _, _, 0, _, .cons r _, e => by simp at e; subst e; exact ⟨_, rfl, r⟩
 | _, _, i + 1, x, .cons _ t, e => by
   obtain ⟨u, h1, h2⟩ := Vals.get (i := i) (x := x) t (by simpa using e)
   exact ⟨u, by simpa using h1, h2⟩
theorem Vals.set {x : V} {u : Value} (r : RelV x u) : ∀ {xs : List V} {us : List Value} (i : Nat), Vals xs us → Vals (xs.set i x) (us.set i u)
 | _, _, _, .nil => .nil
 | _, _, 0, .cons _ t => .cons r t
 | _, _, i + 1, .cons q t => .cons q (Vals.set r i t)
theorem Vals.append : ∀ {xs ys : List V} {us ws : List Value}, Vals xs us → Vals ys ws → Vals (xs ++ ys) (us ++ ws)
 | _, _, _, _, .nil, s => s
 | _, _, _, _, .cons r t, s => .cons r (Vals.append t s)
theorem Vals.take : ∀ {xs : List V} {us : List Value} (n : Nat), Vals xs us → Vals (xs.take n) (us.take n)
 | _, _, 0, _ => .nil
 | _, _, _ + 1, .nil => .nil
 | _, _, n + 1, .cons r t => .cons r (Vals.take n t)
theorem Vals.drop : ∀ {xs : List V} {us : List Value} (n : Nat), Vals xs us → Vals (xs.drop n) (us.drop n)
 | _, _, 0, r => r
 | _, _, _ + 1, .nil => .nil
 | _, _, n + 1, .cons _ t => Vals.drop n t
theorem Vals.none_of : ∀ {xs : List V} {us : List Value} {i : Nat}, Vals xs us → xs[i]? = none → us[i]? = none := fun {xs us i} r e => by
 have h1 := r.length
 have h2 : xs.length ≤ i := List.getElem?_eq_none_iff.mp e
 exact List.getElem?_eq_none_iff.mpr (by omega)
def RelO : Option V → Option Value → Prop
 | some v, some u => RelV v u
 | none, none => True
 | _, _ => False
def KV {κ : Type} : List (κ × V) → List (κ × Value) → Prop := Paired fun (p : κ × V) (q : κ × Value) => p.1 = q.1 ∧ RelV p.2 q.2
def kV : Key → V
 | .inl i => .int i
 | .inr x => .str x
inductive HO where
 /-- a list -/
 | lst (xs : List V)
 /-- a tuple (never changes) -/
 | tup (xs : List V)
 /-- a dict whose keys are ints and texts; one whose keys are tuples of ints and texts (the empty one is both) -/
 | dK (kvs : List (Key × V)) | dT (kvs : List (List Key × V))
 /-- a set of ints: its members, its size -/
 | set (S : Int → Bool) (n : Nat)
 /-- an instance of the class at C, its dict at dx, its attributes -/
 | ins (C dx : Addr) (fs : List (Str × V))
 /-- the dict of the instance at x -/
 | own (x : Addr)
 /-- the dict of an exception -/
 | xd (fs : List (Str × V))
 /-- a bound method, f of x -/
 | met (f x : Addr)
 /-- a range object lo, lo + 1, .. below hi -/
 | rng (lo hi : Int)
 /-- a thing that is known to the object (the script; a dict while a loop walks it): read, never written while it is so -/
 | frz (o : Obj) (u : HO)
 /-- a code object's table -/
 | tbl (ps : Array Value)
 /-- any other thing, by what is true of its one object (a def of one's own: SetO a S n := HO.ext fun h => ..) -/
 | ext (φ : Heap → Prop)
abbrev Hp := Addr → Option HO
def upd (H : Hp) (a : Addr) (o : HO) : Hp := fun b => if b = a then some o else H b
theorem upd_same {H : Hp} {a : Addr} {o : HO} : upd H a o a = some o := by unfold upd; rw [if_pos rfl]
theorem Xav {H : Hp} {a b : Addr} {o : HO} (h : b ≠ a) : upd H a o b = H b := by unfold upd; rw [if_neg h]
theorem Xaw {H : Hp} {a b : Addr} {o : HO} (h : H a = some o) (h' : H b = none) : a ≠ b := by
 intro e; subst e; rw [h] at h'; cases h'
section
variable (P : Program) (w : World)
def Xea (H : Hp) (h : Heap) (a : Addr) : HO → Prop
 | .lst xs => xs.length ≤ sizeLine ∧ ∃ (its : List Value) (n : Nat), Vals xs its ∧ h.get? a = some { cls := .type "list", data := .seq its.toArray n }
 | .tup xs => xs.length ≤ sizeLine ∧ ∃ its : List Value, Vals xs its ∧ IsTup h a its.toArray
 | .dK kvs => kvs.length ≤ sizeLine ∧ (a == sysModules) = false ∧ ∃ vs, KV kvs vs ∧ h.DictOf (mixKind P w) a vs
 | .dT kvs => kvs.length ≤ sizeLine ∧ (a == sysModules) = false ∧ ∃ xs : List (List Key × Addr × Value),
     Paired (fun (p : List Key × V) (q : List Key × Addr × Value) => p.1 = q.1 ∧ H q.2.1 = some (.tup (p.1.map kV)) ∧ RelV p.2 q.2.2) kvs xs ∧
     ∃ o es ep, h.get? a = some o ∧ o.ExactDict ∧ o.data = .dict es ep ∧ es.toList = xs.map (entryOfKey (tupleKind (mixKind P w))) ∧ (xs.map (·.1)).Nodup
 | .set S n => h.SetOf (intKind P w) a S n
 | .ins C dx fs => H dx = some (.own a) ∧ fs.length ≤ 1000 ∧ dx ≠ a ∧ h.get? a = some (PySem.W.instObj C dx) ∧
     ∃ mA, h.Ns1 dx mA ∧ (∀ f, RelO (fs.lookup f) (mA f)) ∧ PySem.Within mA (fs.map (·.1))
 | .own _ => ∃ o, h.get? a = some o
 | .xd fs => ∃ mA, h.Ns1 a mA ∧ ∀ f, RelO (fs.lookup f) (mA f)
 | .rng lo hi => ∃ t u v, h.get? a = some { cls := .type "range", data := .fields #[.int lo t, .int hi u, .int 1 v] }
 | .frz o u => h.get? a = some o ∧ Xea H h a u
 | .tbl ps => h.get? a = some { cls := .none, data := .fields ps }
 | .met f x => h.get? a = some (PySem.W.methodObj (.ref f) (.ref x))
 | .ext φ => φ h ∧ (∃ o, h.get? a = some o) ∧ ∀ h1 h2 : Heap, φ h1 → (∀ o, h1.get? a = some o → h2.get? a = some o) → φ h2
def HOk (H : Hp) (h : Heap) : Prop := ∀ a o, H a = some o → Xea P w H h a o
end
section
variable {P : Program} {w : World} {H H' : Hp} {h h' : Heap} {a : Addr} {o : HO}
theorem Xea.lt (x : Xea P w H h a o) : a < h.objs.size := by
 cases o with
 | lst xs => obtain ⟨_, _, _, _, e⟩ := x; exact Heap.lt_size e
 | tup xs => obtain ⟨_, _, _, p⟩ := x; exact p.lt
 | dK kvs => obtain ⟨_, _, _, _, o, _, _, e, _⟩ := x; exact Heap.lt_size e
 | dT kvs => obtain ⟨_, _, _, _, o, _, _, e, _⟩ := x; exact Heap.lt_size e
 | set S n => obtain ⟨o, _, _, _, e, _⟩ := x; exact Heap.lt_size e
 | ins C dx fs => obtain ⟨_, _, _, e, _⟩ := x; exact Heap.lt_size e
 | own y => obtain ⟨_, e⟩ := x; exact Heap.lt_size e
 | xd fs => obtain ⟨_, ⟨_, _, _, e, _⟩, _⟩ := x; exact Heap.lt_size e
 | rng lo hi => obtain ⟨_, _, _, e⟩ := x; exact Heap.lt_size e
 | frz ob u => obtain ⟨e, _⟩ := x; exact Heap.lt_size e
 | tbl ps => exact Heap.lt_size (show h.get? a = some _ from x)
 | met f y => exact Heap.lt_size (show h.get? a = some _ from x)
 | ext φ => obtain ⟨_, ⟨_, e⟩, _⟩ := x; exact Heap.lt_size e
theorem Paired.mapP {α β : Type} {F G : α → β → Prop} : ∀ {l₁ : List α} {l₂ : List β}, Paired F l₁ l₂ → (∀ a b, F a b → G a b) → Paired G l₁ l₂
 | _, _, .nil, _ => .nil
 | _, _, .cons r t, f => .cons (f _ _ r) (Paired.mapP t f)
theorem Xea.stay (x : Xea P w H h a o) (k : ∀ b u, (b = a ∨ H b = some (.own a)) → h.get? b = some u → h'.get? b = some u)
   (ho : ∀ b, H b = some (.own a) → H' b = some (.own a)) (ht : ∀ b xs, H b = some (.tup xs) → H' b = some (.tup xs)) : Xea P w H' h' a o := by
 induction o with
 | lst xs => obtain ⟨z, its, n, r, e⟩ := x; exact ⟨z, its, n, r, k _ _ (.inl rfl) e⟩
 | tup xs => obtain ⟨z, its, r, ob, e, c⟩ := x; exact ⟨z, its, r, ob, k _ _ (.inl rfl) e, c⟩
 | dK kvs => obtain ⟨z, y, vs, r, ob, es, ep, e, c⟩ := x; exact ⟨z, y, vs, r, ob, es, ep, k _ _ (.inl rfl) e, c⟩
 | dT kvs =>
   obtain ⟨z, y, xs, r, ob, es, ep, e, c⟩ := x
   exact ⟨z, y, xs, Paired.mapP r fun p q z => ⟨z.1, ht _ _ z.2.1, z.2.2⟩, ob, es, ep, k _ _ (.inl rfl) e, c⟩
 | set S n => obtain ⟨ob, es, ep, t, e, c⟩ := x; exact ⟨ob, es, ep, t, k _ _ (.inl rfl) e, c⟩
 | ins C dx fs =>
   obtain ⟨d, z, ne, e, mA, ⟨od, es, ep, e2, c⟩, r⟩ := x
   exact ⟨ho _ d, z, ne, k _ _ (.inl rfl) e, mA, ⟨od, es, ep, k _ _ (.inr d) e2, c⟩, r⟩
 | own y => obtain ⟨ob, e⟩ := x; exact ⟨ob, k _ _ (.inl rfl) e⟩
 | xd fs => obtain ⟨mA, ⟨od, es, ep, e, c⟩, r⟩ := x; exact ⟨mA, ⟨od, es, ep, k _ _ (.inl rfl) e, c⟩, r⟩
 | rng lo hi => obtain ⟨t, u, v, e⟩ := x; exact ⟨t, u, v, k _ _ (.inl rfl) e⟩
 | frz ob u ih => obtain ⟨e, q⟩ := x; exact ⟨k _ _ (.inl rfl) e, ih q⟩
 | tbl ps =>
   have e : h.get? a = some { cls := .none, data := .fields ps } := x
   show h'.get? a = some { cls := .none, data := .fields ps }
   exact k a _ (.inl rfl) e
 | met f y =>
   have e : h.get? a = some (PySem.W.methodObj (.ref f) (.ref y)) := x
   show h'.get? a = some (PySem.W.methodObj (.ref f) (.ref y))
   exact k a _ (.inl rfl) e
 | ext φ => obtain ⟨p, ⟨o, e⟩, st⟩ := x; exact ⟨st _ _ p fun o q => k _ _ (.inl rfl) q, ⟨o, k _ _ (.inl rfl) e⟩, st⟩
theorem HOk.lt (x : HOk P w H h) (e : H a = some o) : a < h.objs.size := (x a o e).lt
theorem HOk.fresh (x : HOk P w H h) (e : h.objs.size ≤ a) : H a = none := by
 cases q : H a with
 | none => rfl
 | some u => exact absurd (Nat.lt_of_lt_of_le (x.lt q) e) (Nat.lt_irrefl _)
theorem HOk.kept (x : HOk P w H h) (k : ∀ b u, h.get? b = some u → h'.get? b = some u) : HOk P w H h' := fun a o e =>
 (x a o e).stay (fun b u _ q => k b u q) (fun _ q => q) fun _ _ q => q
theorem HOk.laid (x : HOk P w H h) (k : ∀ b u, h.get? b = some u → h'.get? b = some u) (hp : h.objs.size ≤ a) (new : Xea P w (upd H a o) h' a o) : HOk P w (upd H a o) h' := fun b u e => by
 have hn := x.fresh hp
 by_cases hb : b = a
 · subst hb; rw [upd_same] at e; cases e; exact new
 · rw [Xav hb] at e
   exact (x b u e).stay (fun c v _ q => k c v q) (fun c q => by rw [Xav (Xaw q hn)]; exact q) fun c xs q => by rw [Xav (Xaw q hn)]; exact q
end
def Rd (H : Hp) (a : Addr) (u : HO) : Prop := H a = some u ∨ ∃ o, H a = some (.frz o u)
theorem Rd.of {H : Hp} {a : Addr} {u : HO} (h : H a = some u) : Rd H a u := .inl h
theorem Rd.ok {P : Program} {w : World} {H : Hp} {h : Heap} {a : Addr} {u : HO} (r : Rd H a u) (x : HOk P w H h) : Xea P w H h a u := by
 rcases r with r | ⟨o, r⟩
 · exact x a u r
 · obtain ⟨_, q⟩ := x a _ r
   exact q
def Mut : Option HO → Prop
 | some (.lst _) => True
 | some (.dK _) => True
 | some (.dT _) => True
 | some (.set _ _) => True
 | some (.ins _ _ _) => True
 | some (.ext _) => True
 | _ => False
section
variable {P : Program} {w : World} {H : Hp} {h h' : Heap} {x e : Addr} {o' : HO}
theorem HOk.write (ok : HOk P w H h) (mu : Mut (H x)) (he : e = x ∨ H e = some (.own x)) (k : ∀ b u, b ≠ e → h.get? b = some u → h'.get? b = some u) (heo : ∃ u, h'.get? e = some u)
   (new : Xea P w (upd H x o') h' x o') : HOk P w (upd H x o') h' := fun b u q => by
 have nown : ∀ c y, H c = some (.own y) → c ≠ x := fun c y r z => by subst z; rw [r] at mu; exact mu
 have ntup : ∀ c xs, H c = some (.tup xs) → c ≠ x := fun c xs r z => by subst z; rw [r] at mu; exact mu
 by_cases hb : b = x
 · subst hb; rw [upd_same] at q; cases q; exact new
 · rw [Xav hb] at q
   by_cases hbe : b = e
   · have q' : H b = some (.own x) := by
       rcases he with z | z
       · exact absurd (hbe.trans z) hb
       · rw [hbe]; exact z
     rw [q] at q'; cases q'
     obtain ⟨v, hv⟩ := heo
     exact ⟨v, by rw [hbe]; exact hv⟩
   · refine (ok b u q).stay (fun c v hc r => k c v ?_ r) (fun c r => by rw [Xav (nown c b r)]; exact r) fun c xs r => by rw [Xav (ntup c xs r)]; exact r
     rcases hc with rfl | hc
     · exact hbe
     · rintro rfl
       rcases he with z | z
       · exact nown c b hc z
       · rw [hc] at z; cases z; exact hb rfl
end
structure Un (fs ex : List Addr) (H H' : Hp) (h h' : Heap) : Prop where
 keep : ∀ b o, h.get? b = some o → H b = none → b ∉ fs → b ∉ ex → h'.get? b = some o
 slot : ∀ b o, h.get? b = some o → H b = none → b ∈ fs → b ∉ ex → ∃ sl, h'.get? b = some { o with slots := sl }
 free : ∀ b o, h.get? b = some o → H b = none → b ∉ ex → H' b = none
 there : ∀ b o, h.get? b = some o → b ∉ ex → ∃ o', h'.get? b = some o'
 tups : ∀ b xs, H b = some (.tup xs) → H' b = some (.tup xs)
 frzs : ∀ b o u, H b = some (.frz o u) → H' b = some (.frz o u)
 tbls : ∀ b ps, H b = some (.tbl ps) → ∃ more, H' b = some (.tbl (ps ++ more))
section
variable {fs fs' ex ex' : List Addr} {H H1 H2 : Hp} {h h1 h2 h' : Heap} {a x e : Addr} {o : HO}
theorem Un.any (u : Un fs ex H H1 h h1) {b : Addr} {ob : Obj} (q : h.get? b = some ob) (n : H b = none) (hx : b ∉ ex) : ∃ sl, h1.get? b = some { ob with slots := sl } := by
 by_cases hb : b ∈ fs
 · exact u.slot b ob q n hb hx
 · exact ⟨ob.slots, u.keep b ob q n hb hx⟩
theorem Un.trans (a : Un fs ex H H1 h h1) (b : Un fs ex H1 H2 h1 h2) : Un fs ex H H2 h h2 where
 keep := fun c ob q n hc hx => b.keep c ob (a.keep c ob q n hc hx) (a.free c ob q n hx) hc hx
 slot := fun c ob q n hc hx => by
   obtain ⟨sl, e1⟩ := a.slot c ob q n hc hx
   obtain ⟨sl', e2⟩ := b.slot c _ e1 (a.free c ob q n hx) hc hx
   exact ⟨sl', e2⟩
 free := fun c ob q n hx => by
   obtain ⟨o', e1⟩ := a.there c ob q hx
   exact b.free c o' e1 (a.free c ob q n hx) hx
 there := fun c ob q hx => by
   obtain ⟨o', e1⟩ := a.there c ob q hx
   exact b.there c o' e1 hx
 tups := fun c xs q => b.tups c xs (a.tups c xs q)
 frzs := fun c ob xs q => b.frzs c ob xs (a.frzs c ob xs q)
 tbls := fun c ps q => by
   obtain ⟨m1, e1⟩ := a.tbls c ps q
   obtain ⟨m2, e2⟩ := b.tbls c _ e1
   exact ⟨m1 ++ m2, by rw [e2, Array.append_assoc]⟩
theorem Un.kept (k : ∀ b u, h.get? b = some u → h'.get? b = some u) : Un fs ex H H h h' :=
 ⟨fun b ob q _ _ _ => k b ob q, fun b ob q _ _ _ => ⟨ob.slots, k b ob q⟩, fun _ _ _ n _ => n, fun b ob q _ => ⟨ob, k b ob q⟩, fun _ _ q => q, fun _ _ _ q => q, fun _ ps q => ⟨#[], by rw [q]; simp⟩⟩
theorem Un.refl : Un fs ex H H h h := Un.kept fun _ _ q => q
theorem Un.laid (k : ∀ b u, h.get? b = some u → h'.get? b = some u) (hp : h.objs.size ≤ a) (hn : H a = none) : Un fs ex H (upd H a o) h h' where
 keep := fun b u q _ _ _ => k b u q
 slot := fun b u q _ _ _ => ⟨u.slots, k b u q⟩
 free := fun b u q n _ => by rw [Xav (Nat.ne_of_lt (Nat.lt_of_lt_of_le (Heap.lt_size q) hp))]; exact n
 there := fun b u q _ => ⟨u, k b u q⟩
 tups := fun b xs q => by rw [Xav (Xaw q hn)]; exact q
 frzs := fun b u xs q => by rw [Xav (Xaw q hn)]; exact q
 tbls := fun b ps q => ⟨#[], by rw [Xav (Xaw q hn), q]; simp⟩
theorem Un.write (mu : Mut (H x)) (he : e = x ∨ H e = some (.own x)) (k : ∀ b u, b ≠ e → h.get? b = some u → h'.get? b = some u) (heo : ∃ u, h'.get? e = some u) : Un fs ex H (upd H x o) h h' := by
 have hx : ∀ b, H b = none → b ≠ x := fun b n z => by subst z; rw [n] at mu; exact mu
 have hb : ∀ b, H b = none → b ≠ e := fun b n z => by
   subst z
   rcases he with r | r
   · exact hx b n r
   · rw [n] at r; cases r
 have hm : ∀ b u, H b = some u → ¬ Mut (some u) → b ≠ x := fun b u q nm z => by subst z; rw [q] at mu; exact nm mu
 refine ⟨fun b u q n _ _ => k b u (hb b n) q, fun b u q n _ _ => ⟨u.slots, k b u (hb b n) q⟩, fun b u q n _ => by rw [Xav (hx b n)]; exact n, fun b u q _ => ?_,
   fun b xs q => by rw [Xav (hm b _ q fun z => z)]; exact q, fun b u xs q => by rw [Xav (hm b _ q fun z => z)]; exact q, fun b ps q => ⟨#[], by rw [Xav (hm b _ q fun z => z), q]; simp⟩⟩
 by_cases hbe : b = e
 · subst hbe; exact heo
 · exact ⟨u, k b u hbe q⟩
theorem Un.mono (u : Un fs ex H H1 h h1) (hs : ∀ b ∈ fs, b ∈ fs') (hx : ∀ b ∈ ex, b ∈ ex') : Un fs' ex' H H1 h h1 :=
 ⟨fun b ob q n hb he => u.keep b ob q n (fun z => hb (hs b z)) fun z => he (hx b z), fun _ _ q n _ he => u.any q n fun z => he (hx _ z), fun b ob q n he => u.free b ob q n fun z => he (hx b z), fun b ob q he => u.there b ob q fun z => he (hx b z), u.tups, u.frzs, u.tbls⟩
end
def trk (h : Heap) (H : Hp) : List Addr := (List.range h.objs.size).filter fun a => (H a).isSome
def hidT (h : Heap) (H : Hp) : Heap := PySem.W.hideAll h (trk h H)
theorem hidT_size (h : Heap) (H : Hp) : (hidT h H).objs.size = h.objs.size := PySem.W.hideAll_size _ _
theorem hidT_get {h : Heap} {H : Hp} {b : Addr} {o : Obj} (e : h.get? b = some o) (n : H b = none) : (hidT h H).get? b = some o :=
 PySem.W.hideAll_get _ e fun hm => by
   have q : (H b).isSome = true := (List.mem_filter.mp hm).2
   rw [n] at q; simp at q
theorem of_hidT {h : Heap} {H : Hp} {b : Addr} {o : Obj} (e : (hidT h H).get? b = some o) : h.get? b = some o ∧ H b = none := by
 have e' : h.get? b = some o := PySem.W.of_hideAll (trk h H) e
 refine ⟨e', ?_⟩
 cases q : H b with
 | none => rfl
 | some x =>
   have hm : b ∈ trk h H := List.mem_filter.mpr ⟨List.mem_range.mpr (Heap.lt_size e'), by simp [q]⟩
   have z : (hidT h H).get? b = none := PySem.W.hideAll_none (trk h H) hm
   rw [z] at e; cases e
def allNews (g h : Heap) (L : Addr) : List (Addr × Obj) := (List.range h.objs.size).filterMap fun a => if a = L ∨ (g.get? a).isSome = true then none else (h.get? a).map fun o => (a, o)
def rest (g h : Heap) (L d : Addr) : List (Addr × Obj) := (allNews g h L).filter fun p => decide (p.1 ≠ d)
end L2
namespace L2
open PySem PySem.Spec PyProof.Rows
structure Mod (K : PySem.W.Frag) (mg : Str → Option Value) (base : Heap) : Prop where
 kin : K.In base
 glob : base.Ns mainGlobals mg
 blt : ∃ mb, base.Ns builtinsNs mb ∧ ∀ x : Str, x ≠ "__name__" → mb x = bootBuiltins x
 nolimit : base.NoLimit
structure Cx where
 prog : Program
 w : World
 K : PySem.W.Frag
 mg : Str → Option Value
 base : Heap
 A : Around
 N : List Str
 s₀ : Shared
 H₀ : Hp
 env : Env
 outer : List Env
 stack : List Env
 ex : List Addr
 fn : Str → Bool
 calm : Bool
 pn : List (Addr × Obj)
 xe : Value → Shared → Prop
def frs (l : List Env) : List Addr := l.filterMap (·.frame)
abbrev Cx.fs (X : Cx) : List Addr := frs X.outer
def Vis (sc : Scope) (x : Str) : Prop := sc.names.lookup x = some .local ∨ sc.names.lookup x = some .cell ∨ sc.names.lookup x = some .free
def Loc (sc : Scope) (x : Str) : Prop := sc.names.lookup x = some .local ∨ sc.names.lookup x = some .cell
def Look (env : Env) (h : Heap) (m : Str → Option Value) (x : Str) (u : Value) : Prop :=
 (env.kindOf x = some .local ∧ m x = some u) ∨ ((env.kindOf x = some .cell ∨ env.kindOf x = some .free) ∧ ∃ c, env.cells.lookup x = some c ∧ h.IsCell c (some u))
structure Cx.Ok (X : Cx) : Prop where
 mod : Mod X.K X.mg X.base
 kind : X.env.scope.kind = .function
 glob : X.env.globals = mainGlobals
 blt : X.env.builtins = builtinsNs
 above : X.s₀.heap.objs.size ≤ X.env.locals
 inj : ∀ x y c, X.env.cells.lookup x = some c → X.env.cells.lookup y = some c → x = y
 has : ∀ x, (X.env.kindOf x = some .cell ∨ X.env.kindOf x = some .free) → ∃ c, X.env.cells.lookup x = some c
 cab : ∀ x c, X.fn x = true → X.env.cells.lookup x = some c → X.s₀.heap.objs.size ≤ c
 hd : X.calm = true → X.A.handled = none
 frames : X.A.frames = some X.stack
 stk : X.stack = X.outer ∨ (X.stack = X.env :: X.outer ∧ X.env.frame = some X.env.locals)
 exf : ∀ b ∈ X.ex, b ≠ X.env.locals ∧ ∀ x c, X.env.cells.lookup x = some c → c ≠ b
 bs : ∀ b o, X.base.get? b = some o → X.s₀.heap.get? b = some o ∧ X.H₀ b = none
 bsz : X.base.objs.size ≤ X.s₀.heap.objs.size
 noex : ∀ b o, X.base.get? b = some o → b ∉ X.ex
 exfs : ∀ b ∈ X.ex, b ∉ X.fs
 funs : X.s₀.heap.FunFrames X.base X.outer
 frf : ∀ b ∈ X.fs, X.H₀ b = none
structure Inv (X : Cx) (pins : List (Addr × Obj)) (σ : List (Option V)) (H : Hp) (s : Shared) : Prop where
 ok : X.Ok
 os : s.os = X.s₀.os
 bare : AllBare s.gens
 base : Un X.fs X.ex X.H₀ H X.s₀.heap s.heap
 loc : ∃ m, s.heap.Ns X.env.locals m ∧ ∀ (i : Nat) (x : Str) (v : V), X.N[i]? = some x → σ[i]? = some (some v) → Vis X.env.scope x → ∃ u, RelV v u ∧ Look X.env s.heap m x u
 cell : ∀ x c, X.env.cells.lookup x = some c → ∃ v, s.heap.IsCell c v
 free : H X.env.locals = none
 freeC : ∀ x c, X.env.cells.lookup x = some c → H c = none
 pin : ∀ p ∈ X.pn ++ pins, s.heap.get? p.1 = some p.2 ∧ H p.1 = none ∧ p.1 ≠ X.env.locals ∧ p.1 ∉ X.fs ∧ ∀ v, p.2.data ≠ .cell v
 hok : HOk X.prog X.w H s.heap
 len : σ.length = X.N.length
section
variable {X : Cx} {pins : List (Addr × Obj)} {σ : List (Option V)} {H H' : Hp} {s : Shared} {h' : Heap}
theorem Cx.Ok.nofr (ok : X.Ok) {b : Addr} {o : Obj} (e : X.base.get? b = some o) : b ∉ X.fs := fun hb => by
 have := (ok.funs.mem hb).1
 rw [e] at this; cases this
theorem Inv.bs (I : Inv X pins σ H s) : ∀ b o, X.base.get? b = some o → s.heap.get? b = some o ∧ H b = none := fun b o e =>
 ⟨I.base.keep b o (I.ok.bs b o e).1 (I.ok.bs b o e).2 (I.ok.nofr e) (I.ok.noex b o e), I.base.free b o (I.ok.bs b o e).1 (I.ok.bs b o e).2 (I.ok.noex b o e)⟩
theorem Inv.bk (I : Inv X pins σ H s) : ∀ b o, X.base.get? b = some o → s.heap.get? b = some o := fun b o e => (I.bs b o e).1
theorem Inv.mod (I : Inv X pins σ H s) : Mod X.K X.mg X.base := I.ok.mod
theorem Inv.kIn (I : Inv X pins σ H s) : X.K.In s.heap := I.ok.mod.kin.keeps I.bk
theorem Inv.nolimit (I : Inv X pins σ H s) : s.heap.NoLimit := I.ok.mod.nolimit.keeps I.bk
theorem Inv.fr (I : Inv X pins σ H s) : ∃ m, Fr X.base X.env.locals s.heap m :=
 let ⟨m, hn, _⟩ := I.loc
 ⟨m, hn, I.bk, Nat.le_trans I.ok.bsz I.ok.above⟩
theorem Inv.lt (I : Inv X pins σ H s) : X.env.locals < s.heap.objs.size := let ⟨_, hn, _⟩ := I.loc; hn.lt
theorem Inv.sz (I : Inv X pins σ H s) : X.s₀.heap.objs.size ≤ s.heap.objs.size := Nat.le_trans I.ok.above (Nat.le_of_lt I.lt)
theorem Inv.nofs (I : Inv X pins σ H s) {a : Addr} (h : s.heap.objs.size ≤ a) : a ∉ X.fs := fun hb => by
 obtain ⟨_, o, ho, _⟩ := I.ok.funs.mem hb
 exact absurd (Nat.lt_of_lt_of_le (Heap.lt_size ho) (Nat.le_trans I.sz h)) (Nat.lt_irrefl _)
theorem Inv.cne (I : Inv X pins σ H s) : ∀ x c, X.env.cells.lookup x = some c → c ≠ X.env.locals := fun x c e z => by
 obtain ⟨v, o, ho, hd⟩ := I.cell x c e
 obtain ⟨m, ⟨o', es, ep, ho', hd', _⟩, _⟩ := I.loc
 rw [z, ho'] at ho; cases ho; rw [hd'] at hd; cases hd
theorem Inv.funs (I : Inv X pins σ H s) : s.heap.FunFrames X.base X.outer := by
 have all : ∀ (l : List Env), (∀ b ∈ frs l, b ∈ X.fs) → X.s₀.heap.FunFrames X.base l → s.heap.FunFrames X.base l := by
   intro l
   induction l with
   | nil => intro _ _; trivial
   | cons env r ih =>
     intro hs hl
     obtain ⟨hk, ⟨L, o, hf, hn, ho, hd⟩, hr⟩ := hl
     have hL : L ∈ X.fs := hs L (by unfold frs; rw [List.filterMap_cons, hf]; exact List.mem_cons_self)
     obtain ⟨sl, e⟩ := I.base.slot L o ho (I.ok.frf L hL) hL fun z => I.ok.exfs L z hL
     exact ⟨hk, ⟨L, _, hf, hn, e, hd⟩, ih (fun b hb => hs b (by unfold frs; rw [List.filterMap_cons, hf]; exact List.mem_cons_of_mem _ hb)) hr⟩
 exact all X.outer (fun _ hb => hb) I.ok.funs
theorem Inv.stack (I : Inv X pins σ H s) : s.heap.FunFrames X.base X.stack := by
 rcases I.ok.stk with e | ⟨e, hf⟩
 · rw [e]; exact I.funs
 · rw [e]
   obtain ⟨m, hn, _⟩ := I.loc
   refine .cons (by rw [I.ok.kind]; decide) hf hn ?_ I.funs
   exact Heap.get?_none_of_le (Nat.le_trans I.ok.bsz I.ok.above)
theorem Inv.stkSub (I : Inv X pins σ H s) : ∀ b ∈ frs X.stack, b ∈ X.env.locals :: X.fs := fun b hb => by
 rcases I.ok.stk with e | ⟨e, hf⟩
 · rw [e] at hb; exact List.mem_cons_of_mem _ hb
 · rw [e] at hb
   unfold frs at hb
   rw [List.filterMap_cons, hf] at hb
   exact hb
theorem Inv.stkFree (I : Inv X pins σ H s) : ∀ b ∈ frs X.stack, H b = none := fun b hb => by
 rcases List.mem_cons.mp (I.stkSub b hb) with e | hb
 · rw [e]; exact I.free
 · obtain ⟨_, o, ho, _⟩ := I.ok.funs.mem hb
   exact I.base.free b o ho (I.ok.frf b hb) fun z => I.ok.exfs b z hb
theorem Inv.step {g' : Array GenState} {t' : Nat} {d' : Drawn} {ch : List Addr} (I : Inv X pins σ H s)
   (hch : ∀ b ∈ ch, (b ∈ X.ex ∨ X.s₀.heap.objs.size ≤ b) ∧ b ≠ X.env.locals ∧ (∀ x c, X.env.cells.lookup x = some c → c ≠ b) ∧ ∀ p ∈ X.pn ++ pins, p.1 ≠ b)
   (keep : ∀ b o, b ≠ X.env.locals → b ∉ X.fs → b ∉ ch → s.heap.get? b = some o → H b = none → h'.get? b = some o)
   (slot : ∀ b o, b ≠ X.env.locals → b ∈ X.fs → b ∉ ch → s.heap.get? b = some o → H b = none → ∃ sl, h'.get? b = some { o with slots := sl }) (free : ∀ b o, b ∉ ch → s.heap.get? b = some o → H b = none → H' b = none)
   (there : ∀ b o, b ∉ ch → s.heap.get? b = some o → ∃ o', h'.get? b = some o')
   (tups : ∀ b xs, H b = some (.tup xs) → H' b = some (.tup xs)) (frzs : ∀ b o u, H b = some (.frz o u) → H' b = some (.frz o u)) (tbls : ∀ b ps, H b = some (.tbl ps) → ∃ more, H' b = some (.tbl (ps ++ more)))
   (ns : ∀ m, s.heap.Ns X.env.locals m → h'.Ns X.env.locals m) (hok : HOk X.prog X.w H' h') (hg : AllBare g') :
   Inv X pins σ H' { s with heap := h', gens := g', drawn := d', toks := t' } := by
 have neL : ∀ b o, X.s₀.heap.get? b = some o → b ≠ X.env.locals := fun b o e => Nat.ne_of_lt (Nat.lt_of_lt_of_le (Heap.lt_size e) I.ok.above)
 have neC : ∀ b o, X.s₀.heap.get? b = some o → b ∉ X.ex → b ∉ ch := fun b o e hx hb => by
   rcases (hch b hb).1 with z | z
   · exact hx z
   · exact absurd (Nat.lt_of_lt_of_le (Heap.lt_size e) z) (Nat.lt_irrefl _)
 have cellK : ∀ x c, X.env.cells.lookup x = some c → ∀ v, s.heap.IsCell c v → h'.IsCell c v := fun x c e v ⟨o, ho, hd⟩ => by
   have nch : c ∉ ch := fun z => (hch c z).2.2.1 x c e rfl
   by_cases hc : c ∈ X.fs
   · obtain ⟨sl, q⟩ := slot c o (I.cne x c e) hc nch ho (I.freeC x c e)
     exact ⟨_, q, hd⟩
   · exact ⟨o, keep c o (I.cne x c e) hc nch ho (I.freeC x c e), hd⟩
 refine ⟨I.ok, I.os, hg, ⟨fun b o e n hb hx => ?_, fun b o e n hb hx => ?_, fun b o e n hx => ?_, fun b o e hx => ?_, fun b xs e => tups b xs (I.base.tups b xs e), fun b o xs e => frzs b o xs (I.base.frzs b o xs e), fun b ps e => ?_⟩, ?_, fun x c e => ?_, ?_, fun x c e => ?_, fun p hp => ?_, hok, I.len⟩
 · exact keep b o (neL b o e) hb (neC b o e hx) (I.base.keep b o e n hb hx) (I.base.free b o e n hx)
 · obtain ⟨sl, e1⟩ := I.base.slot b o e n hb hx
   obtain ⟨sl', e2⟩ := slot b _ (neL b o e) hb (neC b o e hx) e1 (I.base.free b o e n hx)
   exact ⟨sl', e2⟩
 · obtain ⟨o', e1⟩ := I.base.there b o e hx
   exact free b o' (neC b o e hx) e1 (I.base.free b o e n hx)
 · obtain ⟨o', e1⟩ := I.base.there b o e hx
   exact there b o' (neC b o e hx) e1
 · obtain ⟨m1, e1⟩ := I.base.tbls b ps e
   obtain ⟨m2, e2⟩ := tbls b _ e1
   exact ⟨m1 ++ m2, by rw [e2, Array.append_assoc]⟩
 · obtain ⟨m, hn, hl⟩ := I.loc
   refine ⟨m, ns m hn, fun i x v e1 e2 e3 => ?_⟩
   obtain ⟨u, r, l⟩ := hl i x v e1 e2 e3
   refine ⟨u, r, ?_⟩
   rcases l with l | ⟨k, c, e, z⟩
   · exact .inl l
   · exact .inr ⟨k, c, e, cellK x c e _ z⟩
 · obtain ⟨v, z⟩ := I.cell x c e
   exact ⟨v, cellK x c e v z⟩
 · obtain ⟨m, ⟨o, _, _, ho, _⟩, _⟩ := I.loc
   exact free _ o (fun z => (hch _ z).2.1 rfl) ho I.free
 · obtain ⟨v, o, ho, hd⟩ := I.cell x c e
   exact free c o (fun z => (hch c z).2.2.1 x c e rfl) ho (I.freeC x c e)
 · obtain ⟨e, n, ne, nf, d⟩ := I.pin p hp
   have nch : p.1 ∉ ch := fun z => (hch p.1 z).2.2.2 p hp rfl
   exact ⟨keep p.1 p.2 ne nf nch e n, free p.1 p.2 nch e n, ne, nf, d⟩
theorem Inv.un {t' : Nat} (I : Inv X pins σ H s) (u : Un X.fs [] H H' s.heap h') (hok : HOk X.prog X.w H' h') : Inv X pins σ H' { s with heap := h', toks := t' } := by
 obtain ⟨m, ⟨o, es, ep, ho, r⟩, _⟩ := id I.loc
 obtain ⟨sl, hL⟩ := u.any ho I.free (by simp)
 exact I.step (g' := s.gens) (d' := s.drawn) (ch := []) (fun _ z => nomatch z) (fun b o _ hb _ e n => u.keep b o e n hb (by simp)) (fun b o _ hb _ e n => u.slot b o e n hb (by simp)) (fun b o _ e n => u.free b o e n (by simp)) (fun b o _ e => u.there b o e (by simp)) u.tups u.frzs u.tbls (fun m' hm => by
   obtain ⟨o', es', ep', ho', r'⟩ := hm
   rw [ho] at ho'; cases ho'
   exact ⟨_, es', ep', hL, r'⟩) hok I.bare
theorem Inv.call {g' : Array GenState} {t' : Nat} {d' : Drawn} {ch : List Addr} (I : Inv X pins σ H s) (u : Un (frs X.stack) ch H H' s.heap h') (hok : HOk X.prog X.w H' h') (hg : AllBare g')
   (hch : ∀ b ∈ ch, (b ∈ X.ex ∨ X.s₀.heap.objs.size ≤ b) ∧ b ≠ X.env.locals ∧ (∀ x c, X.env.cells.lookup x = some c → c ≠ b) ∧ ∀ p ∈ X.pn ++ pins, p.1 ≠ b) :
   Inv X pins σ H' { s with heap := h', gens := g', drawn := d', toks := t' } := by
 obtain ⟨m, ⟨o, es, ep, ho, r⟩, _⟩ := id I.loc
 obtain ⟨sl, hL⟩ := u.any ho I.free fun z => (hch _ z).2.1 rfl
 exact I.step (ch := ch) hch (fun b o hL hb hc e n => u.keep b o e n (fun z => (List.mem_cons.mp (I.stkSub b z)).elim hL hb) hc) (fun b o _ _ hc e n => u.any e n hc) (fun b o hc e n => u.free b o e n hc) (fun b o hc e => u.there b o e hc) u.tups u.frzs u.tbls (fun m' hm => by
   obtain ⟨o', es', ep', ho', r'⟩ := hm
   rw [ho] at ho'; cases ho'
   exact ⟨_, es', ep', hL, r'⟩) hok hg
theorem Inv.turned {t' : Nat} {it : Addr} (I : Inv X pins σ H s) (k : ∀ b o, b ≠ it → s.heap.get? b = some o → h'.get? b = some o) (hn : H it = none) (hL : it ≠ X.env.locals)
   (h1 : it ∈ X.ex ∨ X.s₀.heap.objs.size ≤ it) (h2 : ∀ x c, X.env.cells.lookup x = some c → c ≠ it) (h3 : ∀ p ∈ X.pn ++ pins, p.1 ≠ it) : Inv X pins σ H { s with heap := h', toks := t' } := by
 have nit : ∀ b u, H b = some u → b ≠ it := fun b u e z => by rw [z, hn] at e; cases e
 refine I.step (g' := s.gens) (d' := s.drawn) (ch := [it]) (fun b hb => ?_) (fun b o _ _ hc e _ => k b o (fun z => hc (by simp [z])) e) (fun b o _ _ hc e _ => ⟨o.slots, k b o (fun z => hc (by simp [z])) e⟩) (fun _ _ _ _ n => n)
   (fun b o hc e => ⟨o, k b o (fun z => hc (by simp [z])) e⟩) (fun _ _ e => e) (fun _ _ _ e => e) (fun b ps e => ⟨#[], by rw [e]; simp⟩) (fun m hm => ?_) (fun b u e => ?_) I.bare
 · have e : b = it := by simpa using hb
   subst e
   exact ⟨h1, hL, h2, h3⟩
 · obtain ⟨o, es, ep, ho, r⟩ := hm
   exact ⟨o, es, ep, k _ o (Ne.symm hL) ho, r⟩
 · refine (I.hok b u e).stay (fun c v hc q => k c v ?_ q) (fun _ q => q) fun _ _ q => q
   rcases hc with z | z
   · rw [z]; exact nit b u e
   · exact nit c _ z
theorem Inv.tok (I : Inv X pins σ H s) (t : Nat) : Inv X pins σ H { s with toks := t } := I.un (h' := s.heap) (t' := t) Un.refl I.hok
theorem Inv.kept {t' : Nat} (I : Inv X pins σ H s) (k : ∀ b u, s.heap.get? b = some u → h'.get? b = some u) : Inv X pins σ H { s with heap := h', toks := t' } := I.un (Un.kept k) (I.hok.kept k)
theorem Inv.laid {a : Addr} {o : HO} {t' : Nat} (I : Inv X pins σ H s) (k : ∀ b u, s.heap.get? b = some u → h'.get? b = some u) (hp : s.heap.objs.size ≤ a) (new : Xea X.prog X.w (upd H a o) h' a o) :
   Inv X pins σ (upd H a o) { s with heap := h', toks := t' } := I.un (Un.laid k hp (I.hok.fresh hp)) (I.hok.laid k hp new)
theorem Inv.write {x e : Addr} {o : HO} {t' : Nat} (I : Inv X pins σ H s) (mu : Mut (H x)) (he : e = x ∨ H e = some (.own x)) (k : ∀ b u, b ≠ e → s.heap.get? b = some u → h'.get? b = some u) (heo : ∃ u, h'.get? e = some u)
   (new : Xea X.prog X.w (upd H x o) h' x o) : Inv X pins σ (upd H x o) { s with heap := h', toks := t' } := I.un (Un.write mu he k heo) (I.hok.write mu he k heo new)
theorem Inv.pins_of {pins' : List (Addr × Obj)} (I : Inv X pins σ H s) (h : ∀ p ∈ pins', s.heap.get? p.1 = some p.2 ∧ H p.1 = none ∧ p.1 ≠ X.env.locals ∧ p.1 ∉ X.fs ∧ ∀ v, p.2.data ≠ .cell v) : Inv X pins' σ H s :=
 ⟨I.ok, I.os, I.bare, I.base, I.loc, I.cell, I.free, I.freeC, fun p hp => (List.mem_append.mp hp).elim (fun z => I.pin p (List.mem_append_left _ z)) (h p), I.hok, I.len⟩
theorem nodup_ix {N : List Str} (hN : N.Nodup) {i j : Nat} {x : Str} (a : N[i]? = some x) (b : N[j]? = some x) : i = j := by
 obtain ⟨h1, e1⟩ := List.getElem?_eq_some_iff.mp a
 obtain ⟨h2, e2⟩ := List.getElem?_eq_some_iff.mp b
 exact (List.getElem_inj hN).mp (e1.trans e2.symm)
theorem store_ok2 {M : Model} {A : Around} {E : Value → Shared → Prop} {i : Nat} {x : Str} {v : V} {u : Value} {Q : Unit → Shared → Prop} (I : Inv X pins σ H s) (hN : X.N.Nodup) (hi : X.N[i]? = some x) (hx : Loc X.env.scope x) (r : RelV v u)
   (h : ∀ s', Inv X pins (σ.set i (some v)) H s' → (∃ a, Heap.SameBut a s.heap s'.heap ∧ (a = X.env.locals ∨ X.env.cells.lookup x = some a)) → Q () s') (hf : X.fn x = true ∨ X.env.scope.names.lookup x = some .local := by first | exact .inl rfl | exact .inr rfl | assumption) : wpAny M A (storeName X.env x u) Q E s := by
 obtain ⟨m, hn, hl⟩ := id I.loc
 have hcls : (X.env.scope.kind == .class || (X.env.scope.kind == .module && X.env.locals != X.env.globals)) = false := by rw [I.ok.kind]; rfl
 have hiσ : i < σ.length := by rw [I.len]; exact (List.getElem?_eq_some_iff.mp hi).1
 have cne := I.cne
 have tracked : ∀ {a : Addr} {h' : Heap}, (∃ o, s.heap.get? a = some o ∧ H a = none) → Heap.SameBut a s.heap h' → HOk X.prog X.w H h' := fun {a h'} ha hs b ob e => by
   obtain ⟨_, _, hfree⟩ := ha
   refine (I.hok b ob e).stay (fun c w' hc q => (hs.2 c ?_).trans q) (fun _ q => q) fun _ _ q => q
   rintro rfl
   rcases hc with rfl | hc
   · rw [hfree] at e; cases e
   · rw [hfree] at hc; cases hc
 rcases hx with hk | hk
 · refine wpAny_storeName_local hk hn (fun h' hn' hs => ?_) hcls
   obtain ⟨oL, _, _, hoL, _⟩ := id hn
   refine h _ ⟨I.ok, I.os, I.bare, ⟨fun b o e n hb hx => ?_, fun b o e n hb hx => ?_, I.base.free, fun b o e hx => ?_, I.base.tups, I.base.frzs, I.base.tbls⟩, ⟨_, hn', fun j y v' e1 e2 e3 => ?_⟩, fun y c e => ?_, I.free, I.freeC, fun p hp => ?_, tracked ⟨oL, hoL, I.free⟩ hs, by simpa using I.len⟩ ⟨_, hs, .inl rfl⟩
   · exact (hs.2 b (Nat.ne_of_lt (Nat.lt_of_lt_of_le (Heap.lt_size e) I.ok.above))).trans (I.base.keep b o e n hb hx)
   · obtain ⟨sl, e1⟩ := I.base.slot b o e n hb hx
     exact ⟨sl, (hs.2 b (Nat.ne_of_lt (Nat.lt_of_lt_of_le (Heap.lt_size e) I.ok.above))).trans e1⟩
   · obtain ⟨o', e1⟩ := I.base.there b o e hx
     exact ⟨o', (hs.2 b (Nat.ne_of_lt (Nat.lt_of_lt_of_le (Heap.lt_size e) I.ok.above))).trans e1⟩
   · by_cases hj : j = i
     · subst hj
       rw [hi] at e1; cases e1
       rw [List.getElem?_set_self hiσ] at e2
       cases e2
       exact ⟨u, r, .inl ⟨hk, by simp⟩⟩
     · rw [List.getElem?_set_ne (Ne.symm hj)] at e2
       obtain ⟨u', r', q⟩ := hl j y v' e1 e2 e3
       refine ⟨u', r', ?_⟩
       rcases q with ⟨k, e⟩ | ⟨k, c, e, z⟩
       · refine .inl ⟨k, ?_⟩
         have : y ≠ x := fun e => hj (nodup_ix hN e1 (e ▸ hi))
         simp [this, e]
       · exact .inr ⟨k, c, e, z.sameBut hs (cne y c e)⟩
   · obtain ⟨w', z⟩ := I.cell y c e
     exact ⟨w', z.sameBut hs (cne y c e)⟩
   · obtain ⟨e, n, ne, nf, d⟩ := I.pin p hp
     exact ⟨(hs.2 p.1 ne).trans e, n, ne, nf, d⟩
 · have hfn : X.fn x = true := by
     rcases hf with z | z
     · exact z
     · rw [z] at hk; cases hk
   obtain ⟨c, hc⟩ := I.ok.has x (.inl hk)
   obtain ⟨w', z⟩ := I.cell x c hc
   refine wpAny_storeName_cell I.ok.kind hk hc z (fun h' hc' hs => ?_)
   obtain ⟨oc, hoc, hocd⟩ := id z
   refine h { s with heap := h' } ⟨I.ok, I.os, I.bare, ⟨fun b o e n hb hx => ?_, fun b o e n hb hx => ?_, I.base.free, fun b o e hx => ?_, I.base.tups, I.base.frzs, I.base.tbls⟩, ⟨m, hn.sameBut hs (Ne.symm (cne x c hc)), fun j y v' e1 e2 e3 => ?_⟩, fun y c' e => ?_, I.free, I.freeC, fun p hp => ?_, tracked ⟨oc, hoc, I.freeC x c hc⟩ hs, by simpa using I.len⟩ ⟨c, hs, .inr hc⟩
   · exact (hs.2 b (Nat.ne_of_lt (Nat.lt_of_lt_of_le (Heap.lt_size e) (I.ok.cab x c hfn hc)))).trans (I.base.keep b o e n hb hx)
   · obtain ⟨sl, e1⟩ := I.base.slot b o e n hb hx
     exact ⟨sl, (hs.2 b (Nat.ne_of_lt (Nat.lt_of_lt_of_le (Heap.lt_size e) (I.ok.cab x c hfn hc)))).trans e1⟩
   · obtain ⟨o', e1⟩ := I.base.there b o e hx
     exact ⟨o', (hs.2 b (Nat.ne_of_lt (Nat.lt_of_lt_of_le (Heap.lt_size e) (I.ok.cab x c hfn hc)))).trans e1⟩
   · by_cases hj : j = i
     · subst hj
       rw [hi] at e1; cases e1
       rw [List.getElem?_set_self hiσ] at e2
       cases e2
       exact ⟨u, r, .inr ⟨.inl hk, c, hc, hc'⟩⟩
     · rw [List.getElem?_set_ne (Ne.symm hj)] at e2
       obtain ⟨u', r', q⟩ := hl j y v' e1 e2 e3
       refine ⟨u', r', ?_⟩
       rcases q with q | ⟨k, c', e, z'⟩
       · exact .inl q
       · refine .inr ⟨k, c', e, z'.sameBut hs ?_⟩
         rintro rfl
         exact hj (nodup_ix hN e1 (I.ok.inj _ _ _ e hc ▸ hi))
   · by_cases hcc : c' = c
     · subst hcc; exact ⟨_, hc'⟩
     · obtain ⟨w2, z2⟩ := I.cell y c' e
       exact ⟨w2, z2.sameBut hs hcc⟩
   · obtain ⟨e, n, ne, nf, d⟩ := I.pin p hp
     refine ⟨(hs.2 p.1 ?_).trans e, n, ne, nf, d⟩
     intro q
     rw [q, hoc] at e
     have q' : oc = p.2 := Option.some.inj e
     exact d w' (by rw [← q']; exact hocd)
theorem store_ok {M : Model} {A : Around} {E : Value → Shared → Prop} {i : Nat} {x : Str} {v : V} {u : Value} {Q : Unit → Shared → Prop} (I : Inv X pins σ H s) (hN : X.N.Nodup) (hi : X.N[i]? = some x) (hx : Loc X.env.scope x) (r : RelV v u)
   (h : ∀ s', Inv X pins (σ.set i (some v)) H s' → Q () s') (hf : X.fn x = true ∨ X.env.scope.names.lookup x = some .local := by first | exact .inl rfl | exact .inr rfl | assumption) : wpAny M A (storeName X.env x u) Q E s :=
 store_ok2 I hN hi hx r (fun s' I' _ => h s' I') hf
theorem Inv.call' {s' : Shared} {ch : List Addr} (I : Inv X pins σ H s) (ho : s'.os = s.os) (u : Un (frs X.stack) ch H H' s.heap s'.heap) (hok : HOk X.prog X.w H' s'.heap) (hg : AllBare s'.gens)
   (hch : ∀ b ∈ ch, (b ∈ X.ex ∨ X.s₀.heap.objs.size ≤ b) ∧ b ≠ X.env.locals ∧ (∀ x c, X.env.cells.lookup x = some c → c ≠ b) ∧ ∀ p ∈ X.pn ++ pins, p.1 ≠ b) : Inv X pins σ H' s' := by
 obtain ⟨h', g', d', t', o'⟩ := s'
 have e : o' = s.os := ho
 subst e
 exact I.call (g' := g') (t' := t') (d' := d') u hok hg hch
end
abbrev XK := Value → Option Addr → Hp → Prop
abbrev St := List (Option V)
abbrev VK := V → Hp → Prop
abbrev TE := St → Hp → VK → Prop
abbrev TT := St → Hp → (Bool → Hp → Prop) → Prop
abbrev TA := St → Hp → (List V → Hp → Prop) → Prop
structure Ends where
 nx : St → Hp → Prop
 rt : VK
 bk : St → Hp → Prop := fun _ _ => False
 ct : St → Hp → Prop := fun _ _ => False
abbrev TS := Ends → St → Hp → Prop
def EP (X : Cx) (pins : List (Addr × Obj)) (σ : St) (Q : VK) (u : Value) (s' : Shared) : Prop := ∃ v H', Inv X pins σ H' s' ∧ RelV v u ∧ Q v H'
def TP (X : Cx) (pins : List (Addr × Obj)) (σ : St) (Q : Bool → Hp → Prop) (b : Bool) (s' : Shared) : Prop := ∃ H', Inv X pins σ H' s' ∧ Q b H'
def AP (X : Cx) (pins : List (Addr × Obj)) (σ : St) (Q : List V → Hp → Prop) (us : List Value) (s' : Shared) : Prop := ∃ vs H', Inv X pins σ H' s' ∧ Vals vs us ∧ Q vs H'
def SP (X : Cx) (pins : List (Addr × Obj)) (D : Ends) (f : Flow) (s' : Shared) : Prop :=
 match f with
 | .next => ∃ σ' H', Inv X pins σ' H' s' ∧ D.nx σ' H'
 | .brk => ∃ σ' H', Inv X pins σ' H' s' ∧ D.bk σ' H'
 | .cont => ∃ σ' H', Inv X pins σ' H' s' ∧ D.ct σ' H'
 | .ret u => ∃ v σ' H', Inv X pins σ' H' s' ∧ RelV v u ∧ D.rt v H'
def PE (X : Cx) (e : Expr) (t : TE) : Prop :=
 ∀ (pins : List (Addr × Obj)) (s : Shared) (σ : St) (H : Hp) (Q : VK), Inv X pins σ H s → t σ H Q → wpAny (model X.prog X.w) X.A (eval e X.env) (EP X pins σ Q) X.xe s
def PT (X : Cx) (e : Expr) (t : TT) : Prop :=
 ∀ (pins : List (Addr × Obj)) (s : Shared) (σ : St) (H : Hp) (Q : Bool → Hp → Prop), Inv X pins σ H s → t σ H Q → wpAny (model X.prog X.w) X.A (isTrue e X.env (eval e X.env)) (TP X pins σ Q) X.xe s
def PW (X : Cx) (e : Expr) (t : TT) : Prop :=
 ∀ (whole : Sem Value) (pins : List (Addr × Obj)) (s : Shared) (σ : St) (H : Hp) (Q : Bool → Hp → Prop), Inv X pins σ H s → t σ H Q → wpAny (model X.prog X.w) X.A (isTrue e X.env whole) (TP X pins σ Q) X.xe s
theorem PW.pt {X : Cx} {e : Expr} {t : TT} (h : PW X e t) : PT X e t := h _
def PA (X : Cx) (es : List Expr) (t : TA) : Prop :=
 ∀ (pos : Pos) (pins : List (Addr × Obj)) (s : Shared) (σ : St) (H : Hp) (Q : List V → Hp → Prop), Inv X pins σ H s → t σ H Q → wpAny (model X.prog X.w) X.A (spliced (backTo pos (starEach es X.env))) (AP X pins σ Q) X.xe s
def PS (X : Cx) (st : Stmt) (t : TS) : Prop :=
 ∀ (pins : List (Addr × Obj)) (s : Shared) (σ : St) (H : Hp) (D : Ends), Inv X pins σ H s → t D σ H → wpAny (model X.prog X.w) X.A (exec st X.env) (SP X pins D) X.xe s
def PSs (X : Cx) (st : List Stmt) (t : TS) : Prop :=
 ∀ (pins : List (Addr × Obj)) (s : Shared) (σ : St) (H : Hp) (D : Ends), Inv X pins σ H s → t D σ H → wpAny (model X.prog X.w) X.A (execs st X.env) (SP X pins D) X.xe s
theorem thn {α : Type} {t : Sem α} {Q Q' : α → Shared → Prop} {M : Model} {A : Around} {E : Value → Shared → Prop} {s : Shared} (h : wpAny M A t Q E s) (hQ : ∀ a s, Q a s → Q' a s) : wpAny M A t Q' E s := wpAny_mono h hQ fun _ _ x => x
end L2
namespace L2
open PySem PySem.Spec PyProof.Rows
section
variable {X : Cx}
theorem bin {a b : Expr} {ta tb : TE} (ha : PE X a ta) (hb : PE X b tb) {pins : List (Addr × Obj)} {s : Shared} {σ : St} {H : Hp} {R : V → V → Hp → Prop} (I : Inv X pins σ H s) (h : ta σ H fun x H1 => tb σ H1 fun y H2 => R x y H2)
   {α : Type} {Q : α → Shared → Prop} {f : Value → Value → Sem α}
   (hf : ∀ v u s2 x y H2, Inv X pins σ H2 s2 → RelV x v → RelV y u → R x y H2 → wpAny (model X.prog X.w) X.A (f v u) Q X.xe s2) :
   wpAny (model X.prog X.w) X.A (eval a X.env) (fun v s₁ => wpAny (model X.prog X.w) X.A (eval b X.env) (fun u s₂ => wpAny (model X.prog X.w) X.A (f v u) Q X.xe s₂) X.xe s₁) X.xe s := by
 refine thn (ha pins s σ H _ I h) fun v s1 ⟨x, H1, I1, r1, q1⟩ => ?_
 refine thn (hb pins s1 σ H1 _ I1 q1) fun u s2 ⟨y, H2, I2, r2, q2⟩ => ?_
 exact hf v u s2 x y H2 I2 r1 r2 q2
def tVar (i : Nat) : TE := fun σ H Q => ∃ v, σ[i]? = some (some v) ∧ Q v H
def tC (v : V) : TE := fun _ H Q => Q v H
theorem pe_var {i : Nat} {x : Str} {pos : Pos} (hN : X.N[i]? = some x) (hv : Vis X.env.scope x) (hd : (x == ("__debug__" : Str)) = false := by decide) (hcd : (x == ("__classdict__" : Str)) = false := by decide) : PE X (.Name x pos) (tVar i) := by
 intro pins s σ H Q I h
 obtain ⟨v, e, h⟩ := h
 obtain ⟨m, hn, hl⟩ := I.loc
 obtain ⟨u, r, l⟩ := hl i x v hN e hv
 have fin : EP X pins σ Q u s := ⟨v, H, I, r, h⟩
 rcases l with ⟨hk, hm⟩ | ⟨hk, c, hc, hcell⟩
 · exact wpAny_Name (wpAny_loadName_local I.ok.kind hk hn hm fin) hd
 · rcases hk with hk | hk
   · exact wpAny_Name (wpAny_loadName_cell I.ok.kind hk hc hcell fin) hd
   · exact wpAny_Name (wpAny_loadName_free I.ok.kind hk hc hcell fin hcd) hd
theorem Xac {i j pos} : PE X (.Constant (.int i) j pos) (tC (.int i)) := fun _ _ _ H _ I h => wpAny_Constant_int ⟨.int i, H, I.tok _, ⟨_, rfl⟩, h⟩
theorem Xdt {b j pos} : PE X (.Constant (.bool b) j pos) (tC (.bl b)) := fun _ _ _ H _ I h => Constant_bool ⟨.bl b, H, I, rfl, h⟩
theorem Xcn {j pos} : PE X (.Constant .none j pos) (tC .non) := fun _ _ _ H _ I h => Constant_none ⟨.non, H, I, rfl, h⟩
theorem pe_str {x j pos} : PE X (.Constant (.str x) j pos) (tC (.str x)) := fun _ _ _ H _ I h => Calls.Constant_str ⟨.str x, H, I.tok _, ⟨_, rfl⟩, h⟩
def Gl (X : Cx) (x : Str) : Prop := X.env.kindOf x = some .globalImplicit
theorem Xek {E : Value → Shared → Prop} {pins : List (Addr × Obj)} {s : Shared} {σ : St} {H : Hp} {x : Str} {u : Value} {pos : Pos} {Q : Value → Shared → Prop} (I : Inv X pins σ H s) (hg : Gl X x) (hm : X.mg x = some u) (h : Q u s)
   (hd : (x == ("__debug__" : Str)) = false := by decide) : wpAny (model X.prog X.w) X.A (eval (.Name x pos) X.env) Q E s :=
 Calls.Name_function_global I.ok.kind hg (Calls.loadGlobal_global (by rw [I.ok.glob]; exact I.mod.glob.keeps I.bk) hm h) hd
theorem ld_blt {E : Value → Shared → Prop} {pins : List (Addr × Obj)} {s : Shared} {σ : St} {H : Hp} {x : Str} {u : Value} {pos : Pos} {Q : Value → Shared → Prop} (I : Inv X pins σ H s) (hg : Gl X x) (hm : X.mg x = none) (hv : bootBuiltins x = some u) (h : Q u s)
   (hn : x ≠ "__name__" := by decide) (hd : (x == ("__debug__" : Str)) = false := by decide) : wpAny (model X.prog X.w) X.A (eval (.Name x pos) X.env) Q E s := by
 obtain ⟨mb, h1, h2⟩ := I.mod.blt
 exact Calls.Name_function_global I.ok.kind hg (Calls.loadGlobal_builtin (by rw [I.ok.glob]; exact I.mod.glob.keeps I.bk) hm (by rw [I.ok.blt]; exact h1.keeps I.bk) ((h2 x hn).trans hv) h) hd
theorem pe_glob {x : Str} {v : V} {u : Value} {pos : Pos} (hg : Gl X x) (hm : X.mg x = some u) (r : RelV v u) (hd : (x == ("__debug__" : Str)) = false := by decide) : PE X (.Name x pos) (tC v) :=
 fun _ _ _ H _ I h => Xek I hg hm ⟨v, H, I, r, h⟩ hd
theorem pe_bltn {x : Str} {v : V} {u : Value} {pos : Pos} (hg : Gl X x) (hm : X.mg x = none) (hv : bootBuiltins x = some u) (r : RelV v u) (hn : x ≠ "__name__" := by decide) (hd : (x == ("__debug__" : Str)) = false := by decide) : PE X (.Name x pos) (tC v) :=
 fun _ _ _ H _ I h => ld_blt I hg hm hv ⟨v, H, I, r, h⟩ hn hd
variable {a b : Expr} {ta tb : TE} {pos : Pos}
def PC (X : Cx) (op : CmpOp) (a b : Expr) (t : TE) : Prop :=
 ∀ (pins : List (Addr × Obj)) (s : Shared) (σ : St) (H : Hp) (Q : VK), Inv X pins σ H s → t σ H Q →
   wpAny (model X.prog X.w) X.A (eval a X.env) (fun v s₁ => wpAny (model X.prog X.w) X.A (eval b X.env) (fun u s₂ => wpAny (model X.prog X.w) X.A (compareOp op v u) (EP X pins σ Q) X.xe s₂) X.xe s₁) X.xe s
theorem nobehind (b : Expr) {op : CmpOp} (h : op ≠ .In) (h2 : op ≠ .NotIn) : behindInMarks op b = false := by
 have e1 : (op == CmpOp.In) = false := by cases op <;> first | rfl | exact absurd rfl h
 have e2 : (op == CmpOp.NotIn) = false := by cases op <;> first | rfl | exact absurd rfl h2
 cases b <;> simp [behindInMarks, e1, e2]
def tB (t : TE) : TT := fun σ H Q => t σ H fun x H1 => ∃ c, x = .bl c ∧ Q c H1
theorem pt_cmp {op : CmpOp} {t : TE} (h : PC X op a b t) (h1 : behindInMarks op b = false := by first | exact nobehind _ (by decide) (by decide) | rfl) : PT X (.Compare a [op] [b] pos) (tB t) := by
 intro pins s σ H Q I hw
 refine wpAny_isTrue_Compare1 (thn (h pins s σ H _ I hw) fun v s1 h1 => thn h1 fun u s2 h2 => thn h2 fun c s3 ⟨x, H1, I1, r1, q1⟩ => ?_) h1
 obtain ⟨d, rfl, q⟩ := q1
 cases r1
 exact wpAny_truthy_bool ⟨H1, I1, q⟩
theorem Xem {e : Expr} {t : TE} (h : PE X e t) (he : ∀ whole, isTrue e X.env whole = (do let v ← whole; standAt e.pos; holding [v] (truthy v)) := by intro _; rfl) : PT X e (tB t) := by
 intro pins s σ H Q I hw
 refine isTrue_plain (thn (h pins s σ H _ I hw) fun v s1 ⟨x, H1, I1, r1, q1⟩ => ?_) (he _)
 obtain ⟨d, rfl, q⟩ := q1
 cases r1
 exact wpAny_truthy_bool ⟨H1, I1, q⟩
variable {tA tB' : TT} {rest : List Expr}
def tAnd (t u : TT) : TT := fun σ H Q => t σ H fun c H1 => if c = true then u σ H1 Q else Q false H1
def tOr (t u : TT) : TT := fun σ H Q => t σ H fun c H1 => if c = true then Q true H1 else u σ H1 Q
def tNot (t : TT) : TT := fun σ H Q => t σ H fun c H1 => Q (!c) H1
theorem Xcu (ha : PT X a tA) : PW X (.BoolOp .And [a] pos) tA := by
 intro wh pins s σ H Q I h
 refine isTrue_and (thn (ha pins s σ H Q I h) fun c s1 e => ?_)
 cases c with
 | true => exact isTrue_and_nil e
 | false => exact e
theorem Xcr (ha : PT X a tA) : PW X (.BoolOp .Or [a] pos) tA := by
 intro wh pins s σ H Q I h
 refine isTrue_or (thn (ha pins s σ H Q I h) fun c s1 e => ?_)
 cases c with
 | false => exact isTrue_or_nil e
 | true => exact e
theorem Xda (ha : PT X a tA) (hb : PW X (.BoolOp .And (b :: rest) pos) tB') : PW X (.BoolOp .And (a :: b :: rest) pos) (tAnd tA tB') := by
 intro wh pins s σ H Q I h
 refine isTrue_and (thn (ha pins s σ H _ I h) fun c s1 ⟨H1, I1, q1⟩ => ?_)
 cases c with
 | true => exact hb wh pins s1 σ H1 Q I1 q1
 | false => exact ⟨H1, I1, q1⟩
theorem Xdk (ha : PT X a tA) (hb : PW X (.BoolOp .Or (b :: rest) pos) tB') : PW X (.BoolOp .Or (a :: b :: rest) pos) (tOr tA tB') := by
 intro wh pins s σ H Q I h
 refine isTrue_or (thn (ha pins s σ H _ I h) fun c s1 ⟨H1, I1, q1⟩ => ?_)
 cases c with
 | true => exact ⟨H1, I1, q1⟩
 | false => exact hb wh pins s1 σ H1 Q I1 q1
theorem Xcm (ha : PT X a tA) : PT X (.UnaryOp .Not a pos) (tNot tA) := by
 intro pins s σ H Q I h
 exact isTrue_not (ha pins s σ H (fun c H1 => Q (!c) H1) I h)
def tAndV (ta tb : TE) : TE := fun σ H Q => ta σ H fun x H1 => ∃ c, x = .bl c ∧ if c = true then tb σ H1 Q else Q (.bl false) H1
def tOrV (ta tb : TE) : TE := fun σ H Q => ta σ H fun x H1 => ∃ c, x = .bl c ∧ if c = true then Q (.bl true) H1 else tb σ H1 Q
def tNotV (ta : TE) : TE := fun σ H Q => ta σ H fun x H1 => ∃ c, x = .bl c ∧ Q (.bl (!c)) H1
theorem Xgd {op} {t : TE} (h : PE X a t) : PE X (.BoolOp op [a] pos) t := fun pins s σ H Q I hw => BoolOp_one (h pins s σ H Q I hw)
theorem pe_and (ha : PE X a ta) (hb : PE X (.BoolOp .And (b :: rest) pos) tb) : PE X (.BoolOp .And (a :: b :: rest) pos) (tAndV ta tb) := by
 intro pins s σ H Q I h
 refine BoolOp_and (thn (ha pins s σ H _ I h) fun v s1 ⟨x, H1, I1, r1, q1⟩ => ?_)
 obtain ⟨c, rfl, q1⟩ := q1
 cases r1
 refine wpAny_truthy_bool ?_
 cases c with
 | true => exact hb pins s1 σ H1 Q I1 q1
 | false => exact ⟨.bl false, H1, I1, rfl, q1⟩
theorem pe_or (ha : PE X a ta) (hb : PE X (.BoolOp .Or (b :: rest) pos) tb) : PE X (.BoolOp .Or (a :: b :: rest) pos) (tOrV ta tb) := by
 intro pins s σ H Q I h
 refine BoolOp_or (thn (ha pins s σ H _ I h) fun v s1 ⟨x, H1, I1, r1, q1⟩ => ?_)
 obtain ⟨c, rfl, q1⟩ := q1
 cases r1
 refine wpAny_truthy_bool ?_
 cases c with
 | false => exact hb pins s1 σ H1 Q I1 q1
 | true => exact ⟨.bl true, H1, I1, rfl, q1⟩
theorem pe_not (ha : PE X a ta) : PE X (.UnaryOp .Not a pos) (tNotV ta) := by
 intro pins s σ H Q I h
 refine UnaryOp_ (thn (ha pins s σ H _ I h) fun v s1 ⟨x, H1, I1, r1, q1⟩ => ?_)
 obtain ⟨c, rfl, q1⟩ := q1
 cases r1
 exact not_of (wpAny_truthy_bool ⟨.bl (!c), H1, I1, rfl, q1⟩)
def tIf (t : TT) (ta tb : TE) : TE := fun σ H Q => t σ H fun c H1 => if c = true then ta σ H1 Q else tb σ H1 Q
theorem pe_ifExp {c : Expr} (hc : PT X c tA) (ha : PE X a ta) (hb : PE X b tb) : PE X (.IfExp c a b pos) (tIf tA ta tb) := by
 intro pins s σ H Q I h
 refine wpAny_IfExp (thn (hc pins s σ H _ I h) fun d s1 ⟨H1, I1, q1⟩ => ?_)
 cases d with
 | true => exact ha pins s1 σ H1 Q I1 q1
 | false => exact hb pins s1 σ H1 Q I1 q1
end
end L2
namespace L2
open PySem PySem.Spec PyProof.Rows
def SqL (K : PySem.W.Frag) (H : Hp) (a : Addr) (xs : List V) : Prop :=
 Rd H a (.lst xs) ∨
   ∃ (o : Obj) (its : Array Value) (n : Nat), K.lookup a = some o ∧ o.cls = .type "list" ∧ o.dict = none ∧ o.data = .seq its n ∧ its.size ≤ sizeLine ∧ Vals xs its.toList
def SqT (K : PySem.W.Frag) (H : Hp) (a : Addr) (xs : List V) : Prop :=
 Rd H a (.tup xs) ∨
   ∃ (o : Obj) (its : Array Value) (n : Nat), K.lookup a = some o ∧ o.cls = .type "tuple" ∧ o.data = .seq its n ∧ its.size ≤ sizeLine ∧ Vals xs its.toList
def absV : Value → Option V
 | .none => some .non
 | .bool b => some (.bl b)
 | .int i _ => some (.int i)
 | .str x _ => some (.str x)
 | .bytes b _ => some (.byt b)
 | .float b _ => some (.flt b)
 | .ref a => some (.ref a)
 | .type n => some (.ty n)
 | _ => none
theorem RelV.abs {x : V} {u : Value} (r : RelV x u) : absV u = some x := by
 cases x with
 | non => cases r; rfl
 | bl _ => cases r; rfl
 | int _ => obtain ⟨t, rfl⟩ := r; rfl
 | str _ => obtain ⟨t, rfl⟩ := r; rfl
 | byt _ => obtain ⟨t, rfl⟩ := r; rfl
 | flt _ => obtain ⟨t, rfl⟩ := r; rfl
 | ref _ => cases r; rfl
 | ty _ => cases r; rfl
theorem RelV.inj {x y : V} {u : Value} (r : RelV x u) (q : RelV y u) : x = y := Option.some.inj (r.abs.symm.trans q.abs)
theorem Vals.inj : ∀ {xs ys : List V} {us : List Value}, Vals xs us → Vals ys us → xs = ys
 | _, _, _, .nil, .nil => rfl
 | _, _, _, .cons r t, .cons r' t' => by rw [r.inj r', Vals.inj t t']
section
variable {X : Cx} {pins : List (Addr × Obj)} {σ : St} {H : Hp} {s : Shared} {a : Addr} {xs ys : List V}
theorem SqL.of {K : PySem.W.Frag} (h : H a = some (.lst xs)) : SqL K H a xs := .inl (.inl h)
theorem SqT.of {K : PySem.W.Frag} (h : H a = some (.tup xs)) : SqT K H a xs := .inl (.inl h)
theorem Inv.list (I : Inv X pins σ H s) (h : SqL X.K H a xs) : ∃ its : List Value, Vals xs its ∧ PlainL s.heap a its.toArray ∧ xs.length ≤ sizeLine := by
 rcases h with h | ⟨o, its, n, hk, hc, hd, hs, hz, r⟩
 · obtain ⟨z, its, n, r, e⟩ := h.ok I.hok
   exact ⟨its, r, ⟨_, n, e, rfl, rfl, rfl⟩, z⟩
 · refine ⟨its.toList, r, ⟨o, n, I.kIn a o hk, hc, hd, by simpa using hs⟩, ?_⟩
   have e := r.length
   simp only [Array.length_toList] at e
   omega
theorem Inv.tuple (I : Inv X pins σ H s) (h : SqT X.K H a xs) : ∃ its : List Value, Vals xs its ∧ IsTup s.heap a its.toArray ∧ xs.length ≤ sizeLine := by
 rcases h with h | ⟨o, its, n, hk, hc, hs, hz, r⟩
 · obtain ⟨z, its, r, p⟩ := h.ok I.hok
   exact ⟨its, r, p, z⟩
 · refine ⟨its.toList, r, ⟨o, I.kIn a o hk, hc, n, by simpa using hs⟩, ?_⟩
   have e := r.length
   simp only [Array.length_toList] at e
   omega
theorem Inv.list_inj (I : Inv X pins σ H s) (h : SqL X.K H a xs) (h' : SqL X.K H a ys) : xs = ys := by
 obtain ⟨its, r, ⟨o, n, e, _, _, d⟩, _⟩ := I.list h
 obtain ⟨its', r', ⟨o', n', e', _, _, d'⟩, _⟩ := I.list h'
 rw [e] at e'; cases e'
 rw [d] at d'
 injection d' with d1 _
 have : its = its' := by simpa using congrArg Array.toList d1
 subst this
 exact r.inj r'
end
abbrev Cx.wish (X : Cx) (E : Value → Shared → Prop) : Cx := { X with xe := E }
abbrev Cx.nox (X : Cx) : Cx := X.wish fun _ _ => False
theorem Cx.Ok.wish {X : Cx} (ok : X.Ok) (E : Value → Shared → Prop) : (X.wish E).Ok :=
 ⟨ok.mod, ok.kind, ok.glob, ok.blt, ok.above, ok.inj, ok.has, ok.cab, ok.hd, ok.frames, ok.stk, ok.exf, ok.bs, ok.bsz, ok.noex, ok.exfs, ok.funs, ok.frf⟩
theorem Cx.Ok.unwish {X : Cx} {E : Value → Shared → Prop} (ok : (X.wish E).Ok) : X.Ok :=
 ⟨ok.mod, ok.kind, ok.glob, ok.blt, ok.above, ok.inj, ok.has, ok.cab, ok.hd, ok.frames, ok.stk, ok.exf, ok.bs, ok.bsz, ok.noex, ok.exfs, ok.funs, ok.frf⟩
section
variable {X : Cx} {pins : List (Addr × Obj)} {σ : St} {H : Hp} {s : Shared} {E : Value → Shared → Prop}
theorem Inv.wish (I : Inv X pins σ H s) (E : Value → Shared → Prop) : Inv (X.wish E) pins σ H s := ⟨I.ok.wish E, I.os, I.bare, I.base, I.loc, I.cell, I.free, I.freeC, I.pin, I.hok, I.len⟩
theorem Inv.unwish (I : Inv (X.wish E) pins σ H s) : Inv X pins σ H s := ⟨I.ok.unwish, I.os, I.bare, I.base, I.loc, I.cell, I.free, I.freeC, I.pin, I.hok, I.len⟩
theorem SP.unwish {D : Ends} {f : Flow} {s' : Shared} (h : SP (X.wish E) pins D f s') : SP X pins D f s' := by
 cases f with
 | next => obtain ⟨σ', H', I, q⟩ := h; exact ⟨σ', H', I.unwish, q⟩
 | brk => obtain ⟨σ', H', I, q⟩ := h; exact ⟨σ', H', I.unwish, q⟩
 | cont => obtain ⟨σ', H', I, q⟩ := h; exact ⟨σ', H', I.unwish, q⟩
 | ret u => obtain ⟨v, σ', H', I, r, q⟩ := h; exact ⟨v, σ', H', I.unwish, r, q⟩
theorem PE.nox {e : Expr} {t : TE} (h : PE X.nox e t) : PE X e t := fun pins s σ H Q I hw =>
 wpAny_mono (h pins s σ H Q (I.wish _) hw) (fun _ _ ⟨v, H', I', r, q⟩ => ⟨v, H', I'.unwish, r, q⟩) fun _ _ z => False.elim z
theorem PT.nox {e : Expr} {t : TT} (h : PT X.nox e t) : PT X e t := fun pins s σ H Q I hw =>
 wpAny_mono (h pins s σ H Q (I.wish _) hw) (fun _ _ ⟨H', I', q⟩ => ⟨H', I'.unwish, q⟩) fun _ _ z => False.elim z
theorem PSs.nox {st : List Stmt} {t : TS} (h : PSs X.nox st t) : PSs X st t := fun pins s σ H D I hw =>
 wpAny_mono (h pins s σ H D (I.wish _) hw) (fun _ _ q => q.unwish) fun _ _ z => False.elim z
end
section
variable {X : Cx} {st : Stmt} {rest : List Stmt} {t u : TS} {e : Expr} {te : TE} {pos : Pos}
def tNext : TS := fun D σ H => D.nx σ H
def tSeq (t u : TS) : TS := fun D σ H => t { D with nx := u D } σ H
theorem Xat : PSs X [] tNext := fun _ _ σ H _ I h => wpAny_execs_nil ⟨σ, H, I, h⟩
theorem Xad (h1 : PS X st t) (h2 : PSs X rest u) : PSs X (st :: rest) (tSeq t u) := by
 intro pins s σ H D I h
 refine wpAny_execs_cons (thn (h1 pins s σ H { D with nx := u D } I h) fun f s1 q => ?_)
 cases f with
 | next =>
   obtain ⟨σ', H', I', q⟩ := q
   exact h2 pins s1 σ' H' D I' q
 | ret v => exact q
 | brk => exact q
 | cont => exact q
theorem Xah (h1 : PS X st t) : PSs X [st] t := by
 intro pins s σ H D I h
 refine wpAny_execs_cons (thn (h1 pins s σ H D I h) fun f s1 q => ?_)
 cases f with
 | next => exact wpAny_execs_nil q
 | ret v => exact q
 | brk => exact q
 | cont => exact q
theorem Inv.quiet {pins : List (Addr × Obj)} {σ : St} {H : Hp} {s : Shared} (I : Inv X pins σ H s) : interactive X.env = false := by simp [interactive, I.ok.kind]
def tDrop (te : TE) : TS := fun D σ H => te σ H fun _ H1 => D.nx σ H1
theorem Xbq (he : PE X e te) (hs : swapsWith e none pos.line X.env = pure false := by rfl) : PS X (.Expr e pos) (tDrop te) := by
 intro pins s σ H D I h
 exact wpAny_Expr_any (thn (he pins s σ H _ I h) fun v s1 ⟨x, H1, I1, r1, q1⟩ => ⟨σ, H1, I1, q1⟩) I.quiet hs
def tRet (te : TE) : TS := fun D σ H => te σ H D.rt
theorem Xao (he : PE X e te) : PS X (.Return (some e) pos) (tRet te) := by
 intro pins s σ H D I h
 exact wpAny_Return_some (thn (he pins s σ H _ I h) fun v s1 ⟨x, H1, I1, r1, q1⟩ => ⟨x, σ, H1, I1, r1, q1⟩)
def tIfS (c : TT) (t u : TS) : TS := fun D σ H => c σ H fun b H1 => if b = true then t D σ H1 else u D σ H1
theorem Xbn {c : Expr} {a b : List Stmt} {tc : TT} (hc : PT X c tc) (ha : PSs X a t) (hb : PSs X b u) : PS X (.If c a b pos) (tIfS tc t u) := by
 intro pins s σ H D I h
 refine wpAny_If (thn (hc pins s σ H _ I h) fun d s1 ⟨H1, I1, q1⟩ => ?_)
 cases d with
 | true => exact ha pins s1 σ H1 D I1 q1
 | false => exact hb pins s1 σ H1 D I1 q1
def tNever : TS := fun _ _ _ => False
theorem ps_never : PS X st tNever := fun _ _ _ _ _ _ h => h.elim
end
abbrev TG := V → St → Hp → (St → Hp → Prop) → Prop
abbrev TGs := List V → St → Hp → (St → Hp → Prop) → Prop
def PG (X : Cx) (target : Expr) (t : TG) : Prop :=
 ∀ (pins : List (Addr × Obj)) (s : Shared) (σ : St) (H : Hp) (v : V) (u : Value) (Q : St → Hp → Prop), Inv X pins σ H s → RelV v u → t v σ H Q →
   wpAny (model X.prog X.w) X.A (assign target X.env u) (fun _ s' => ∃ σ' H', Inv X pins σ' H' s' ∧ Q σ' H') X.xe s
def PGs (X : Cx) (ts : List Expr) (t : TGs) : Prop :=
 ∀ (pins : List (Addr × Obj)) (s : Shared) (σ : St) (H : Hp) (vs : List V) (us : List Value) (Q : St → Hp → Prop), Inv X pins σ H s → Vals vs us → t vs σ H Q →
   wpAny (model X.prog X.w) X.A (assignInOrder ((assignEach ts X.env).map (·.2)) us) (fun _ s' => ∃ σ' H', Inv X pins σ' H' s' ∧ Q σ' H') X.xe s
abbrev TSet := V → V → V → Hp → (Hp → Prop) → Prop
def PSet (X : Cx) (t : TSet) : Prop :=
 ∀ (pins : List (Addr × Obj)) (s : Shared) (σ : St) (H : Hp) (o i v : V) (ov iv u : Value) (Q : Hp → Prop), Inv X pins σ H s → RelV o ov → RelV i iv → RelV v u → t o i v H Q →
   wpAny (model X.prog X.w) X.A (setItem ov iv u) (fun _ s' => ∃ H', Inv X pins σ H' s' ∧ Q H') X.xe s
section
variable {X : Cx} {pos : Pos}
def gName (i : Nat) : TG := fun v σ H Q => Q (σ.set i (some v)) H
theorem Xax {i : Nat} {x : Str} (hN : X.N.Nodup) (hi : X.N[i]? = some x) (hx : Loc X.env.scope x) (hf : X.fn x = true ∨ X.env.scope.names.lookup x = some .local := by first | exact .inl rfl | exact .inr rfl | assumption) : PG X (.Name x pos) (gName i) := by
 intro pins s σ H v u Q I r h
 exact wpAny_assign_Name (store_ok I hN hi hx r (fun s' I' => ⟨_, H, I', h⟩) hf)
def gNil : TGs := fun vs σ H Q => vs = [] ∧ Q σ H
def gCons (t : TG) (u : TGs) : TGs := fun vs σ H Q => ∃ v r, vs = v :: r ∧ t v σ H fun σ' H' => u r σ' H' Q
theorem Xee : PGs X [] gNil := by
 intro pins s σ H vs us Q I r h
 obtain ⟨e, h⟩ := h
 subst e
 cases r
 exact assignInOrder_nil ⟨σ, H, I, h⟩
theorem Xba {e : Expr} {es : List Expr} {t : TG} {u : TGs} (h1 : PG X e t) (h2 : PGs X es u)
   (hs : (assignEach (e :: es) X.env).map (·.2) = assign e X.env :: (assignEach es X.env).map (·.2) := by rfl) : PGs X (e :: es) (gCons t u) := by
 intro pins s σ H vs us Q I r h
 obtain ⟨v, vr, e1, h⟩ := h
 subst e1
 cases r with
 | cons r rr =>
   rw [hs]
   refine assignInOrder_cons (thn (h1 pins s σ H _ _ _ I r h) fun _ s1 ⟨σ1, H1, I1, q1⟩ => ?_)
   exact h2 pins s1 σ1 H1 _ _ Q I1 rr q1
def gTup (K : PySem.W.Frag) (n : Nat) (t : TGs) : TG := fun v σ H Q => ∃ a xs, v = .ref a ∧ SqT K H a xs ∧ xs.length = n ∧ t xs σ H Q
theorem pg_tup {es : List Expr} {k : Nat} {t : TGs} {n : Nat} (hc : X.calm = true) (h : PGs X es t)
   (hn : (assignEach es X.env).length = n := by rfl) (hst : (assignEach es X.env).findIdx? (·.1) = none := by rfl) : PG X (.Tuple es k pos) (gTup X.K n t) := by
 intro pins s σ H v u Q I r hw
 obtain ⟨a, xs, e1, hq, hl, hw⟩ := hw
 subst e1
 cases r
 obtain ⟨its, rv, ht, hz⟩ := I.tuple hq
 refine assign_Tuple_tuple (I.ok.hd hc) ht (by simp [hn, ← hl, rv.length]) hst fun h' hx => ?_
 have I1 : Inv X pins σ H { s with heap := h' } := I.kept (t' := s.toks) fun b o e => hx b o (Nat.ne_of_lt (Heap.lt_size e)) e
 exact h pins _ σ H xs _ Q I1 (by simpa using rv) hw
def gSub (to ti : TE) (t : TSet) : TG := fun v σ H Q => to σ H fun o H1 => ti σ H1 fun i H2 => t o i v H2 fun H3 => Q σ H3
theorem Xfu {o i : Expr} {to ti : TE} {t : TSet} (ho : PE X o to) (hi : PE X i ti) (hs : PSet X t)
   (ha : ∀ v, assign (.Subscript o i pos) X.env v = (do
     let ov ← holding [v] (eval o X.env)
     let iv ← holding [v, ov] (eval i X.env)
     standAt pos
     holding [v, ov, iv] (setItem ov iv v)
     release [v, ov, iv] []) := by intro _; rfl) : PG X (.Subscript o i pos) (gSub to ti t) := by
 intro pins s σ H v u Q I r h
 rw [ha]
 refine wpAny_bind (wpAny_holding (thn (ho pins s σ H _ I h) fun ov s1 ⟨x, H1, I1, r1, q1⟩ => ?_))
 refine wpAny_bind (wpAny_holding (thn (hi pins s1 σ H1 _ I1 q1) fun iv s2 ⟨y, H2, I2, r2, q2⟩ => ?_))
 refine wpAny_bind (wpAny_standAt (wpAny_bind (wpAny_holding (thn (hs pins s2 σ H2 x y v ov iv u _ I2 r1 r2 r q2) fun _ s3 ⟨H3, I3, q3⟩ => ?_))))
 exact wpAny_release ⟨σ, H3, I3, q3⟩
def tAsg (te : TE) (g : TG) : TS := fun D σ H => te σ H fun x H1 => g x σ H1 D.nx
theorem Xdo {tg e : Expr} {te : TE} {g : TG} (he : PE X e te) (hg : PG X tg g) (hs : swapsWithSole [tg] e pos.line X.env = pure false := by rfl) (hw : swappedStores [tg] e X.env = pure none := by rfl)
   (h1 : (assignEach [tg] X.env).map (·.2) = [assign tg X.env] := by rfl) : PS X (.Assign [tg] e pos) (tAsg te g) := by
 intro pins s σ H D I h
 refine wpAny_Assign_stores (thn (he pins s σ H _ I h) fun v s1 ⟨x, H1, I1, r1, q1⟩ => ?_) hs hw
 rw [h1]
 exact thn (hg pins s1 σ H1 x v _ I1 r1 q1) fun _ s2 q => q
theorem Xar {i : Nat} {x : Str} {e : Expr} {te : TE} {pos' : Pos} (hN : X.N.Nodup) (hi : X.N[i]? = some x) (hx : Loc X.env.scope x) (he : PE X e te) (hs : swapsWith e (some (.Name x pos')) pos.line X.env = pure false := by rfl) (hf : X.fn x = true ∨ X.env.scope.names.lookup x = some .local := by first | exact .inl rfl | exact .inr rfl | assumption) :
   PS X (.Assign [.Name x pos'] e pos) (tAsg te (gName i)) := by
 intro pins s σ H D I h
 refine wpAny_Assign_Name (thn (he pins s σ H _ I h) fun v s1 ⟨y, H1, I1, r1, q1⟩ => ?_) hs
 exact store_ok I1 hN hi hx r1 (fun s2 I2 => ⟨_, H1, I2, q1⟩) hf
end
section
variable {X : Cx} {pos : Pos}
def tWhile (c : TT) (tb : TS) : TS := fun D σ H => ∃ W : Nat → St → Hp → Prop, (∃ m, W m σ H) ∧ ∀ m σ H, W m σ H →
 c σ H fun b H1 => if b = true then ∃ N : St → Hp → Prop, (∀ σ' H', N σ' H' → ∃ m', m' < m ∧ W m' σ' H') ∧ tb { D with nx := N, ct := N, bk := D.nx } σ H1 else D.nx σ H1
theorem ps_while {c : Expr} {body : List Stmt} {tc : TT} {tb : TS} (hp : PassesOwn (model X.prog X.w) X.A X.env X.xe) (hc : PT X c tc) (hb : PSs X body tb) : PS X (.While c body [] pos) (tWhile tc tb) := by
 intro pins s σ H D I h
 obtain ⟨W, ⟨m0, w0⟩, turn⟩ := h
 refine wpAny_While (codeAny_whileLoop (fun n s' => ∃ σ' H', Inv X pins σ' H' s' ∧ W n σ' H') ?_ m0 ⟨σ, H, I, w0⟩)
 rintro n s1 ⟨σ1, H1, I1, w1⟩
 refine wpAny_passesOwn hp (thn (hc pins s1 σ1 H1 _ I1 (turn n σ1 H1 w1)) fun b s2 ⟨H2, I2, q2⟩ => ?_)
 cases b with
 | true =>
   obtain ⟨N, hN, q2⟩ := q2
   rw [if_pos rfl]
   refine wpAny_passesOwn hp (thn (hb pins s2 σ1 H2 _ I2 q2) fun f s3 q3 => ?_)
   cases f with
   | next =>
     obtain ⟨σ3, H3, I3, n3⟩ := q3
     obtain ⟨m', hm, w3⟩ := hN σ3 H3 n3
     exact ⟨m', hm, σ3, H3, I3, w3⟩
   | cont =>
     obtain ⟨σ3, H3, I3, n3⟩ := q3
     obtain ⟨m', hm, w3⟩ := hN σ3 H3 n3
     exact ⟨m', hm, σ3, H3, I3, w3⟩
   | brk => exact q3
   | ret v => exact q3
 | false =>
   rw [if_neg Bool.false_ne_true]
   exact wpAny_execs_nil ⟨σ1, H2, I2, q2⟩
end
structure It where
 go : Nat → Hp → Prop
 yld : Nat → Hp → V → Hp → Prop
 stop : Nat → Hp → Prop
def FpOk (X : Cx) (pins : List (Addr × Obj)) (H : Hp) (b : Addr) : Prop :=
 H b = none ∧ b ≠ X.env.locals ∧ b ∉ X.fs ∧ (b ∈ X.ex ∨ X.s₀.heap.objs.size ≤ b) ∧ (∀ x c, X.env.cells.lookup x = some c → c ≠ b) ∧ ∀ p ∈ X.pn ++ pins, p.1 ≠ b
theorem Inv.fpOk {X : Cx} {pins : List (Addr × Obj)} {σ : St} {H H' : Hp} {s : Shared} {b : Addr} (I : Inv X pins σ H s) (hb : s.heap.objs.size ≤ b) (hn : H' b = none) : FpOk X pins H' b := by
 refine ⟨hn, Nat.ne_of_gt (Nat.lt_of_lt_of_le I.lt hb), I.nofs hb, .inr (Nat.le_trans I.sz hb), fun x c e z => ?_, fun p hp z => ?_⟩
 · obtain ⟨v, q⟩ := I.cell x c e
   exact absurd (Nat.lt_of_lt_of_le q.lt (by rw [z]; exact hb)) (Nat.lt_irrefl _)
 · exact absurd (Nat.lt_of_lt_of_le (Heap.lt_size (I.pin p hp).1) (by rw [z]; exact hb)) (Nat.lt_irrefl _)
structure Turn (P : Program) (w : World) (K : PySem.W.Frag) (tg : Expr) (J : It) (fp : List Addr) (it : Addr) (tn : Nat → Heap → Prop) : Prop where
 mem : it ∈ fp
 obj : ∀ i h, tn i h → ∀ b ∈ fp, ∃ o, h.get? b = some o ∧ ∀ v, o.data ≠ .cell v
 keep : ∀ i h h', tn i h → (∀ b ∈ fp, ∀ o, h.get? b = some o → h'.get? b = some o) → tn i h'
 item : ∀ (X : Cx), X.prog = P → X.w = w → X.K = K → X.calm = true → ∀ (i : Nat) (pins : List (Addr × Obj)) (s : Shared) (σ : St) (H : Hp) (E : Value → Shared → Prop), Inv X pins σ H s → (∀ b ∈ fp, FpOk X pins H b) → tn i s.heap → J.go i H →
   wpAny (model P w) X.A (pyNext (.ref it)) (fun r s1 => ∃ u, r = some u ∧
     wpAny (model P w) X.A (letOwnedTupleGo tg (.ref it) u) (fun _ s2 => ∃ x H', Inv X pins σ H' s2 ∧ RelV x u ∧ J.yld i H x H' ∧ tn (i + 1) s2.heap ∧ ∀ b ∈ fp, H' b = none) E s1) E s
 done : ∀ (X : Cx), X.prog = P → X.w = w → X.K = K → X.calm = true → ∀ (i : Nat) (pins : List (Addr × Obj)) (s : Shared) (σ : St) (H : Hp) (E : Value → Shared → Prop), Inv X pins σ H s → (∀ b ∈ fp, FpOk X pins H b) → tn i s.heap → J.stop i H →
   wpAny (model P w) X.A (pyNext (.ref it)) (fun r s1 => r = none ∧ Inv X pins σ H s1) E s
 self : ∀ (A : Around) (i : Nat) (s : Shared) (Q : Value → Shared → Prop) (E : Value → Shared → Prop), tn i s.heap → Q (.ref it) s → wpAny (model P w) A (pyIter (.ref it)) Q E s
abbrev TI := St → Hp → (It → Hp → Prop) → Prop
def PIE (X : Cx) (pins : List (Addr × Obj)) (σ : St) (tg : Expr) (R : It → Hp → Prop) (itv : Value) (s2 : Shared) : Prop :=
 ∃ (it : Addr) (fp : List Addr) (tn : Nat → Heap → Prop) (J : It) (H' : Hp), itv = .ref it ∧ Inv X pins σ H' s2 ∧ Turn X.prog X.w X.K tg J fp it tn ∧ tn 0 s2.heap ∧ (∀ b ∈ fp, FpOk X pins H' b) ∧ R J H'
def PI (X : Cx) (tg iter : Expr) (wi : TI) : Prop :=
 ∀ (pins : List (Addr × Obj)) (s : Shared) (σ : St) (H : Hp) (R : It → Hp → Prop), Inv X pins σ H s → wi σ H R →
   wpAny (model X.prog X.w) X.A (eval iter X.env) (fun v s1 => wpAny (model X.prog X.w) X.A (pyIter v) (PIE X pins σ tg R) X.xe s1) X.xe s
theorem go_of {M : Model} {A : Around} {E : Value → Shared → Prop} {s : Shared} {tg : Expr} {it : Addr} {u : Value} {o : Obj} {n : String} {vs : Array Value} {Q : Unit → Shared → Prop} (ho : s.heap.get? it = some o) (hc : o.cls = .type n) (hd : o.data = .fields vs)
   (hn : ["enumerate", "zip", "dict_itemiterator", "dict_reverseitemiterator", "odict_iterator", "itertools.zip_longest", "itertools.pairwise"].contains n = false) (hQ : Q () s) : wpAny M A (letOwnedTupleGo tg (.ref it) u) Q E s := by
 unfold letOwnedTupleGo
 cases tg <;> first
   | exact wpAny_pure hQ
   | (cases u <;> first
       | exact wpAny_pure hQ
       | (refine wpAny_bind (wpAny_load ho ?_)
          rw [hc, hd]
          show wpAny M A (if (["enumerate", "zip", "dict_itemiterator", "dict_reverseitemiterator", "odict_iterator", "itertools.zip_longest", "itertools.pairwise"].contains n && vs[0]? == some (rawInt _)) = true then _ else _) Q E s
          rw [if_neg (by intro h; rw [hn, Bool.false_and] at h; cases h)]
          exact wpAny_pure hQ))
def Itl (K : PySem.W.Frag) (a : Addr) : It :=
 ⟨fun i H => ∃ xs x, SqL K H a xs ∧ xs[i]? = some x, fun i H x H' => H' = H ∧ ∀ xs, SqL K H a xs → xs[i]? = some x, fun i H => ∃ xs, SqL K H a xs ∧ xs.length ≤ i⟩
theorem turn_list {P : Program} {w : World} {K : PySem.W.Frag} {tg : Expr} (a it : Addr) : Turn P w K tg (Itl K a) [it] it (fun i h => h.IsListIter it a i) where
 mem := by simp
 obj := fun i h st b hb => by
   have e : b = it := by simpa using hb
   subst e
   obtain ⟨o, e, c, d⟩ := st
   exact ⟨o, e, fun v z => by rw [d] at z; cases z⟩
 keep := fun i h h' st k => st.at fun o e => k it (by simp) o e
 item := by
   intro X hP hw hK hc i pins s σ H E I hf st hg
   subst hP hw hK
   obtain ⟨xs, x, hq, hx⟩ := hg
   obtain ⟨its, rv, p, hz⟩ := I.list hq
   obtain ⟨u, hu, ru⟩ := rv.get hx
   obtain ⟨f0, f1, f2, f3, f4, f5⟩ := hf it (by simp)
   refine wpAny_pyNext_list_item st p.isList (x := u) (by simpa using hu) fun h' st' sb => ?_
   have I1 : Inv X pins σ H { s with heap := h' } := I.turned (t' := s.toks) (fun b o hb e => (sb.2 b hb).trans e) f0 f1 f3 f4 f5
   obtain ⟨o, e, c, d⟩ := id st'
   exact ⟨u, rfl, go_of (s := { s with heap := h' }) e c d (by decide) ⟨x, H, I1, ru, ⟨rfl, fun ys hy => by rw [I.list_inj hy hq]; exact hx⟩, st', fun b hb => (hf b hb).1⟩⟩
 done := by
   intro X hP hw hK hc i pins s σ H E I hf st hg
   subst hP hw hK
   obtain ⟨xs, hq, hx⟩ := hg
   obtain ⟨its, rv, p, hz⟩ := I.list hq
   obtain ⟨f0, f1, f2, f3, f4, f5⟩ := hf it (by simp)
   have hl := rv.length
   exact wpAny_pyNext_list_end (I.ok.hd hc) st p.isList (by simp; omega) fun h' eb => ⟨rfl, I.turned (t' := s.toks) (fun b o hb e => eb b o hb e) f0 f1 f3 f4 f5⟩
 self := fun _ _ _ _ _ st h => wpAny_pyIter_listiter st h
end L2
namespace L2
open PySem PySem.Spec PyProof.Rows
section
variable {X : Cx} {tg : Expr}
def iList (K : PySem.W.Frag) (tl : TE) : TI := fun σ H R => tl σ H fun x H1 => ∃ a, x = .ref a ∧ (∃ xs, SqL K H1 a xs) ∧ R (Itl K a) H1
theorem Xcg {l : Expr} {tl : TE} (hl : PE X l tl) : PI X tg l (iList X.K tl) := by
 intro pins s σ H R I h
 refine thn (hl pins s σ H _ I h) fun v s1 ⟨x, H1, I1, r1, q1⟩ => ?_
 obtain ⟨a, e, ⟨xs, hq⟩, q⟩ := q1
 subst e
 cases r1
 obtain ⟨its, rv, p, hz⟩ := I1.list hq
 refine wpAny_pyIter_list p.isList ?_
 refine ⟨s1.heap.objs.size, [s1.heap.objs.size], _, _, H1, rfl, I1.kept (t' := s1.toks) fun b o e => Heap.get?_push_of_some _ e, turn_list a _, ⟨_, Heap.get?_push_size _ rfl, rfl, rfl⟩, fun b hb => ?_, q⟩
 have e : b = s1.heap.objs.size := by simpa using hb
 subst e
 exact I1.fpOk (Nat.le_refl _) (I1.hok.fresh (Nat.le_refl _))
def tFor (wi : TI) (g : TG) (tb : TS) : TS := fun D σ H => wi σ H fun J H1 => ∃ W : Nat → Nat → St → Hp → Prop, (∃ m, W 0 m σ H1) ∧ ∀ i m σ H, W i m σ H →
 (J.stop i H ∧ D.nx σ H) ∨ (J.go i H ∧ ∃ N : St → Hp → Prop, (∀ σ' H', N σ' H' → ∃ m', m' < m ∧ W (i + 1) m' σ' H') ∧ ∀ x H', J.yld i H x H' → g x σ H' fun σ2 H2 => tb { D with nx := N, ct := N, bk := D.nx } σ2 H2)
def pinsAt (fp : List Addr) (h : Heap) : List (Addr × Obj) := fp.filterMap fun b => (h.get? b).map fun o => (b, o)
theorem Xez {fp : List Addr} {h : Heap} {b : Addr} {o : Obj} (hb : b ∈ fp) (e : h.get? b = some o) : (b, o) ∈ pinsAt fp h := List.mem_filterMap.mpr ⟨b, hb, by rw [e]; rfl⟩
theorem of_pinsAt {fp : List Addr} {h : Heap} {p : Addr × Obj} (hp : p ∈ pinsAt fp h) : p.1 ∈ fp ∧ h.get? p.1 = some p.2 := by
 obtain ⟨b, hb, e⟩ := List.mem_filterMap.mp hp
 cases q : h.get? b with
 | none => rw [q] at e; cases e
 | some o =>
   rw [q] at e
   have e' : (b, o) = p := Option.some.inj e
   subst e'
   exact ⟨hb, q⟩
theorem Inv.pinned {pins : List (Addr × Obj)} {σ : St} {H : Hp} {s : Shared} {fp : List Addr} (I : Inv X pins σ H s) (hf : ∀ b ∈ fp, FpOk X pins H b) (ho : ∀ b ∈ fp, ∃ o, s.heap.get? b = some o ∧ ∀ v, o.data ≠ .cell v) : Inv X (pins ++ pinsAt fp s.heap) σ H s :=
 I.pins_of fun p hp => (List.mem_append.mp hp).elim (fun z => I.pin p (List.mem_append_right _ z)) fun z => by
   obtain ⟨hb, e⟩ := of_pinsAt z
   obtain ⟨f0, f1, f2, _⟩ := hf p.1 hb
   obtain ⟨o, e', d⟩ := ho p.1 hb
   rw [e] at e'; cases e'
   exact ⟨e, f0, f1, f2, d⟩
theorem Inv.unpinned {pins pl : List (Addr × Obj)} {σ : St} {H : Hp} {s : Shared} (I : Inv X (pins ++ pl) σ H s) : Inv X pins σ H s := I.pins_of fun p hp => I.pin p (List.mem_append_right _ (List.mem_append_left _ hp))
theorem Xew {iter : Expr} {body : List Stmt} {wi : TI} {g : TG} {tb : TS} {pos : Pos} (hp : PassesOwn (model X.prog X.w) X.A X.env X.xe) (hc : X.calm = true) (hi : PI X tg iter wi) (hg : PG X tg g) (hb : PSs X body tb)
   (hs : ∀ x, foldedSetIterable iter X.env x = pure x := by intro _; rfl) : PS X (.For tg iter body [] pos) (tFor wi g tb) := by
 intro pins s σ H D I h
 refine wpAny_For (thn (hi pins s σ H _ I h) fun v s1 h1 => thn h1 fun itv s2 h2 => ?_) hs
 obtain ⟨it, fp, tn, J, H2, e, I2, T, st2, f2, W, ⟨m0, w0⟩, turn⟩ := h2
 subst e
 -- what stays true of the iterator's objects through the loop
 have stat : ∀ {H' : Hp}, (∀ b ∈ fp, H' b = none) → ∀ b ∈ fp, FpOk X pins H' b := fun hn b hb => ⟨hn b hb, (f2 b hb).2⟩
 refine codeAny_forLoop_any (fun n s' => ∃ i σ' H', Inv X pins σ' H' s' ∧ tn i s'.heap ∧ (∀ b ∈ fp, H' b = none) ∧ W i n σ' H') ?_ m0 ⟨0, σ, H2, I2, st2, fun b hb => (f2 b hb).1, w0⟩
 rintro n s3 ⟨i, σ3, H3, I3, st3, fr3, w3⟩
 rcases turn i n σ3 H3 w3 with ⟨stop, qn⟩ | ⟨go, N, hN, step⟩
 · refine wpAny_passesOwn hp (thn (T.done X rfl rfl rfl hc i pins s3 σ3 H3 X.xe I3 (stat fr3) st3 stop) fun r s4 ⟨hr, I4⟩ => ?_)
   subst hr
   exact wpAny_execs_nil ⟨σ3, H3, I4, qn⟩
 · refine wpAny_passesOwn hp (thn (T.item X rfl rfl rfl hc i pins s3 σ3 H3 X.xe I3 (stat fr3) st3 go) fun r s4 ⟨u, hr, h4⟩ => ?_)
   subst hr
   refine wpAny_passesOwn hp (thn h4 fun _ s5 ⟨x, H5, I5, r5, y5, st5, fr5⟩ => ?_)
   have I5' := I5.pinned (stat fr5) (T.obj _ _ st5)
   refine wpAny_passesOwn hp (thn (hg _ s5 σ3 H5 x u _ I5' r5 (step x H5 y5)) fun _ s6 ⟨σ6, H6, I6, q6⟩ => ?_)
   refine wpAny_passesOwn hp (thn (hb _ s6 σ6 H6 _ I6 q6) fun f s7 q7 => ?_)
   have again : ∀ {σ7 : St} {H7 : Hp}, Inv X (pins ++ pinsAt fp s5.heap) σ7 H7 s7 → N σ7 H7 → ∃ m, m < n ∧ ∃ i σ' H', Inv X pins σ' H' s7 ∧ tn i s7.heap ∧ (∀ b ∈ fp, H' b = none) ∧ W i m σ' H' := fun {σ7 H7} I7 n7 => by
     obtain ⟨m', hm, w7⟩ := hN σ7 H7 n7
     refine ⟨m', hm, i + 1, σ7, H7, I7.unpinned, T.keep _ _ _ st5 fun b hb o e => (I7.pin (b, o) (List.mem_append_right _ (List.mem_append_right _ (Xez hb e)))).1, fun b hb => ?_, w7⟩
     obtain ⟨o, e, d⟩ := T.obj _ _ st5 b hb
     exact (I7.pin (b, o) (List.mem_append_right _ (List.mem_append_right _ (Xez hb e)))).2.1
   cases f with
   | next => obtain ⟨σ7, H7, I7, n7⟩ := q7; exact again I7 n7
   | cont => obtain ⟨σ7, H7, I7, n7⟩ := q7; exact again I7 n7
   | brk => obtain ⟨σ7, H7, I7, q7⟩ := q7; exact ⟨σ7, H7, I7.unpinned, q7⟩
   | ret v => obtain ⟨x7, σ7, H7, I7, r7, q7⟩ := q7; exact ⟨x7, σ7, H7, I7.unpinned, r7, q7⟩
end
theorem Xcp {K : PySem.W.Frag} {a : Addr} {xs : List V} {g : TG} {tb : TS} {D : Ends} {σ : St} {H : Hp} (Pv : Nat → St → Hp → Prop) (h0 : Pv 0 σ H) (hl : ∀ i σ H, i ≤ xs.length → Pv i σ H → SqL K H a xs)
   (hs : ∀ i x σ H, xs[i]? = some x → Pv i σ H → g x σ H fun σ2 H2 => tb { D with nx := Pv (i + 1), ct := Pv (i + 1), bk := D.nx } σ2 H2) (hd : ∀ σ H, Pv xs.length σ H → D.nx σ H) :
   ∃ W : Nat → Nat → St → Hp → Prop, (∃ m, W 0 m σ H) ∧ ∀ i m σ H, W i m σ H →
     ((Itl K a).stop i H ∧ D.nx σ H) ∨ ((Itl K a).go i H ∧ ∃ N : St → Hp → Prop, (∀ σ' H', N σ' H' → ∃ m', m' < m ∧ W (i + 1) m' σ' H') ∧ ∀ x H', (Itl K a).yld i H x H' → g x σ H' fun σ2 H2 => tb { D with nx := N, ct := N, bk := D.nx } σ2 H2) := by
 refine ⟨fun i m σ H => m = xs.length - i ∧ i ≤ xs.length ∧ Pv i σ H, ⟨xs.length, by simp, Nat.zero_le _, h0⟩, ?_⟩
 rintro i m σ H ⟨rfl, hi, p⟩
 have q := hl i σ H hi p
 by_cases hlt : i < xs.length
 · refine .inr ⟨⟨xs, xs[i], q, by simp [hlt]⟩, Pv (i + 1), fun σ' H' p' => ⟨xs.length - (i + 1), by omega, rfl, hlt, p'⟩, fun x H' y => ?_⟩
   obtain ⟨e, y⟩ := y
   subst e
   exact hs i x σ _ (y xs q) p
 · have e : i = xs.length := by omega
   subst e
   exact .inl ⟨⟨xs, q, Nat.le_refl _⟩, hd σ H p⟩
end L2
namespace L2
open PySem PySem.Spec PyProof.Rows
abbrev R2 := V → V → Hp → VK → Prop
def OpR (X : Cx) (f : Value → Value → Sem Value) (r : R2) : Prop :=
 ∀ (pins : List (Addr × Obj)) (s : Shared) (σ : St) (H : Hp) (x y : V) (v u : Value) (Q : VK), Inv X pins σ H s → RelV x v → RelV y u → r x y H Q →
   wpAny (model X.prog X.w) X.A (f v u) (EP X pins σ Q) X.xe s
def UnR (X : Cx) (f : Value → Sem Value) (r : V → Hp → VK → Prop) : Prop :=
 ∀ (pins : List (Addr × Obj)) (s : Shared) (σ : St) (H : Hp) (x : V) (v : Value) (Q : VK), Inv X pins σ H s → RelV x v → r x H Q →
   wpAny (model X.prog X.w) X.A (f v) (EP X pins σ Q) X.xe s
def CallR (X : Cx) (f : Value) (r : List V → Hp → VK → Prop) : Prop :=
 ∀ (pins : List (Addr × Obj)) (s : Shared) (σ : St) (H : Hp) (xs : List V) (us : List Value) (Q : VK), Inv X pins σ H s → Vals xs us → r xs H Q →
   wpAny (model X.prog X.w) X.A (call f us) (EP X pins σ Q) X.xe s
def TruR (X : Cx) (r : V → Hp → (Bool → Hp → Prop) → Prop) : Prop :=
 ∀ (pins : List (Addr × Obj)) (s : Shared) (σ : St) (H : Hp) (x : V) (v : Value) (Q : Bool → Hp → Prop), Inv X pins σ H s → RelV x v → r x H Q →
   wpAny (model X.prog X.w) X.A (truthy v) (TP X pins σ Q) X.xe s
def tOp (r : R2) (ta tb : TE) : TE := fun σ H Q => ta σ H fun x H1 => tb σ H1 fun y H2 => r x y H2 Q
def tUn (r : V → Hp → VK → Prop) (ta : TE) : TE := fun σ H Q => ta σ H fun x H1 => r x H1 Q
def rI (C : Int → Int → Prop) (g : Int → Int → V) : R2 := fun x y H Q => ∃ i j, x = .int i ∧ y = .int j ∧ C i j ∧ Q (g i j) H
def rI0 (g : Int → Int → V) : R2 := fun x y H Q => ∃ i j, x = .int i ∧ y = .int j ∧ Q (g i j) H
def rU (g : Int → V) : V → Hp → VK → Prop := fun x H Q => ∃ i, x = .int i ∧ Q (g i) H
section
variable {X : Cx} {a b c : Expr} {ta tb tc : TE} {pos : Pos}
theorem binT (ha : PE X a ta) (hb : PE X b tb) {pins : List (Addr × Obj)} {s : Shared} {σ : St} {H : Hp} {R : V → V → Hp → Prop} (I : Inv X pins σ H s)
   (h : ta σ H fun x H1 => tb σ H1 fun y H2 => R x y H2) {Q : Value → Shared → Prop} {f : Value → Value → Sem Value}
   (hf : ∀ v u s2 x y H2, Inv X pins σ H2 s2 → RelV x v → RelV y u → R x y H2 → wpAny (model X.prog X.w) X.A (f v u) Q X.xe s2) :
   wpAny (model X.prog X.w) X.A (eval a X.env) (fun v s₁ => wpAny (model X.prog X.w) X.A (eval b X.env) (fun u s₂ => wpAny (model X.prog X.w) X.A (f v u) Q X.xe s₂) X.xe s₁) X.xe s := by
 refine thn (ha pins s σ H _ I h) fun v s1 ⟨x, H1, I1, r1, q1⟩ => ?_
 refine thn (hb pins s1 σ H1 _ I1 q1) fun u s2 ⟨y, H2, I2, r2, q2⟩ => ?_
 exact hf v u s2 x y H2 I2 r1 r2 q2
theorem Xai {op : Operator} {r : R2} (ho : OpR X (binaryOp op) r) (ha : PE X a ta) (hb : PE X b tb) : PE X (.BinOp a op b pos) (tOp r ta tb) := by
 intro pins s σ H Q I h
 exact wpAny_BinOp (binT ha hb I h fun v u s2 x y H2 I2 rx ry q => ho pins s2 σ H2 x y v u Q I2 rx ry q)
theorem pe_un {op : UnaryOp} {r : V → Hp → VK → Prop} (ho : UnR X (unaryOp op) r) (ha : PE X a ta) : PE X (.UnaryOp op a pos) (tUn r ta) := by
 intro pins s σ H Q I h
 exact UnaryOp_ (thn (ha pins s σ H _ I h) fun v s1 ⟨x, H1, I1, r1, q1⟩ => ho pins s1 σ H1 x v Q I1 r1 q1)
theorem opI {f : Value → Value → Sem Value} {C : Int → Int → Prop} {g : Int → Int → Int}
   (rule : ∀ (i j : Int) (t u : Tok) (s : Shared) (Q : Value → Shared → Prop) (E : Value → Shared → Prop), C i j → Q (.int (g i j) s.toks) { s with toks := s.toks + 1 } → wpAny (model X.prog X.w) X.A (f (.int i t) (.int j u)) Q E s) :
   OpR X f (rI C fun i j => .int (g i j)) := by
 intro pins s σ H x y v u Q I rx ry h
 obtain ⟨i, j, rfl, rfl, hc, q⟩ := h
 obtain ⟨t, rfl⟩ := rx
 obtain ⟨t', rfl⟩ := ry
 exact rule i j t t' s _ _ hc ⟨.int (g i j), H, I.tok _, ⟨_, rfl⟩, q⟩
theorem opI0 {f : Value → Value → Sem Value} {g : Int → Int → Int}
   (rule : ∀ (i j : Int) (t u : Tok) (s : Shared) (Q : Value → Shared → Prop) (E : Value → Shared → Prop), Q (.int (g i j) s.toks) { s with toks := s.toks + 1 } → wpAny (model X.prog X.w) X.A (f (.int i t) (.int j u)) Q E s) :
   OpR X f (rI0 fun i j => .int (g i j)) := by
 intro pins s σ H x y v u Q I rx ry h
 obtain ⟨i, j, rfl, rfl, q⟩ := h
 obtain ⟨t, rfl⟩ := rx
 obtain ⟨t', rfl⟩ := ry
 exact rule i j t t' s _ _ ⟨.int (g i j), H, I.tok _, ⟨_, rfl⟩, q⟩
theorem opB0 {f : Value → Value → Sem Value} {g : Int → Int → Bool}
   (rule : ∀ (i j : Int) (t u : Tok) (s : Shared) (Q : Value → Shared → Prop) (E : Value → Shared → Prop), Q (.bool (g i j)) s → wpAny (model X.prog X.w) X.A (f (.int i t) (.int j u)) Q E s) :
   OpR X f (rI0 fun i j => .bl (g i j)) := by
 intro pins s σ H x y v u Q I rx ry h
 obtain ⟨i, j, rfl, rfl, q⟩ := h
 obtain ⟨t, rfl⟩ := rx
 obtain ⟨t', rfl⟩ := ry
 exact rule i j t t' s _ _ ⟨.bl (g i j), H, I, rfl, q⟩
def CDiv (i j : Int) : Prop := 0 < j ∧ j < 1073741824
def CPow (i j : Int) : Prop := 0 ≤ j ∧ j ≤ 1000000 ∧ i.natAbs < 2 ^ 64
def CMul (i j : Int) : Prop := (-(2 ^ 64) < i ∧ i < 2 ^ 64) ∨ (-(2 ^ 64) < j ∧ j < 2 ^ 64)
theorem CMul.ok {i j : Int} (h : CMul i j) : IntMulOk i j := by
 rcases h with ⟨h1, h2⟩ | ⟨h1, h2⟩
 · exact .of_left (intBits_le_64 h1 h2)
 · exact .of_right (intBits_le_64 h1 h2)
theorem two_pow_nn (k : Nat) : (0 : Int) ≤ 2 ^ k := by
 rw [two_pow_cast]
 exact Int.natCast_nonneg _
theorem Xau : OpR X (binaryOp .Add) (rI0 fun i j => .int (i + j)) := opI0 fun _ _ _ _ _ _ _ q => add_int q
theorem Xcd : OpR X (binaryOp .Sub) (rI0 fun i j => .int (i - j)) := opI0 fun _ _ _ _ _ _ _ q => sub_int q
theorem Xdm : OpR X (binaryOp .Mult) (rI CMul fun i j => .int (i * j)) := opI fun _ _ _ _ _ _ _ hc q => mul_int q hc.ok
theorem Xfw : OpR X (binaryOp .FloorDiv) (rI CDiv fun i j => .int (i / j)) := opI fun i j _ _ _ _ _ hc q => by
 have h1 : (0 : Int) < j := hc.1
 have h2 : j < 1073741824 := hc.2
 exact floordiv_int (by omega) (by rw [Int.fdiv_eq_ediv_of_nonneg i (by omega)]; exact q) (.inl (PyProof.noPylong_small (by omega)))
theorem Xbe : OpR X (binaryOp .Mod) (rI (fun _ j => 0 < j) fun i j => .int (i % j)) := opI fun i j _ _ _ _ _ hc q => by
 have h1 : (0 : Int) < j := hc
 exact mod_int' (by omega) (by rw [Int.fmod_eq_emod_of_nonneg i (by omega)]; exact q)
theorem op_pow : OpR X (binaryOp .Pow) (rI CPow fun i j => .int (i ^ j.toNat)) := opI fun _ _ _ _ _ _ _ hc q => pow_int_small hc.1 hc.2.1 hc.2.2 q
theorem op_shr : OpR X (binaryOp .RShift) (rI (fun _ j => 0 ≤ j) fun i j => .int (i / 2 ^ j.toNat)) := opI fun i j _ _ _ _ _ hc q =>
 rshift_int hc (by rw [Int.fdiv_eq_ediv_of_nonneg i (two_pow_nn _)]; exact q)
theorem op_and : OpR X (binaryOp .BitAnd) (rI0 fun i j => .int (Builtin.bitAnd i j)) := opI0 fun _ _ _ _ _ _ _ q => and_int q
theorem op_or : OpR X (binaryOp .BitOr) (rI0 fun i j => .int (Builtin.bitOr i j)) := opI0 fun _ _ _ _ _ _ _ q => or_int q
theorem unI {f : Value → Sem Value} {g : Int → Int}
   (rule : ∀ (i : Int) (t : Tok) (s : Shared) (Q : Value → Shared → Prop) (E : Value → Shared → Prop), Q (.int (g i) s.toks) { s with toks := s.toks + 1 } → wpAny (model X.prog X.w) X.A (f (.int i t)) Q E s) :
   UnR X f (rU fun i => .int (g i)) := by
 intro pins s σ H x v Q I rx h
 obtain ⟨i, rfl, q⟩ := h
 obtain ⟨t, rfl⟩ := rx
 exact rule i t s _ _ ⟨.int (g i), H, I.tok _, ⟨_, rfl⟩, q⟩
theorem Xeg : UnR X (unaryOp .USub) (rU fun i => .int (-i)) := unI fun _ _ _ _ _ q => neg_int q
end
def scal : V → V → Bool
 | .non, .non => true | .non, .int _ => true | .int _, .non => true | .non, .bl _ => true | .bl _, .non => true | .non, .str _ => true | .str _, .non => true
 | .int _, .int _ => true | .bl _, .bl _ => true | .str _, .str _ => true | .byt _, .byt _ => true
 | .int _, .str _ => true | .str _, .int _ => true | .bl _, .str _ => true | .str _, .bl _ => true
 | _, _ => false
def rEq : R2 := fun x y H Q => scal x y = true ∧ Q (.bl (decide (x = y))) H
def rNe : R2 := fun x y H Q => scal x y = true ∧ Q (.bl (!decide (x = y))) H
theorem dec_int {i j : Int} : decide (V.int i = V.int j) = (i == j) := by
 rw [Bool.eq_iff_iff]
 simp
theorem dec_bl {i j : Bool} : decide (V.bl i = V.bl j) = (i == j) := by
 rw [Bool.eq_iff_iff]
 simp
theorem dec_str {i j : Str} : decide (V.str i = V.str j) = (i == j) := by
 rw [Bool.eq_iff_iff]
 simp
theorem dec_byt {i j : Array UInt8} : decide (V.byt i = V.byt j) = (i.toList == j.toList) := by
 rw [Bool.eq_iff_iff]
 cases i
 cases j
 simp
section
variable {X : Cx} {a b c : Expr} {ta tb tc : TE} {pos : Pos}
theorem Xbo {pins : List (Addr × Obj)} {σ : St} {H : Hp} {s : Shared} {Q : VK} {k k' : Bool} (I : Inv X pins σ H s) (q : Q (.bl k) H) (e : k = k') : EP X pins σ Q (.bool k') s := by
 subst e
 exact ⟨.bl k, H, I, rfl, q⟩
theorem Xcw : OpR X (compareOp .Eq) rEq := by
 intro pins s σ H x y v u Q I rx ry h
 obtain ⟨hs, q⟩ := h
 cases x with
 | non =>
   cases rx
   cases y with
   | non => cases ry; exact PySem.EqNone.eq_none_none (Xbo I q (by simp))
   | bl j => cases ry; exact PySem.EqNone.eq_none_bool (Xbo I q (by simp))
   | int j => obtain ⟨t', rfl⟩ := ry; exact PySem.EqNone.eq_none_int (Xbo I q (by simp))
   | str j => obtain ⟨t', rfl⟩ := ry; exact PySem.EqNone.eq_none_str (Xbo I q (by simp))
   | _ => exact absurd (show false = true from hs) Bool.false_ne_true
 | bl i =>
   cases rx
   cases y with
   | non => cases ry; exact PySem.EqNone.eq_bool_none (Xbo I q (by simp))
   | bl j => cases ry; exact eq_bool (Xbo I q dec_bl)
   | str j => obtain ⟨t', rfl⟩ := ry; exact PySem.EqMixed.eq_bool_str (Xbo I q (by simp))
   | _ => exact absurd (show false = true from hs) Bool.false_ne_true
 | int i =>
   obtain ⟨t, rfl⟩ := rx
   cases y with
   | non => cases ry; exact PySem.EqNone.eq_int_none (Xbo I q (by simp))
   | int j => obtain ⟨t', rfl⟩ := ry; exact eq_int (Xbo I q dec_int)
   | str j => obtain ⟨t', rfl⟩ := ry; exact PySem.EqMixed.eq_int_str (Xbo I q (by simp))
   | _ => exact absurd (show false = true from hs) Bool.false_ne_true
 | str i =>
   obtain ⟨t, rfl⟩ := rx
   cases y with
   | non => cases ry; exact PySem.EqNone.eq_str_none (Xbo I q (by simp))
   | bl j => cases ry; exact PySem.EqMixed.eq_str_bool (Xbo I q (by simp))
   | int j => obtain ⟨t', rfl⟩ := ry; exact PySem.EqMixed.eq_str_int (Xbo I q (by simp))
   | str j => obtain ⟨t', rfl⟩ := ry; exact eq_str (Xbo I q dec_str)
   | _ => exact absurd (show false = true from hs) Bool.false_ne_true
 | byt i =>
   obtain ⟨t, rfl⟩ := rx
   cases y with
   | byt j => obtain ⟨t', rfl⟩ := ry; exact PySem.W.eq_bytes (Xbo I q dec_byt)
   | _ => exact absurd (show false = true from hs) Bool.false_ne_true
 | _ => cases y <;> exact absurd (show false = true from hs) Bool.false_ne_true
theorem op_ne : OpR X (compareOp .NotEq) rNe := by
 intro pins s σ H x y v u Q I rx ry h
 obtain ⟨hs, q⟩ := h
 cases x with
 | non =>
   cases rx
   cases y with
   | non => cases ry; exact PySem.EqNone.ne_none_none (Xbo I q (by simp))
   | bl j => cases ry; exact PySem.EqNone.ne_none_bool (Xbo I q (by simp))
   | int j => obtain ⟨t', rfl⟩ := ry; exact PySem.EqNone.ne_none_int (Xbo I q (by simp))
   | str j => obtain ⟨t', rfl⟩ := ry; exact PySem.EqNone.ne_none_str (Xbo I q (by simp))
   | _ => exact absurd (show false = true from hs) Bool.false_ne_true
 | bl i =>
   cases rx
   cases y with
   | non => cases ry; exact PySem.EqNone.ne_bool_none (Xbo I q (by simp))
   | bl j => cases ry; exact ne_bool (Xbo I q (congrArg not dec_bl))
   | str j => obtain ⟨t', rfl⟩ := ry; exact PySem.EqMixed.ne_bool_str (Xbo I q (by simp))
   | _ => exact absurd (show false = true from hs) Bool.false_ne_true
 | int i =>
   obtain ⟨t, rfl⟩ := rx
   cases y with
   | non => cases ry; exact PySem.EqNone.ne_int_none (Xbo I q (by simp))
   | int j => obtain ⟨t', rfl⟩ := ry; exact ne_int (Xbo I q (congrArg not dec_int))
   | str j => obtain ⟨t', rfl⟩ := ry; exact PySem.EqMixed.ne_int_str (Xbo I q (by simp))
   | _ => exact absurd (show false = true from hs) Bool.false_ne_true
 | str i =>
   obtain ⟨t, rfl⟩ := rx
   cases y with
   | non => cases ry; exact PySem.EqNone.ne_str_none (Xbo I q (by simp))
   | bl j => cases ry; exact PySem.EqMixed.ne_str_bool (Xbo I q (by simp))
   | int j => obtain ⟨t', rfl⟩ := ry; exact PySem.EqMixed.ne_str_int (Xbo I q (by simp))
   | str j => obtain ⟨t', rfl⟩ := ry; exact ne_str (Xbo I q (congrArg not dec_str))
   | _ => exact absurd (show false = true from hs) Bool.false_ne_true
 | byt i =>
   obtain ⟨t, rfl⟩ := rx
   cases y with
   | byt j => obtain ⟨t', rfl⟩ := ry; exact PySem.W.ne_bytes (Xbo I q (congrArg not dec_byt))
   | _ => exact absurd (show false = true from hs) Bool.false_ne_true
 | _ => cases y <;> exact absurd (show false = true from hs) Bool.false_ne_true
theorem Xfr : OpR X (compareOp .Lt) (rI0 fun i j => .bl (decide (i < j))) := opB0 fun _ _ _ _ _ _ _ q => lt_int q
theorem op_le : OpR X (compareOp .LtE) (rI0 fun i j => .bl (decide (i ≤ j))) := opB0 fun _ _ _ _ _ _ _ q => le_int q
theorem op_gt : OpR X (compareOp .Gt) (rI0 fun i j => .bl (decide (j < i))) := opB0 fun _ _ _ _ _ _ _ q => gt_int q
theorem op_ge : OpR X (compareOp .GtE) (rI0 fun i j => .bl (decide (j ≤ i))) := opB0 fun _ _ _ _ _ _ _ q => ge_int q
theorem op_isN : OpR X (compareOp .Is) (fun x y H Q => y = .non ∧ Q (.bl (decide (x = .non))) H) := by
 intro pins s σ H x y v u Q I rx ry h
 obtain ⟨rfl, q⟩ := h
 cases ry
 refine is_none_gen (Xbo I q ?_)
 cases x <;> first
   | (cases rx; rfl)
   | (obtain ⟨t, rfl⟩ := rx; rfl)
theorem op_notN : OpR X (compareOp .IsNot) (fun x y H Q => y = .non ∧ Q (.bl (!decide (x = .non))) H) := by
 intro pins s σ H x y v u Q I rx ry h
 obtain ⟨rfl, q⟩ := h
 cases ry
 refine isnot_none_gen (Xbo I q ?_)
 cases x <;> first
   | (cases rx; rfl)
   | (obtain ⟨t, rfl⟩ := rx; rfl)
theorem Xan (b : Expr) {op : CmpOp} (h : op ≠ .In := by decide) (h2 : op ≠ .NotIn := by decide) : behindInMarks op b = false := by
 have e1 : (op == CmpOp.In) = false := by cases op <;> first | rfl | exact absurd rfl h
 have e2 : (op == CmpOp.NotIn) = false := by cases op <;> first | rfl | exact absurd rfl h2
 cases b <;> simp [behindInMarks, e1, e2]
theorem Xcv {op : CmpOp} {r : R2} (ho : OpR X (compareOp op) r) (ha : PE X a ta) (hb : PE X b tb) (hm : behindInMarks op b = false) : PE X (.Compare a [op] [b] pos) (tOp r ta tb) := by
 intro pins s σ H Q I h
 exact wpAny_Compare1 (binT ha hb I h fun v u s2 x y H2 I2 rx ry q => ho pins s2 σ H2 x y v u Q I2 rx ry q) hm
def tTest (t : TE) : TT := fun σ H Q => t σ H fun x H' => ∃ k, x = .bl k ∧ Q k H'
theorem Xal {op : CmpOp} {r : R2} (ho : OpR X (compareOp op) r) (ha : PE X a ta) (hb : PE X b tb) (hm : behindInMarks op b = false) : PT X (.Compare a [op] [b] pos) (tTest (tOp r ta tb)) := by
 intro pins s σ H Q I h
 refine wpAny_isTrue_Compare1 (thn (ha pins s σ H _ I h) fun v s1 ⟨x, H1, I1, r1, q1⟩ => thn (hb pins s1 σ H1 _ I1 q1) fun u s2 ⟨y, H2, I2, r2, q2⟩ =>
   thn (ho pins s2 σ H2 x y v u _ I2 r1 r2 q2) fun c s3 ⟨z, H3, I3, r3, k, e, q3⟩ => ?_) hm
 subst e
 cases r3
 exact wpAny_truthy_bool ⟨H3, I3, q3⟩
def TruV (K : PySem.W.Frag) (x : V) (H : Hp) (k : Bool) : Prop :=
 match x with
 | .non => k = false
 | .bl b => k = b
 | .int i => k = (i != 0)
 | .str y => y.length ≤ sizeLine ∧ k = ((y.length : Int) != 0)
 | .byt y => y.size ≤ sizeLine ∧ k = ((y.size : Int) != 0)
 | .ref p => (∃ xs, SqL K H p xs ∧ k = !xs.isEmpty) ∨ (∃ xs, SqT K H p xs ∧ k = !xs.isEmpty) ∨ ∃ kvs, H p = some (.dK kvs) ∧ k = !kvs.isEmpty
 | _ => False
theorem isEmpty_kv {κ : Type} {kvs : List (κ × V)} {vs : List (κ × Value)} (r : KV kvs vs) : (!vs.isEmpty) = !kvs.isEmpty := by
 cases r <;> rfl
theorem isEmpty_of {xs : List V} {its : List Value} (r : Vals xs its) : (!its.toArray.isEmpty) = !xs.isEmpty := by
 cases r <;> simp
theorem line63 : (sizeLine : Nat) < 2 ^ 63 := by rw [sizeLine_eq]; decide
theorem tru_ok : TruR X (fun x H Q => ∃ k, TruV X.K x H k ∧ Q k H) := by
 intro pins s σ H x v Q I rx h
 obtain ⟨k, e, q⟩ := h
 have hl := line63
 have hs : sizeLine = 16777216 := sizeLine_eq
 cases x with
 | non =>
   cases rx
   have e' : k = false := e
   subst e'
   exact truthy_none ⟨H, I, q⟩
 | bl b =>
   cases rx
   have e' : k = b := e
   subst e'
   exact wpAny_truthy_bool ⟨H, I, q⟩
 | int i =>
   obtain ⟨t, rfl⟩ := rx
   have e' : k = (i != 0) := e
   subst e'
   exact PySem.P.truthy_int ⟨H, I, q⟩
 | str y =>
   obtain ⟨t, rfl⟩ := rx
   obtain ⟨hy, e'⟩ : y.length ≤ sizeLine ∧ k = ((y.length : Int) != 0) := e
   subst e'
   exact PySem.P.truthy_str (by omega) ⟨H, I.tok _, q⟩
 | byt y =>
   obtain ⟨t, rfl⟩ := rx
   obtain ⟨hy, e'⟩ : y.size ≤ sizeLine ∧ k = ((y.size : Int) != 0) := e
   subst e'
   exact PySem.W.truthy_bytes (by omega) ⟨H, I.tok _, q⟩
 | ref p =>
   cases rx
   have e' : (∃ xs, SqL X.K H p xs ∧ k = !xs.isEmpty) ∨ (∃ xs, SqT X.K H p xs ∧ k = !xs.isEmpty) ∨ ∃ kvs, H p = some (.dK kvs) ∧ k = !kvs.isEmpty := e
   rcases e' with ⟨xs, hx, e'⟩ | ⟨xs, hx, e'⟩ | ⟨kvs, hx, e'⟩
   · subst e'
     obtain ⟨its, r, pl, hz⟩ := I.list hx
     have hlen := r.length
     exact wpAny_truthy_list pl.isList (by simp only [List.size_toArray]; omega) ⟨H, I.tok _, by rw [isEmpty_of r]; exact q⟩
   · subst e'
     obtain ⟨its, r, pl, hz⟩ := I.tuple hx
     have hlen := r.length
     exact truthy_tuple pl (by simp only [List.size_toArray]; omega) ⟨H, I.tok _, by rw [isEmpty_of r]; exact q⟩
   · subst e'
     obtain ⟨hz, hS, vs, r, m⟩ : kvs.length ≤ sizeLine ∧ (p == sysModules) = false ∧ ∃ vs, KV kvs vs ∧ s.heap.DictOf (mixKind X.prog X.w) p vs := I.hok p _ hx
     have hlen : kvs.length = vs.length := Paired.length r
     exact wpAny_truthy_dict hS m (by omega) ⟨H, I.tok _, by rw [isEmpty_kv r]; exact q⟩
 | _ => exact (show False from e).elim
theorem Xbm (ha : PE X a ta) (he : ∀ whole, isTrue a X.env whole = (do let v ← whole; standAt a.pos; holding [v] (truthy v))) :
   PT X a (fun σ H Q => ta σ H fun x H' => ∃ k, TruV X.K x H' k ∧ Q k H') := by
 intro pins s σ H Q I h
 exact isTrue_plain (thn (ha pins s σ H _ I h) fun v s1 ⟨x, H1, I1, r1, q1⟩ => tru_ok pins s1 σ H1 x v Q I1 r1 q1) (he _)
theorem vals1 {x : V} {us : List Value} (r : Vals [x] us) : ∃ u, us = [u] ∧ RelV x u := by
 cases r with
 | cons r1 r2 => cases r2; exact ⟨_, rfl, r1⟩
theorem vals2 {x y : V} {us : List Value} (r : Vals [x, y] us) : ∃ u w', us = [u, w'] ∧ RelV x u ∧ RelV y w' := by
 cases r with
 | cons r1 r2 =>
   cases r2 with
   | cons r3 r4 => cases r4; exact ⟨_, _, rfl, r1, r3⟩
theorem call_min2 (hc : X.calm = true) : CallR X (.builtin "min") (fun xs H Q => ∃ i j, xs = [.int i, .int j] ∧ Q (.int (if j < i then j else i)) H) := by
 intro pins s σ H xs us Q I r h
 obtain ⟨i, j, rfl, q⟩ := h
 obtain ⟨u, w', rfl, ⟨t, rfl⟩, ⟨t', rfl⟩⟩ := vals2 r
 refine min_two_ints (I.ok.hd hc) fun h' tk k => ⟨_, H, I.kept k, ?_, q⟩
 by_cases hj : j < i
 · rw [if_pos hj, if_pos hj]; exact ⟨_, rfl⟩
 · rw [if_neg hj, if_neg hj]; exact ⟨_, rfl⟩
end
end L2
namespace L2
open PySem PySem.Spec PyProof.Rows
structure ObjM (h : Heap) (x dx C : Addr) (mA : Str → Option Value) : Prop where
 obj : h.get? x = some (PySem.W.instObj C dx)
 ns : h.Ns1 dx mA
 ne : dx ≠ x
theorem lookIn_ns {h : Heap} {dx : Addr} {mA : Str → Option Value} (n : h.Ns1 dx mA) : ∃ od, h.get? dx = some od ∧ ∀ name, PySem.W.lookIn name od = some (mA name) := by
 obtain ⟨o, es, ep, ho, hd, hk, _, hm⟩ := n
 refine ⟨o, ho, fun name => ?_⟩
 have e := hm name
 unfold nsFind findBy at e
 rw [← Array.find?_toList] at e
 unfold PySem.W.lookIn
 rw [hd]
 dsimp only
 split
 · rename_i y q
   rw [q] at e
   exact congrArg some e
 · rename_i q
   rw [q] at e
   have a : es.toList.any (·.refKey) = false := by
     rw [List.any_eq_false]
     intro y hy
     obtain ⟨z, t, hkey⟩ := hk y (Array.mem_toList_iff.mp hy)
     simp [DictEntry.refKey, hkey]
   have a' : ¬ es.toList.any (·.refKey) = true := by rw [a]; exact Bool.false_ne_true
   rw [if_neg a']
   exact congrArg some e
theorem ObjM.look {h : Heap} {x dx C : Addr} {mA : Str → Option Value} (I : ObjM h x dx C mA) : ∃ od, PySem.W.InstAt h x (PySem.W.instObj C dx) C (some od) ∧ ∀ name, PySem.W.lookIn name od = some (mA name) :=
 let ⟨od, ho, hl⟩ := lookIn_ns I.ns
 ⟨od, ⟨I.obj, rfl, rfl, ho⟩, hl⟩
section
variable {prog : Program} {w : World} {A : Around} {E : Value → Shared → Prop} {s : Shared} {K : PySem.W.Frag} {x dx C f : Addr} {mA : Str → Option Value} {name : Str} {v : Value}
theorem get_map {expr : Bool} {Q : Value → Shared → Prop} (X : K.In s.heap) (I : ObjM s.heap x dx C mA) (hg : PySem.W.plainGet K C name = true) (hh : PySem.W.hasDictIn K C = true)
   (ha : PySem.W.findIn K (.ref C) name = some none) (hv : mA name = some v) (hv' : PySem.W.handedIn v = true) (h : Q v { s with toks := s.toks + 1 }) :
   wpAny (model prog w) A (getAttr (.ref x) name expr) Q E s := by
 obtain ⟨od, J, hl⟩ := I.look
 exact PySem.W.get_value X J (PySem.W.plainGet_of hg).1 (PySem.W.findObj_own hh ha rfl (by rw [hl, hv])) hv' h
theorem get_meth {pl : Sem Bool} {Q : Value × List Value → Shared → Prop} (X : K.In s.heap) (I : ObjM s.heap x dx C mA) (hg : PySem.W.plainGet K C name = true)
   (hf : PySem.W.findIn K (.ref C) name = some (some (.ref f))) (ht : PySem.W.isFn K (.ref f) = true) (hv : mA name = none) (h : Q (.ref f, [.ref x]) s) :
   wpAny (model prog w) A (getMethod (.ref x) name pl) Q E s := by
 obtain ⟨od, J, hl⟩ := I.look
 exact PySem.W.method_fn X J (PySem.W.plainGet_of hg).1 (PySem.W.plainGet_of hg).2 hf (beq_iff_eq.mp ht) (by show (PySem.W.lookIn name od).map (·.isSome) = some false; rw [hl, hv]; rfl) h
theorem set_map {ns : List Str} {Q : Unit → Shared → Prop} (X : K.In s.heap) (I : ObjM s.heap x dx C mA)
   (hs : PySem.W.findIn K (.ref C) "__setattr__" = some (some (.builtin "object.__setattr__"))) (hp : PySem.W.plainOver K C = true) (ht : PySem.W.takerIn K C name = some none) (hh : PySem.W.hasDictIn K C = true)
   (hw : PySem.Within mA ns) (hsz : ns.length ≤ sizeLine)
   (h : ∀ h', ObjM h' x dx C (fun y => if y = name then some v else mA y) → Heap.SameBut dx s.heap h' → Q () { s with heap := h', toks := s.toks + 2 }) :
   wpAny (model prog w) A (setAttr (.ref x) name v) Q E s := by
 obtain ⟨od, J, hl⟩ := I.look
 refine PySem.W.set_plain X J hs (PySem.W.osa_open (s := { s with toks := s.toks + 1 }) (r := none) X J hp ht fun b => ?_)
 obtain ⟨cd, hc, hd'⟩ := PySem.W.any_some hh
 have hx : s.heap.get? x = some ⟨.ref C, some dx, .plain, #[]⟩ := I.obj
 refine wpAny_bind (wpAny_pure (wpAny_bind (wpAny_bind (wpAny_loadPart hx (wpAny_bind (PySem.W.Looks.here (s := { s with toks := s.toks + 1 }) (PySem.W.looks_clsIn X hc) ?_))))))
 rw [hd']
 refine wpAny_pure (a := some dx) (wpAny_bind (wpAny_pure (wpAny_bind ?_)))
 refine wpAny_nsSet1 (s := { s with toks := s.toks + 1 }) I.ns fun h' hn2 hs2 => ?_
 obtain ⟨oD, esD, epD, hoD, hdD, hcD⟩ := hn2.count (PySem.Within.cons name v hw)
 refine wpAny_bind (wpAny_lookBehind hoD (by rw [hdD]; exact pastItsLine_dict (Nat.le_trans hcD (by rw [List.length_cons]; omega))) ?_)
 exact wpAny_pure (h _ ⟨(hs2.2 _ (Ne.symm I.ne)).trans I.obj, hn2, I.ne⟩ hs2)
theorem make_map {R : Result → Shared → Prop} {vs : List Value} {kw : List (Str × Value)} (X : K.In s.heap) (hm : PySem.W.makesIn K C = true)
   (hi : PySem.W.findIn K (.ref C) "__init__" = some (some (.ref f))) (hf : PySem.W.typeIn K (.ref f) = some (.type "function"))
   (h : codeAny (model prog w) (A.under (.builtin "type.__call__" ⟨.ref C :: vs, kw⟩)) (.call (.ref f) ⟨.ref (s.heap.objs.size + 1) :: vs, kw⟩) (PySem.W.InitBack (s.heap.objs.size + 1) R)
     { s with heap := (s.heap.push PySem.W.emptyDict).push (PySem.W.instObj C s.heap.objs.size) }) :
   codeAny (model prog w) A (.call (.ref C) ⟨vs, kw⟩) R s := by
 obtain ⟨hh, g, d, t, os⟩ := s
 exact PySem.W.make_core (PySem.W.makes_of X hm) (PySem.W.looks_findIn X hi) (fun self => PySem.W.bind_fn X self hf) (.inl rfl) h
end
def putF (f : Str) (v : V) : List (Str × V) → List (Str × V)
 | [] => [(f, v)]
 | (g, x) :: r => if g = f then (g, v) :: r else (g, x) :: putF f v r
theorem lookup_putF (f g : Str) (v : V) : ∀ fs : List (Str × V), (putF f v fs).lookup g = if g = f then some v else fs.lookup g
 | [] => by
   show List.lookup g [(f, v)] = _
   by_cases h : g = f
   · have hb : (g == f) = true := beq_iff_eq.mpr h
     simp only [List.lookup, hb, if_pos h]
   · have hb : (g == f) = false := beq_eq_false_iff_ne.mpr h
     simp only [List.lookup, hb, if_neg h]
 | (k, x) :: r => by
   have ih := lookup_putF f g v r
   rw [show putF f v ((k, x) :: r) = (if k = f then (k, v) :: r else (k, x) :: putF f v r) from rfl]
   by_cases hk : k = f
   · rw [if_pos hk]
     by_cases h : g = k
     · have hb : (g == k) = true := beq_iff_eq.mpr h
       simp only [List.lookup, hb, if_pos (h.trans hk)]
     · have hb : (g == k) = false := beq_eq_false_iff_ne.mpr h
       simp only [List.lookup, hb, if_neg (fun e : g = f => h (e.trans hk.symm))]
   · rw [if_neg hk]
     by_cases h : g = k
     · have hb : (g == k) = true := beq_iff_eq.mpr h
       simp only [List.lookup, hb, if_neg (fun e : g = f => hk (h.symm.trans e))]
     · have hb : (g == k) = false := beq_eq_false_iff_ne.mpr h
       simp only [List.lookup, hb]
       exact ih
theorem keys_putF (f : Str) (v : V) : ∀ fs : List (Str × V), f ∈ (putF f v fs).map (·.1) ∧ ∀ g, g ∈ fs.map (·.1) → g ∈ (putF f v fs).map (·.1)
 | [] => ⟨by simp [putF], fun g h => by simp at h⟩
 | (k, x) :: r => by
   obtain ⟨i1, i2⟩ := keys_putF f v r
   rw [show putF f v ((k, x) :: r) = (if k = f then (k, v) :: r else (k, x) :: putF f v r) from rfl]
   by_cases hk : k = f
   · rw [if_pos hk]
     subst hk
     exact ⟨by simp, fun g h => by simpa using h⟩
   · rw [if_neg hk]
     refine ⟨?_, fun g h => ?_⟩
     · rw [List.map_cons]
       exact List.mem_cons_of_mem _ i1
     · rw [List.map_cons] at h ⊢
       rcases List.mem_cons.mp h with e | e
       · exact List.mem_cons.mpr (.inl e)
       · exact List.mem_cons_of_mem _ (i2 g e)
theorem length_putF (f : Str) (v : V) : ∀ fs : List (Str × V), (putF f v fs).length ≤ fs.length + 1
 | [] => by simp [putF]
 | (k, x) :: r => by
   have ih := length_putF f v r
   rw [show putF f v ((k, x) :: r) = (if k = f then (k, v) :: r else (k, x) :: putF f v r) from rfl]
   by_cases hk : k = f
   · rw [if_pos hk, List.length_cons, List.length_cons]; omega
   · rw [if_neg hk, List.length_cons, List.length_cons]; omega
theorem RelO.some_of {v : V} {o : Option Value} (r : RelO (some v) o) : ∃ u, o = some u ∧ RelV v u := by
 cases o with
 | none => exact (show False from r).elim
 | some u => exact ⟨u, rfl, r⟩
theorem RelO.none_of {o : Option Value} (r : RelO none o) : o = none := by
 cases o with
 | none => rfl
 | some u => exact (show False from r).elim
theorem handed_of {v : V} {u : Value} (r : RelV v u) : PySem.W.handedIn u = true := by
 cases v with
 | non => cases (show u = Value.none from r); rfl
 | bl b => cases (show u = Value.bool b from r); rfl
 | int i => obtain ⟨t, e⟩ := (show ∃ t, u = Value.int i t from r); cases e; rfl
 | str x => obtain ⟨t, e⟩ := (show ∃ t, u = Value.str x t from r); cases e; rfl
 | byt b => obtain ⟨t, e⟩ := (show ∃ t, u = Value.bytes b t from r); cases e; rfl
 | flt b => obtain ⟨t, e⟩ := (show ∃ t, u = Value.float b t from r); cases e; rfl
 | ref a => cases (show u = Value.ref a from r); rfl
 | ty n => cases (show u = Value.type n from r); rfl
section
variable {P : Program} {w : World} {H H' : Hp} {h h' : Heap} {a C dx : Addr} {fs fs' : List (Str × V)}
theorem ins_get (hok : HOk P w H h) (e : H a = some (.ins C dx fs)) : ∃ mA, ObjM h a dx C mA ∧ (∀ f, RelO (fs.lookup f) (mA f)) ∧ PySem.Within mA (fs.map (·.1)) ∧ fs.length ≤ 1000 ∧ H dx = some (.own a) := by
 obtain ⟨d, z, ne, ob, mA, n, r, q⟩ := (show Xea P w H h a (.ins C dx fs) from hok a _ e)
 exact ⟨mA, ⟨ob, n, ne⟩, r, q, z, d⟩
end
structure Cls (K : PySem.W.Frag) (C : Addr) : Prop where
 pg : PySem.W.plainGet K C Str.empty = true
 hd : PySem.W.hasDictIn K C = true
 po : PySem.W.plainOver K C = true
 sa : PySem.W.findIn K (.ref C) "__setattr__" = some (some (.builtin "object.__setattr__"))
theorem Cls.get {K : PySem.W.Frag} {C : Addr} (c : Cls K C) (f : Str) : PySem.W.plainGet K C f = true := c.pg
def Xdp (K : PySem.W.Frag) (C : Addr) (f : Str) : Prop := PySem.W.findIn K (.ref C) f = some none
theorem Xdp.taker {K : PySem.W.Frag} {C : Addr} {f : Str} (n : Xdp K C f) : PySem.W.takerIn K C f = some none := by
 unfold PySem.W.takerIn
 rw [show PySem.W.findIn K (.ref C) f = some none from n]
 rfl
structure Con (K : PySem.W.Frag) (C : Addr) (f : Str) (v : V) (u : Value) : Prop where
 at_ : PySem.W.findIn K (.ref C) f = some (some u)
 rel : RelV v u
 get : PySem.W.specialIn K u "__get__" = some none
 cp : PySem.W.copiedNames.contains f = false
structure Meth (K : PySem.W.Frag) (C : Addr) (m : Str) (f : Addr) : Prop where
 at_ : PySem.W.findIn K (.ref C) m = some (some (.ref f))
 fn : PySem.W.isFn K (.ref f) = true
 kp : PySem.W.keepIn K (.ref f) = true
section
variable {X : Cx} {pins : List (Addr × Obj)} {σ : St} {H : Hp} {s : Shared} {a C dx : Addr} {fs : List (Str × V)} {f : Str} {v : V} {A : Around} {E : Value → Shared → Prop}
theorem getattr_ok {b : Bool} {Q : Value → Shared → Prop} (I : Inv X pins σ H s) (e : H a = some (.ins C dx fs)) (c : Cls X.K C) (n : Xdp X.K C f) (l : fs.lookup f = some v)
   (h : ∀ u s', Inv X pins σ H s' → RelV v u → Q u s') : wpAny (model X.prog X.w) A (getAttr (.ref a) f b) Q E s := by
 obtain ⟨mA, O, r, _, _, _⟩ := ins_get I.hok e
 obtain ⟨u, hu, ru⟩ := RelO.some_of (v := v) (o := mA f) (by rw [← l]; exact r f)
 exact get_map I.kIn O (c.get f) c.hd n hu (handed_of ru) (h u _ (I.tok _) ru)
theorem Xfb {m : Str} {g : Addr} {pl : Sem Bool} {Q : Value × List Value → Shared → Prop} (I : Inv X pins σ H s) (e : H a = some (.ins C dx fs)) (c : Cls X.K C) (k : Meth X.K C m g) (l : fs.lookup m = none)
   (h : Q (.ref g, [.ref a]) s) : wpAny (model X.prog X.w) A (getMethod (.ref a) m pl) Q E s := by
 obtain ⟨mA, O, r, _, _, _⟩ := ins_get I.hok e
 have hn : mA m = none := RelO.none_of (by rw [← l]; exact r m)
 exact get_meth I.kIn O (c.get m) k.at_ k.fn hn h
theorem setattr_ok {y : V} {u : Value} {Q : Unit → Shared → Prop} (I : Inv X pins σ H s) (e : H a = some (.ins C dx fs)) (c : Cls X.K C) (n : Xdp X.K C f) (hl : fs.length < 1000) (ry : RelV y u)
   (h : ∀ s', Inv X pins σ (upd H a (.ins C dx (putF f y fs))) s' → Q () s') : wpAny (model X.prog X.w) A (setAttr (.ref a) f u) Q E s := by
 obtain ⟨mA, O, r, wi, _, ho⟩ := ins_get I.hok e
 have hz : (fs.map (·.1)).length ≤ sizeLine := by rw [List.length_map, sizeLine_eq]; omega
 refine set_map I.kIn O c.sa c.po n.taker c.hd wi hz fun h' O' sb => h _ ?_
 have hd : ∃ o, h'.get? dx = some o := let ⟨o, _, _, e', _⟩ := O'.ns; ⟨o, e'⟩
 refine I.write (x := a) (e := dx) (by rw [e]; exact True.intro) (.inr ho) (fun b q hb z => (sb.2 b hb).trans z) hd ?_
 refine ⟨by rw [Xav O.ne]; exact ho, ?_, O.ne, O'.obj, _, O'.ns, fun g => ?_, fun g hg => ?_⟩
 · have := length_putF f y fs; omega
 · show RelO ((putF f y fs).lookup g) (if g = f then some u else mA g)
   rw [lookup_putF]
   by_cases q : g = f
   · rw [if_pos q, if_pos q]; exact ry
   · rw [if_neg q, if_neg q]; exact r g
 · by_cases q : g = f
   · rw [q]; exact (keys_putF f y fs).1
   · refine (keys_putF f y fs).2 g (wi g fun z => hg ?_)
     show (if g = f then some u else mA g) = none
     rw [if_neg q]; exact z
theorem Inv.made (I : Inv X pins σ H s) : Inv X pins σ (upd (upd H s.heap.objs.size (.own (s.heap.objs.size + 1))) (s.heap.objs.size + 1) (.ins C s.heap.objs.size []))
   { s with heap := (s.heap.push PySem.W.emptyDict).push (PySem.W.instObj C s.heap.objs.size) } := by
 have e1 : (s.heap.push PySem.W.emptyDict).get? s.heap.objs.size = some PySem.W.emptyDict := Heap.get?_push_size s.heap rfl
 have e2 : ((s.heap.push PySem.W.emptyDict).push (PySem.W.instObj C s.heap.objs.size)).get? (s.heap.objs.size + 1) = some (PySem.W.instObj C s.heap.objs.size) := by
   have := Heap.get?_push_size (s.heap.push PySem.W.emptyDict) (o := PySem.W.instObj C s.heap.objs.size) rfl
   rwa [Heap.size_push] at this
 have e3 : (s.heap.push PySem.W.emptyDict).Ns s.heap.objs.size (fun _ => none) := ⟨PySem.W.emptyDict, #[], _, e1, rfl, (fun e he => absurd he (by simp)), fun _ => rfl⟩
 have I1 := I.laid (a := s.heap.objs.size) (o := .own (s.heap.objs.size + 1)) (h' := s.heap.push PySem.W.emptyDict) (t' := s.toks) (fun b u q => Heap.get?_push_of_some _ q) (Nat.le_refl _) ⟨_, e1⟩
 refine I1.laid (a := s.heap.objs.size + 1) (o := .ins C s.heap.objs.size []) (t' := s.toks) (fun b u q => Heap.get?_push_of_some _ q) (Nat.le_of_eq (Heap.size_push _ _)) ?_
 have ne : s.heap.objs.size ≠ s.heap.objs.size + 1 := Nat.ne_of_lt (Nat.lt_succ_self _)
 refine ⟨by rw [Xav ne, upd_same], Nat.zero_le _, ne, e2, fun _ => none, (Heap.Ns1.of_empty e3).at fun o q => Heap.get?_push_of_some _ q, fun _ => True.intro, fun y hy => absurd rfl hy⟩
theorem attr_of {prog : Program} {w : World} {env : Env} {e : Expr} {f : Str} {pos : Pos} {s : Shared} {Q : Value → Shared → Prop} (hb : attributeBase e f env (eval e env) = eval e env)
   (h : wpAny (model prog w) A (eval e env) (fun o s₁ => wpAny (model prog w) A (getAttr o f true) Q E s₁) E s) : wpAny (model prog w) A (eval (.Attribute e f pos) env) Q E s :=
 Attribute_any_ h (by rw [arm_eval_Attribute, hb])
end
def tFld (K : PySem.W.Frag) (ta : TE) (f : Str) : TE := fun σ H Q => ta σ H fun x H1 => ∃ a C dx fs v, x = .ref a ∧ H1 a = some (.ins C dx fs) ∧ Cls K C ∧ Xdp K C f ∧ fs.lookup f = some v ∧ Q v H1
def sFld (K : PySem.W.Frag) (ta tv : TE) (f : Str) : TS := fun D σ H => tv σ H fun y H1 => ta σ H1 fun x H2 => ∃ a C dx fs, x = .ref a ∧ H2 a = some (.ins C dx fs) ∧ Cls K C ∧ Xdp K C f ∧ fs.length < 1000 ∧
 D.nx σ (upd H2 a (.ins C dx (putF f y fs)))
section
variable {X : Cx} {o e value : Expr} {f : Str} {pos pos' tpos : Pos} {ta tv : TE}
theorem Xcx (he : PE X e ta) (hb : attributeBase e f X.env (eval e X.env) = eval e X.env) : PE X (.Attribute e f pos) (tFld X.K ta f) := by
 intro pins s σ H Q I h
 refine attr_of hb (thn (he pins s σ H _ I h) fun u s1 ⟨x, H1, I1, rx, a, C, dx, fs, v, ex, ea, c, n, l, q⟩ => ?_)
 subst ex
 obtain rfl : u = Value.ref a := rx
 exact getattr_ok I1 ea c n l fun u' s2 I2 ru => ⟨v, H1, I2, ru, q⟩
theorem Xfl (ha : PE X o ta) (hv : PE X value tv) (hs : swapsWith value (some (.Attribute o f pos')) pos.line X.env = pure false) : PS X (.Assign [.Attribute o f pos'] value pos) (sFld X.K ta tv f) := by
 intro pins s σ H D I h
 refine plainObj_wpAny_Assign_Attribute (thn (hv pins s σ H _ I h) fun u s1 ⟨y, H1, I1, ry, q⟩ => thn (ha pins s1 σ H1 _ I1 q) fun ov s2 ⟨x, H2, I2, rx, a, C, dx, fs, ex, ea, c, n, l, q2⟩ => ?_) hs
 subst ex
 obtain rfl : ov = Value.ref a := rx
 exact setattr_ok I2 ea c n l ry fun s3 I3 => ⟨σ, _, I3, q2⟩
theorem methcall_of {pl : Sem Bool} {m : Str} {apos : Pos} {args : List Expr} {pins : List (Addr × Obj)} {s : Shared} {σ : St} {H : Hp} {Q : Value → Shared → Prop} {te : TE} (he : PE X e te) (I : Inv X pins σ H s)
   (h : te σ H fun x H1 => ∃ a C dx fs g, x = .ref a ∧ H1 a = some (.ins C dx fs) ∧ Cls X.K C ∧ Meth X.K C m g ∧ fs.lookup m = none ∧
     ∀ s1, Inv X pins σ H1 s1 → wpAny (model X.prog X.w) X.A (callWith pos (.ref g) [.ref a] (backTo pos (starEach args X.env)) (backToKw pos (keywordEach [] X.env))) Q X.xe s1)
   (ht : eval (.Call (.Attribute e m apos) args [] pos) X.env = (do
     let ov ← eval e X.env
     standAt apos.atName
     let (f, first) ← holding [ov] (getMethod ov m pl)
     callWith pos f first (backTo pos (starEach args X.env)) (backToKw pos (keywordEach [] X.env)))) :
   wpAny (model X.prog X.w) X.A (eval (.Call (.Attribute e m apos) args [] pos) X.env) Q X.xe s := by
 refine PySem.W.methodCall_KW (pl := pl) (thn (he pins s σ H _ I h) fun u s1 ⟨x, H1, I1, rx, a, C, dx, fs, g, ex, ea, c, k, l, q⟩ => ?_) ht
 subst ex
 obtain rfl : u = Value.ref a := rx
 exact Xfb I1 ea c k l (q s1 I1)
end
section
variable {X : Cx} {pins : List (Addr × Obj)} {σ : St} {H : Hp} {s : Shared} {A : Around} {E : Value → Shared → Prop} {Q : Value → Shared → Prop} {c : Value} {b : Bool}
inductive TyOf (K : PySem.W.Frag) (H : Hp) : V → Value → Prop where
 | non : TyOf K H .non (.type "NoneType")
 | bl (x : Bool) : TyOf K H (.bl x) (.type "bool")
 | int (i : Int) : TyOf K H (.int i) (.type "int")
 | str (x : Str) : TyOf K H (.str x) (.type "str")
 | flt (x : UInt64) : TyOf K H (.flt x) (.type "float")
 | lst {a : Addr} {xs : List V} (e : H a = some (.lst xs)) : TyOf K H (.ref a) (.type "list")
 | frz {a : Addr} {o : Obj} {xs : List V} (e : H a = some (.frz o (.lst xs))) : TyOf K H (.ref a) (.type "list")
 | tup {a : Addr} {xs : List V} (e : H a = some (.tup xs)) : TyOf K H (.ref a) (.type "tuple")
 | dK {a : Addr} {kvs : List (Key × V)} (e : H a = some (.dK kvs)) : TyOf K H (.ref a) (.type "dict")
 | dT {a : Addr} {kvs : List (List Key × V)} (e : H a = some (.dT kvs)) : TyOf K H (.ref a) (.type "dict")
 | ins {a C dx : Addr} {fs : List (Str × V)} (e : H a = some (.ins C dx fs)) (cl : Cls K C) (ha : PySem.W.findIn K (.ref C) "__class__" = some (some (.builtin "object.__class__")))
     (hn : PySem.W.specialIn K (.builtin "object.__class__") "__get__" = some (some (.builtin "getset_descriptor.__get__"))) (htk : PySem.W.takesIn K (.builtin "object.__class__") = some true)
     (hm : PySem.W.mroIn K C (.type "object") = some true) : TyOf K H (.ref a) (.ref C)
theorem isinst_ok {x : V} {u t : Value} (I : Inv X pins σ H s) (rx : RelV x u) (ty : TyOf X.K H x t) (e : PySem.W.kitOne X.K t c = some b) (h : ∀ tk, Q (.bool b) { s with toks := tk }) :
   wpAny (model X.prog X.w) A (call (.builtin "isinstance") [u, c]) Q E s := by
 cases ty with
 | non => cases (show u = Value.none from rx); exact PySem.W.kia_one PySem.W.kitx_none I.kIn True.intro e (fun z => nomatch z) h
 | bl y => cases (show u = Value.bool y from rx); exact PySem.W.kia_one PySem.W.kitx_bool I.kIn True.intro e (fun z => nomatch z) h
 | int i => obtain ⟨t, q⟩ := (show ∃ t, u = Value.int i t from rx); cases q; exact PySem.W.kia_one PySem.W.kitx_int I.kIn True.intro e (fun z => nomatch z) h
 | str y => obtain ⟨t, q⟩ := (show ∃ t, u = Value.str y t from rx); cases q; exact PySem.W.kia_one PySem.W.kitx_str I.kIn True.intro e (fun z => nomatch z) h
 | flt y => obtain ⟨t, q⟩ := (show ∃ t, u = Value.float y t from rx); cases q; exact PySem.W.kia_one PySem.W.kitx_float I.kIn True.intro e (fun z => nomatch z) h
 | @lst a xs ea =>
   cases (show u = Value.ref a from rx)
   obtain ⟨_, _, n, _, h1⟩ := (show Xea X.prog X.w H s.heap a (.lst xs) from I.hok a _ ea)
   exact PySem.W.kia_one PySem.W.kitx_list I.kIn ⟨_, h1, rfl⟩ e (fun z => nomatch z) h
 | @frz a ob xs ea =>
   cases (show u = Value.ref a from rx)
   obtain ⟨_, _, _, n, _, h1⟩ := (show Xea X.prog X.w H s.heap a (.frz ob (.lst xs)) from I.hok a _ ea)
   exact PySem.W.kia_one PySem.W.kitx_list I.kIn ⟨_, h1, rfl⟩ e (fun z => nomatch z) h
 | @tup a xs ea =>
   cases (show u = Value.ref a from rx)
   obtain ⟨_, _, _, p⟩ := (show Xea X.prog X.w H s.heap a (.tup xs) from I.hok a _ ea)
   obtain ⟨o, h1, h2, _⟩ := p
   exact PySem.W.kia_one PySem.W.kitx_tuple I.kIn ⟨o, h1, h2⟩ e (fun z => nomatch z) h
 | @dK a kvs ea =>
   cases (show u = Value.ref a from rx)
   obtain ⟨_, _, vs, _, p⟩ := (show Xea X.prog X.w H s.heap a (.dK kvs) from I.hok a _ ea)
   obtain ⟨o, es, ep, h1, h2, _⟩ := p
   exact PySem.W.kia_one PySem.W.kitx_dict I.kIn ⟨o, h1, h2.1⟩ e (fun z => nomatch z) h
 | @dT a kvs ea =>
   cases (show u = Value.ref a from rx)
   obtain ⟨_, _, xs, _, o, es, ep, h1, h2, _⟩ := (show Xea X.prog X.w H s.heap a (.dT kvs) from I.hok a _ ea)
   exact PySem.W.kia_one PySem.W.kitx_dict I.kIn ⟨o, h1, h2.1⟩ e (fun z => nomatch z) h
 | @ins a C dx fs ea cl ha hn htk hm =>
   cases (show u = Value.ref a from rx)
   obtain ⟨mA, O, _⟩ := ins_get I.hok ea
   obtain ⟨od, J, _⟩ := O.look
   exact PySem.W.kia_one (PySem.W.kitx_own (cl.get _) cl.hd ha hn htk hm) I.kIn J e (fun z => nomatch z) h
end
end L2
namespace L2
open PySem PySem.Spec PyProof.Rows
structure Room (k : Nat) (A : Around) : Prop where
 hd : A.handled = none
 dp : A.depth + 3 * k + 5 < recursionLimit
 un : A.units + 16 * k + 200 < cLine
theorem Room.mono {j k : Nat} {A : Around} (r : Room k A) (h : j ≤ k) : Room j A := ⟨r.hd, by have := r.dp; omega, by have := r.un; omega⟩
theorem Room.deeper {k : Nat} {A : Around} (r : Room (k + 1) A) (env : Env) : Room k (A.deeper env) :=
 ⟨r.hd, by have := r.dp; show A.depth + 1 + 3 * k + 5 < _; omega, by have := r.un; show A.units + 3 + 16 * k + 200 < _; omega⟩
theorem Room.in1 {k : Nat} {A : Around} (r : Room (k + 1) A) : Room k A.in1 :=
 ⟨r.hd, by have := r.dp; show A.depth + 3 * k + 5 < _; omega, by have := r.un; show A.units + 1 + 16 * k + 200 < _; omega⟩
theorem make_depth {A : Around} {C : Addr} {us : List Value} {kw : List (Str × Value)} : (A.under (.builtin "type.__call__" ⟨.ref C :: us, kw⟩)).depth = A.depth + 1 := by
 first | rfl | simp [Around.under, Code.weight, Code.isCreation, Code.isGuard, Code.isCaller, Code.frames, Code.isFrame, guardIds]
theorem make_units {A : Around} {C : Addr} {us : List Value} {kw : List (Str × Value)} : (A.under (.builtin "type.__call__" ⟨.ref C :: us, kw⟩)).units = A.units + 1 := by
 first | rfl | simp [Around.under, Code.cUnits, Code.frames, Code.isFrame]
theorem Room.make {k : Nat} {A : Around} (r : Room (k + 1) A) (C : Addr) (us : List Value) (kw : List (Str × Value)) : Room k (A.under (.builtin "type.__call__" ⟨.ref C :: us, kw⟩)) :=
 ⟨r.hd, by have := r.dp; rw [make_depth]; omega, by have := r.un; rw [make_units]; omega⟩
theorem Room.depth {k : Nat} {A : Around} (r : Room k A) : A.depth < recursionLimit := by have := r.dp; omega
theorem Room.units {k : Nat} {A : Around} (r : Room k A) : A.units + 64 < cLine := by have := r.un; omega
def tNil : TA := fun _ H Q => Q [] H
def tCons (ta : TE) (tr : TA) : TA := fun σ H Q => ta σ H fun x H1 => tr σ H1 fun xs H2 => Q (x :: xs) H2
section
variable {X : Cx} {e : Expr} {es : List Expr} {te : TE} {t : TA} {pos : Pos}
theorem Xag : PA X [] tNil := fun _ _ _ _ H Q I h => Calls.spliced_nil ⟨[], H, I, .nil, h⟩
theorem Xaa (ha : PE X e te) (hr : PA X es t) (hs : starEach (e :: es) X.env = (false, eval e X.env) :: starEach es X.env := by rfl) : PA X (e :: es) (tCons te t) := by
 intro pos pins s σ H Q I h
 rw [hs]
 show wpAny _ _ (spliced ((false, eval e X.env) :: backTo pos (starEach es X.env))) _ _ s
 refine Calls.spliced_cons (thn (ha pins s σ H _ I h) fun u s1 ⟨x, H1, I1, r1, q1⟩ => ?_)
 exact thn (hr pos pins s1 σ H1 _ I1 q1) fun us s2 ⟨xs, H2, I2, r2, q2⟩ => ⟨x :: xs, H2, I2, .cons r1 r2, q2⟩
def tTup (t : TA) : TE := fun σ H Q => t σ H fun xs H1 => xs.length ≤ sizeLine ∧ ∀ p, H1 p = none → Q (.ref p) (upd H1 p (.tup xs))
def tLst (t : TA) : TE := fun σ H Q => t σ H fun xs H1 => xs.length ≤ sizeLine ∧ ∀ p, H1 p = none → Q (.ref p) (upd H1 p (.lst xs))
theorem Xci {x1} (h : PA X es t) : PE X (.Tuple es x1 pos) (tTup t) := by
 intro pins s σ H Q I hq
 refine wpAny_Tuple_spliced (thn (h pos pins s σ H _ I hq) fun us s1 ⟨xs, H1, I1, r, z, q⟩ => ⟨by rw [← r.length]; exact z, ?_⟩)
 have hf : H1 s1.heap.objs.size = none := I1.hok.fresh (Nat.le_refl _)
 refine ⟨.ref s1.heap.objs.size, upd H1 s1.heap.objs.size (.tup xs), I1.laid (t' := s1.toks) (fun b u e => Heap.get?_push_of_some _ e) (Nat.le_refl _) ?_, rfl, q _ hf⟩
 exact ⟨z, us, r, ⟨_, Heap.get?_push_size _ rfl, rfl, _, rfl⟩⟩
theorem Xdi (h : PA X es t) : PE X (.List es pos) (tLst t) := by
 intro pins s σ H Q I hq
 refine wpAny_List_spliced (thn (h pos pins s σ H _ I hq) fun us s1 ⟨xs, H1, I1, r, z, q⟩ => ⟨by rw [← r.length]; exact z, ?_⟩)
 have hf : H1 s1.heap.objs.size = none := I1.hok.fresh (Nat.le_refl _)
 refine ⟨.ref s1.heap.objs.size, upd H1 s1.heap.objs.size (.lst xs), I1.laid (t' := s1.toks) (fun b u e => Heap.get?_push_of_some _ e) (Nat.le_refl _) ?_, rfl, q _ hf⟩
 exact ⟨z, us, 0, r, Heap.get?_push_size _ rfl⟩
end
abbrev Sp := List V → Hp → VK → XK → Prop
abbrev CXT := List Env → Hp → Shared → XK → Value → Shared → Prop
structure Env0 (P : Program) (w : World) (K : PySem.W.Frag) (mg : Str → Option Value) (base : Heap) (A : Around) (outer : List Env) (s : Shared) (H : Hp) : Prop where
 frames : A.frames = some outer
 mod : Mod K mg base
 bs : ∀ b o, base.get? b = some o → s.heap.get? b = some o ∧ H b = none
 bsz : base.objs.size ≤ s.heap.objs.size
 funs : s.heap.FunFrames base outer
 frf : ∀ b ∈ frs outer, H b = none
 hok : HOk P w H s.heap
 bare : AllBare s.gens
def CE (outer : List Env) (P : Program) (w : World) (H : Hp) (s : Shared) (Q : VK) (u : Value) (s' : Shared) : Prop :=
 ∃ v H', s'.os = s.os ∧ AllBare s'.gens ∧ Un (frs outer) [] H H' s.heap s'.heap ∧ HOk P w H' s'.heap ∧ RelV v u ∧ Q v H'
def CR (CX : CXT) (outer : List Env) (P : Program) (w : World) (H : Hp) (s : Shared) (Q : VK) (E : XK) (r : Result) (s' : Shared) : Prop :=
 match r with
 | .ok (.ret u) => CE outer P w H s Q u s'
 | .ok _ => False
 | .error e => CX outer H s E e s'
structure FnOk (P : Program) (w : World) (K : PySem.W.Frag) (mg : Str → Option Value) (base : Heap) (CX : CXT) (k : Nat) (f : Addr) (fd : FuncData) (ps : List Str) (sp : Sp) : Prop where
 len : ∀ vs H Q E, sp vs H Q E → vs.length = ps.length
 run : ∀ (A : Around) (outer : List Env) (s : Shared) (H : Hp) (args : Args) (us : List Value) (vs : List V) (Q : VK) (E : XK), Room k A → Env0 P w K mg base A outer s H → BindsTo s fd args (ps.zip us) → Vals vs us → sp vs H Q E →
   codeAny (model P w) A (.call (.ref f) args) (CR CX outer P w H s Q E) s
theorem FnOk.mono {P : Program} {w : World} {K : PySem.W.Frag} {mg : Str → Option Value} {base : Heap} {CX : CXT} {j k : Nat} {f : Addr} {fd : FuncData} {ps : List Str} {sp : Sp} (F : FnOk P w K mg base CX j f fd ps sp) (h : j ≤ k) :
   FnOk P w K mg base CX k f fd ps sp := ⟨F.len, fun A outer s H args us vs Q E hr => F.run A outer s H args us vs Q E (hr.mono h)⟩
theorem Env0.make {P : Program} {w : World} {K : PySem.W.Frag} {mg : Str → Option Value} {base : Heap} {A : Around} {outer : List Env} {s : Shared} {H : Hp} (e : Env0 P w K mg base A outer s H) (C : Addr) (us : List Value) (kw : List (Str × Value)) :
   Env0 P w K mg base (A.under (.builtin "type.__call__" ⟨.ref C :: us, kw⟩)) outer s H := ⟨by first | exact e.frames | (simpa [Around.under, Code.envs, Code.isFrame, pushEnvs] using e.frames), e.mod, e.bs, e.bsz, e.funs, e.frf, e.hok, e.bare⟩
theorem Env0.in1 {P : Program} {w : World} {K : PySem.W.Frag} {mg : Str → Option Value} {base : Heap} {A : Around} {outer : List Env} {s : Shared} {H : Hp} (e : Env0 P w K mg base A outer s H) :
   Env0 P w K mg base A.in1 outer s H := ⟨e.frames, e.mod, e.bs, e.bsz, e.funs, e.frf, e.hok, e.bare⟩
section
variable {X : Cx} {pins : List (Addr × Obj)} {σ : St} {H : Hp} {s s' : Shared}
theorem Inv.env0 (I : Inv X pins σ H s) : Env0 X.prog X.w X.K X.mg X.base X.A X.stack s H :=
 ⟨I.ok.frames, I.ok.mod, I.bs, Nat.le_trans I.ok.bsz I.sz, I.stack, I.stkFree, I.hok, I.bare⟩
theorem Inv.after {Q : VK} {u : Value} (I : Inv X pins σ H s) (h : CE X.stack X.prog X.w H s Q u s') : EP X pins σ Q u s' := by
 obtain ⟨v, H', os, bare, un, hok, r, q⟩ := h
 obtain ⟨hh, g, d, t, os'⟩ := s'
 obtain rfl : os' = s.os := os
 exact ⟨v, H', I.call (h' := hh) (g' := g) (d' := d) (t' := t) (ch := []) un hok bare (fun b z => absurd z (by simp)), r, q⟩
end
def tCall (sp : Sp) (dvs : List V) (E : XK) (t : TA) : TE := fun σ H Q => t σ H fun vs H1 => sp (vs ++ dvs) H1 Q E
def tMeth (C : Addr) (m : Str) (sp : Sp) (dvs : List V) (E : XK) (ta : TE) (t : TA) : TE := fun σ H Q => ta σ H fun x H1 => ∃ a dx fs, x = .ref a ∧ H1 a = some (.ins C dx fs) ∧ fs.lookup m = none ∧
 t σ H1 fun vs H2 => sp (x :: (vs ++ dvs)) H2 Q E
def tMake (C : Addr) (sp : Sp) (dvs : List V) (E : XK) (t : TA) : TE := fun σ H Q => t σ H fun vs H1 => ∀ x dx, H1 x = none → H1 dx = none → dx ≠ x →
 sp (.ref x :: (vs ++ dvs)) (upd (upd H1 dx (.own x)) x (.ins C dx [])) (fun v H2 => v = .non ∧ Q (.ref x) H2) E
def Xdc (K : PySem.W.Frag) (fd : FuncData) (ps : List Str) (ds : List Value) : Prop :=
 ∀ (s : Shared) (us : List Value), K.In s.heap → (us ++ ds).length = ps.length → BindsTo s fd ⟨us, []⟩ (ps.zip (us ++ ds))
theorem Xdc.all {K : PySem.W.Frag} {fd : FuncData} {ps : List Str} (h : ∀ us : List Value, us.length = ps.length → bindArgs fd ⟨us, []⟩ = pure (ps.zip us)) : Xdc K fd ps [] := fun s us _ hl => by
 rw [List.append_nil] at hl ⊢
 exact .of_eq (h us hl)
def Xef (CX : CXT) (X : Cx) (E : XK) : Prop := ∀ (pins : List (Addr × Obj)) (σ : St) (H : Hp) (s : Shared) (e : Value) (s' : Shared), Inv X pins σ H s → CX X.stack H s E e s' → X.xe e s'
section
variable {X : Cx} {CX : CXT} {k : Nat} {f C : Addr} {fd : FuncData} {ps : List Str} {sp : Sp} {dvs : List V} {ds : List Value} {E : XK} {x m : Str} {p pos apos : Pos} {e o : Expr} {es : List Expr} {ta : TE} {t : TA}
theorem run_fn {pins : List (Addr × Obj)} {σ : St} {H : Hp} {s : Shared} {Q : VK} {us : List Value} {vs : List V} (F : FnOk X.prog X.w X.K X.mg X.base CX k f fd ps sp) (hr : Room k X.A) (hb : Xdc X.K fd ps ds) (hd : Vals dvs ds) (hx : Xef CX X E)
   (I : Inv X pins σ H s) (r : Vals vs us) (h : sp (vs ++ dvs) H Q E) : wpAny (model X.prog X.w) X.A (call (.ref f) us) (EP X pins σ Q) X.xe s := by
 have r2 : Vals (vs ++ dvs) (us ++ ds) := r.append hd
 have hl : (us ++ ds).length = ps.length := by rw [← r2.length]; exact F.len _ _ _ _ h
 refine wpAny_call (codeAny_mono (F.run X.A X.stack s H ⟨us, []⟩ (us ++ ds) (vs ++ dvs) Q E hr I.env0 (hb s us I.kIn hl) r2 h) fun r s' hq => ?_)
 cases r with
 | error e => exact hx pins σ H s e s' I hq
 | ok fl =>
   cases fl with
   | ret u => exact I.after hq
   | next => exact False.elim hq
   | brk => exact False.elim hq
   | cont => exact False.elim hq
theorem pe_call (F : FnOk X.prog X.w X.K X.mg X.base CX k f fd ps sp) (hr : Room k X.A) (hg : Gl X x) (hm : X.mg x = some (.ref f)) (hk : PySem.W.keepIn X.K (.ref f) = true) (hb : Xdc X.K fd ps ds) (hd : Vals dvs ds) (hx : Xef CX X E)
   (ha : PA X (e :: es) t) (hdb : (x == ("__debug__" : Str)) = false := by decide) (he : starEach (e :: es) X.env = (false, eval e X.env) :: starEach es X.env := by rfl) (hpl : (backTo pos (starEach es X.env)).any (·.1) = false := by rfl) :
   PE X (.Call (.Name x p) (e :: es) [] pos) (tCall sp dvs E t) := by
 intro pins s σ H Q I h
 refine wpAny_Call_Name_kw (Xek I hg hm ?_ hdb)
 refine PySem.W.callWith_K (h₀ := X.base) I.ok.mod.kin hk (thn (ha pos pins s σ H _ I h) fun us s1 ⟨vs, H1, I1, r, q⟩ => ⟨I1.kIn, ?_⟩) he hpl
 exact run_fn F hr hb hd hx I1 r q
theorem pe_meth {pl : Sem Bool} (he : PE X o ta) (c : Cls X.K C) (hm : Meth X.K C m f) (F : FnOk X.prog X.w X.K X.mg X.base CX k f fd ps sp) (hr : Room k X.A) (hb : Xdc X.K fd ps ds) (hd : Vals dvs ds) (hx : Xef CX X E) (ha : PA X (e :: es) t)
   (hst : starEach (e :: es) X.env = (false, eval e X.env) :: starEach es X.env := by rfl) (hpl : (backTo pos (starEach es X.env)).any (·.1) = false := by rfl)
   (ht : eval (.Call (.Attribute o m apos) (e :: es) [] pos) X.env = (do
     let ov ← eval o X.env
     standAt apos.atName
     let (f, first) ← holding [ov] (getMethod ov m pl)
     callWith pos f first (backTo pos (starEach (e :: es) X.env)) (backToKw pos (keywordEach [] X.env))) := by rfl) :
   PE X (.Call (.Attribute o m apos) (e :: es) [] pos) (tMeth C m sp dvs E ta t) := by
 intro pins s σ H Q I h
 refine PySem.W.methodCall_KW (pl := pl) (thn (he pins s σ H _ I h) fun u s1 ⟨x, H1, I1, rx, a, dx, fs, ex, ea, l, q⟩ => ?_) ht
 subst ex
 obtain rfl : u = Value.ref a := rx
 refine Xfb I1 ea c hm l ?_
 refine PySem.W.callWith_K (first := [.ref a]) (h₀ := X.base) I.ok.mod.kin hm.kp (thn (ha pos pins s1 σ H1 _ I1 q) fun us s2 ⟨vs, H2, I2, r, q2⟩ => ⟨I2.kIn, ?_⟩) hst hpl
 exact run_fn (us := .ref a :: us) (vs := .ref a :: vs) F hr hb hd hx I2 (.cons rfl r) q2
theorem pe_meth0 {pl : Sem Bool} (he : PE X o ta) (c : Cls X.K C) (hm : Meth X.K C m f) (F : FnOk X.prog X.w X.K X.mg X.base CX k f fd ps sp) (hr : Room k X.A) (hb : Xdc X.K fd ps ds) (hd : Vals dvs ds) (hx : Xef CX X E)
   (ht : eval (.Call (.Attribute o m apos) [] [] pos) X.env = (do
     let ov ← eval o X.env
     standAt apos.atName
     let (f, first) ← holding [ov] (getMethod ov m pl)
     callWith pos f first (backTo pos (starEach [] X.env)) (backToKw pos (keywordEach [] X.env))) := by rfl) :
   PE X (.Call (.Attribute o m apos) [] [] pos) (tMeth C m sp dvs E ta tNil) := by
 intro pins s σ H Q I h
 refine PySem.W.methodCall_KW (pl := pl) (thn (he pins s σ H _ I h) fun u s1 ⟨x, H1, I1, rx, a, dx, fs, ex, ea, l, q⟩ => ?_) ht
 subst ex
 obtain rfl : u = Value.ref a := rx
 refine Xfb I1 ea c hm l ?_
 exact PySem.W.callWith_K0 (first := [.ref a]) I1.kIn hm.kp (run_fn (us := [.ref a]) (vs := [.ref a]) F hr hb hd hx I1 (.cons rfl .nil) q)
structure Mk (K : PySem.W.Frag) (C f : Addr) : Prop where
 makes : PySem.W.makesIn K C = true
 init : PySem.W.findIn K (.ref C) "__init__" = some (some (.ref f))
 fn : PySem.W.isFn K (.ref f) = true
 kp : PySem.W.keepIn K (.ref C) = true
theorem run_make {pins : List (Addr × Obj)} {σ : St} {H : Hp} {s : Shared} {Q : VK} {us : List Value} {vs : List V} (M : Mk X.K C f) (F : FnOk X.prog X.w X.K X.mg X.base CX k f fd ps sp) (hr : Room (k + 1) X.A) (hb : Xdc X.K fd ps ds) (hd : Vals dvs ds)
   (hx : Xef CX X E) (I : Inv X pins σ H s) (r : Vals vs us)
   (h : ∀ x dx, H x = none → H dx = none → dx ≠ x → sp (.ref x :: (vs ++ dvs)) (upd (upd H dx (.own x)) x (.ins C dx [])) (fun v H2 => v = .non ∧ Q (.ref x) H2) E) :
   wpAny (model X.prog X.w) X.A (call (.ref C) us) (EP X pins σ Q) X.xe s := by
 have hq := h (s.heap.objs.size + 1) s.heap.objs.size (I.hok.fresh (Nat.le_succ _)) (I.hok.fresh (Nat.le_refl _)) (Nat.ne_of_lt (Nat.lt_succ_self _))
 have I2 := Inv.made (C := C) I
 have r2 : Vals (V.ref (s.heap.objs.size + 1) :: (vs ++ dvs)) (Value.ref (s.heap.objs.size + 1) :: (us ++ ds)) := .cons rfl (r.append hd)
 have hl : (Value.ref (s.heap.objs.size + 1) :: us ++ ds).length = ps.length := by
   have e := r2.length
   rw [F.len _ _ _ _ hq] at e
   exact e.symm
 refine wpAny_call (make_map (f := f) I.kIn M.makes M.init (beq_iff_eq.mp M.fn) (codeAny_mono (F.run _ X.stack _ _ ⟨Value.ref (s.heap.objs.size + 1) :: us, []⟩ (Value.ref (s.heap.objs.size + 1) :: (us ++ ds)) _ _ E (hr.make C us [])
   (I2.env0.make C us []) (hb _ (Value.ref (s.heap.objs.size + 1) :: us) I2.kIn hl) r2 hq) fun r s' hq' => ?_))
 cases r with
 | error e => exact hx pins σ _ _ e s' I2 hq'
 | ok fl =>
   cases fl with
   | ret u =>
     obtain ⟨v, H', I3, rv, ev, q3⟩ := I2.after hq'
     subst ev
     exact ⟨rv, ⟨V.ref (s.heap.objs.size + 1), H', I3, rfl, q3⟩⟩
   | next => exact False.elim hq'
   | brk => exact False.elim hq'
   | cont => exact False.elim hq'
theorem pe_make (M : Mk X.K C f) (F : FnOk X.prog X.w X.K X.mg X.base CX k f fd ps sp) (hr : Room (k + 1) X.A) (hg : Gl X x) (hm : X.mg x = some (.ref C)) (hb : Xdc X.K fd ps ds) (hd : Vals dvs ds) (hx : Xef CX X E)
   (ha : PA X (e :: es) t) (hdb : (x == ("__debug__" : Str)) = false := by decide) (he : starEach (e :: es) X.env = (false, eval e X.env) :: starEach es X.env := by rfl) (hpl : (backTo pos (starEach es X.env)).any (·.1) = false := by rfl) :
   PE X (.Call (.Name x p) (e :: es) [] pos) (tMake C sp dvs E t) := by
 intro pins s σ H Q I h
 refine wpAny_Call_Name_kw (Xek I hg hm ?_ hdb)
 refine PySem.W.callWith_K (h₀ := X.base) I.ok.mod.kin M.kp (thn (ha pos pins s σ H _ I h) fun us s1 ⟨vs, H1, I1, r, q⟩ => ⟨I1.kIn, ?_⟩) he hpl
 exact run_make M F hr hb hd hx I1 r q
end
section
variable {X : Cx} {CX : CXT} {k : Nat} {f C : Addr} {fd : FuncData} {ps ks : List Str} {sp : Sp} {E : XK} {x m : Str} {p pos apos kpos : Pos} {e o : Expr} {es : List Expr} {kws : List Keyword} {te ta : TE} {t tk : TA} {nm : Option Str}
structure KBinds (K : PySem.W.Frag) (fd : FuncData) (ps ks : List Str) (g : List Value → List Value → List Value) (gV : List V → List V → List V) : Prop where
 to : ∀ (s : Shared) (us ws : List Value), K.In s.heap → (g us ws).length = ps.length → BindsTo s fd ⟨us, ks.zip ws⟩ (ps.zip (g us ws))
 rel : ∀ {vs : List V} {us : List Value} {zs : List V} {ws : List Value}, Vals vs us → Vals zs ws → Vals (gV vs zs) (g us ws)
variable {g : List Value → List Value → List Value} {gV : List V → List V → List V}
end
structure FnScope (N P : List Str) (sc : Scope) : Prop where
 kind : sc.kind = .function
 co : sc.isCoroutine = false
 gen : sc.isGenerator = false
 nd : N.Nodup
 pre : N.take P.length = P
 par : ∀ x ∈ P, sc.names.lookup x = some .local ∨ sc.names.lookup x = some .cell
 nofree : ∀ y ∈ sc.names, y.2 ≠ .free
theorem bindL_out {kindOf : Str → Option NameKind} {x : Str} : ∀ {binds : List (Str × Value)} {m : Str → Option Value}, (∀ v, (x, v) ∉ binds) → bindL kindOf binds m x = m x
 | [], _, _ => rfl
 | (n, v) :: r, m, h => by
   unfold bindL
   rw [bindL_out fun w hw => h w (List.mem_cons_of_mem _ hw)]
   split
   · have : x ≠ n := by rintro rfl; exact h v List.mem_cons_self
     simp [this]
   · rfl
theorem bindC_out {kindOf : Str → Option NameKind} {x : Str} : ∀ {binds : List (Str × Value)} {m : Str → Option Value}, (∀ v, (x, v) ∉ binds) → bindC kindOf binds m x = m x
 | [], _, _ => rfl
 | (n, v) :: r, m, h => by
   unfold bindC
   rw [bindC_out fun w hw => h w (List.mem_cons_of_mem _ hw)]
   split
   · rfl
   · have : x ≠ n := by rintro rfl; exact h v List.mem_cons_self
     simp [this]
theorem bindL_get {kindOf : Str → Option NameKind} {x : Str} {v : Value} : ∀ {P : List Str} {vs : List Value} {i : Nat} {m : Str → Option Value}, P.Nodup → P[i]? = some x → vs[i]? = some v → kindOf x = some .local →
   bindL kindOf (P.zip vs) m x = some v
 | [], _, _, _, _, h, _, _ => by simp at h
 | _ :: _, [], _, _, _, _, h, _ => by simp at h
 | p :: P, w :: vs, 0, m, nd, h1, h2, hk => by
   simp at h1 h2; subst h1; subst h2
   show bindL kindOf ((p, w) :: P.zip vs) m p = _
   unfold bindL
   rw [bindL_out fun v hv => (List.nodup_cons.mp nd).1 (List.of_mem_zip hv).1, if_pos hk]
   simp
 | p :: P, w :: vs, i + 1, m, nd, h1, h2, hk => by
   show bindL kindOf ((p, w) :: P.zip vs) m x = _
   unfold bindL
   exact bindL_get (i := i) (List.nodup_cons.mp nd).2 (by simpa using h1) (by simpa using h2) hk
theorem bindC_get {kindOf : Str → Option NameKind} {x : Str} {v : Value} : ∀ {P : List Str} {vs : List Value} {i : Nat} {m : Str → Option Value}, P.Nodup → P[i]? = some x → vs[i]? = some v → kindOf x ≠ some .local →
   bindC kindOf (P.zip vs) m x = some v
 | [], _, _, _, _, h, _, _ => by simp at h
 | _ :: _, [], _, _, _, _, h, _ => by simp at h
 | p :: P, w :: vs, 0, m, nd, h1, h2, hk => by
   simp at h1 h2; subst h1; subst h2
   show bindC kindOf ((p, w) :: P.zip vs) m p = _
   unfold bindC
   rw [bindC_out fun v hv => (List.nodup_cons.mp nd).1 (List.of_mem_zip hv).1, if_neg hk]
   simp
 | p :: P, w :: vs, i + 1, m, nd, h1, h2, hk => by
   show bindC kindOf ((p, w) :: P.zip vs) m x = _
   unfold bindC
   exact bindC_get (i := i) (List.nodup_cons.mp nd).2 (by simpa using h1) (by simpa using h2) hk
def start (N : List Str) (vs : List V) : St := vs.map some ++ List.replicate (N.length - vs.length) none
def cxOf (CX : CXT) (P : Program) (w : World) (K : PySem.W.Frag) (mg : Str → Option Value) (base : Heap) (N : List Str) (qual : Str) (scope : Scope) (f : Addr) (cd : Value) (A : Around) (outer : List Env) (s : Shared) (H : Hp) (E : XK) : Cx where
 prog := P
 w := w
 K := K
 mg := mg
 base := base
 A := A.deeper (envOfC qual scope s.heap.objs.size f cd)
 N := N
 s₀ := s
 H₀ := H
 env := envOfC qual scope s.heap.objs.size f cd
 outer := outer
 stack := envOfC qual scope s.heap.objs.size f cd :: outer
 ex := []
 calm := true
 fn := fun _ => true
 pn := []
 xe := fun e s' => wpAny (model P w) (A.deeper (envOfC qual scope s.heap.objs.size f cd)) (leaving (envOfC qual scope s.heap.objs.size f cd) e) (fun _ s'' => CX outer H s E e s'') (fun e' s'' => CX outer H s E e' s'') s'
theorem cell_has {sc : Scope} {n : Nat} {x : Str} (h : sc.names.lookup x = some .cell) : ∃ c, (cellsFrom n sc.names []).lookup x = some c := by
 have q := PySem.W.cellsFrom_some sc.names n [] (.inl h)
 exact Option.isSome_iff_exists.mp q
theorem inv_start {CX : CXT} {P : Program} {w : World} {K : PySem.W.Frag} {mg : Str → Option Value} {base : Heap} {N ps : List Str} {qual : Str} {scope : Scope} {f : Addr} {cd : Value} {A : Around} {outer : List Env} {s s1 : Shared} {H : Hp} {E : XK} {us : List Value} {vs : List V}
   (S : FnScope N ps scope) (hd : A.handled = none) (e0 : Env0 P w K mg base A outer s H) (hl : vs.length = ps.length) (r : Vals vs us)
   (x : InCallC s s.heap.objs.size (bindL (envOfC qual scope s.heap.objs.size f cd).kindOf (ps.zip us) fun _ => none) (cellsFrom (s.heap.objs.size + 1) scope.names []) (bindC (envOfC qual scope s.heap.objs.size f cd).kindOf (ps.zip us) fun _ => none) s1) :
   Inv (cxOf CX P w K mg base N qual scope f cd A outer s H E) [] (start N vs) H s1 := by
 have hpl : ps.length ≤ N.length := by have := congrArg List.length S.pre; rw [List.length_take] at this; omega
 obtain ⟨h1, tk, rfl, hk⟩ := x.done
 have noA : ∀ b : Addr, b ∉ (cxOf CX P w K mg base N qual scope f cd A outer s H E).ex := fun b z => absurd (show b ∈ ([] : List Addr) from z) (by simp)
 refine ⟨⟨e0.mod, S.kind, rfl, rfl, Nat.le_refl _, fun y z c h1 h2 => ?_, fun y hy => ?_, fun y c _ h => ?_, fun _ => hd, Around.frames_deeper e0.frames, .inr ⟨rfl, rfl⟩, fun b z => absurd z (noA b), e0.bs, e0.bsz, fun b _ _ => noA b, fun b z => absurd z (noA b), e0.funs, e0.frf⟩,
   rfl, e0.bare, Un.kept hk, ⟨_, x.toInCall.ns, fun i y v h1 h2 h3 => ?_⟩, fun y c h => ⟨_, x.cell y c h⟩, e0.hok.fresh (Nat.le_refl _), fun y c h => ?_, fun p hp => absurd (show p ∈ ([] : List (Addr × Obj)) from hp) (by simp), e0.hok.kept hk, ?_⟩
 · exact name_of_addr x.apart (PySem.mem_of_lookup h1) (PySem.mem_of_lookup h2)
 · have hy : scope.names.lookup y = some .cell ∨ scope.names.lookup y = some .free := hy
   rcases hy with hy | hy
   · exact cell_has hy
   · exact absurd rfl (S.nofree _ (PySem.mem_of_lookup hy))
 · exact Nat.le_of_lt (x.above y c (PySem.mem_of_lookup h))
 · have hi : i < vs.length := by
     unfold start at h2
     by_cases hi : i < vs.length
     · exact hi
     · rw [List.getElem?_append_right (by simpa using hi)] at h2
       rw [List.getElem?_replicate] at h2
       split at h2 <;> cases h2
   have ha : vs[i]? = some v := by
     unfold start at h2
     rw [List.getElem?_append_left (by simpa using hi), List.getElem?_map] at h2
     cases e : vs[i]? with
     | none => rw [e] at h2; cases h2
     | some a => rw [e] at h2; cases h2; rfl
   obtain ⟨u, hu, rv⟩ := r.get ha
   have hp : ps[i]? = some y := by
     rw [← S.pre, List.getElem?_take_of_lt (by omega)]; exact h1
   have ndP : ps.Nodup := by rw [← S.pre]; exact S.nd.sublist (List.take_sublist _ _)
   refine ⟨u, rv, ?_⟩
   rcases S.par y (List.mem_of_getElem? hp) with k | k
   · exact .inl ⟨k, bindL_get ndP hp hu k⟩
   · obtain ⟨c, e⟩ := cell_has (n := s.heap.objs.size + 1) k
     refine .inr ⟨.inl k, c, e, ?_⟩
     have q := x.cell y c e
     rw [bindC_get ndP hp hu (by show scope.names.lookup y ≠ _; rw [k]; decide)] at q
     exact q
 · exact e0.hok.fresh (Nat.le_of_lt (x.above y c (PySem.mem_of_lookup h)))
 · unfold start
   show _ = N.length
   rw [List.length_append, List.length_map, List.length_replicate]
   omega
theorem fn_of {CX : CXT} {P : Program} {w : World} {K : PySem.W.Frag} {mg : Str → Option Value} {base : Heap} {k : Nat} {f : Addr} {name qual : Str} {params : Arguments} {body : List Stmt} {scope : Scope} {dV kV doc pm cdv ct oc : Value} {an od : Option Addr}
   {osl : Array (Option Value)} {N ps : List Str} {sp : Sp} (lk : K.lookup f = some ⟨oc, od, .func (PySem.W.fnOf name qual params body scope dV kV doc pm an cdv ct), osl⟩) (hcd : PySem.W.codeIn K cdv qual = true) (S : FnScope N ps scope)
   (len : ∀ vs H Q E, sp vs H Q E → vs.length = ps.length)
   (hbody : ∀ (A : Around) (outer : List Env) (s : Shared) (H : Hp) (vs : List V) (Q : VK) (E : XK), Room k (A.deeper (envOfC qual scope s.heap.objs.size f cdv)) → sp vs H Q E →
     ∃ t, PSs (cxOf CX P w K mg base N qual scope f cdv A outer s H E) body t ∧ t { nx := fun _ H' => Q .non H', rt := Q } (start N vs) H) :
   FnOk P w K mg base CX (k + 1) f (PySem.W.fnOf name qual params body scope dV kV doc pm an cdv ct) ps sp := by
 refine ⟨len, fun A outer s H args us vs Q E hr e0 hb r hsp => ?_⟩
 have hl := len _ _ _ _ hsp
 have KX : K.In s.heap := e0.mod.kin.keeps fun b o e => (e0.bs b o e).1
 have lim : s.heap.NoLimit := e0.mod.nolimit.keeps fun b o e => (e0.bs b o e).1
 have hkind : ∀ y ∈ ps.zip us, scope.names.lookup y.1 = some .local ∨ (scope.names.lookup y.1 = some .cell ∧ ((cellsFrom (s.heap.objs.size + 1) scope.names []).lookup y.1).isSome = true) := fun ⟨n, v⟩ hy => by
   rcases S.par n (List.of_mem_zip hy).1 with q | q
   · exact .inl q
   · exact .inr ⟨q, PySem.W.cellsFrom_some _ _ _ (.inl q)⟩
 refine codeAny_call_function hr.depth (KX _ _ lk) rfl S.co S.gen rfl (PySem.W.codeRec_of KX hcd) (hb _ _ _ _ ?_)
 refine wpAny_newFunctionEnv_cells S.kind hkind fun env he s1 x => ?_
 subst he
 refine ⟨lim.keeps x.toInCall.keep, codeAny_func ?_⟩
 obtain ⟨t, ht, hq⟩ := hbody A outer s H vs Q E (hr.deeper _) hsp
 have I : Inv (cxOf CX P w K mg base N qual scope f cdv A outer s H E) [] (start N vs) H s1 := inv_start S hr.hd e0 hl r x
 refine wpAny_mono (ht [] s1 (start N vs) H _ I hq) (fun fl s' hs => ?_) fun e s' hs => hs
 have fin : ∀ {σ' : St} {H' : Hp} {v : V} {u : Value}, Inv (cxOf CX P w K mg base N qual scope f cdv A outer s H E) [] σ' H' s' → RelV v u → Q v H' → CE outer P w H s Q u s' :=
   fun {σ' H' v u} J rv q => ⟨v, H', J.os, J.bare, J.base, J.hok, rv, q⟩
 cases fl with
 | ret u =>
   obtain ⟨v, σ', H', J, rv, q⟩ := hs
   exact fin J rv q
 | next =>
   obtain ⟨σ', H', J, q⟩ := hs
   exact fin (v := V.non) (u := Value.none) J rfl q
 | brk =>
   obtain ⟨_, _, _, q⟩ := hs
   exact False.elim q
 | cont =>
   obtain ⟨_, _, _, q⟩ := hs
   exact False.elim q
end L2
namespace L2
open PySem PySem.Spec PyProof.Rows
section
variable {X : Cx} {x : Str} {p pos : Pos} {e : Expr} {es : List Expr} {t : TA} {id T : String} {r : List V → Hp → VK → Prop}
def tCB (r : List V → Hp → VK → Prop) (t : TA) : TE := fun σ H Q => t σ H fun vs H1 => r vs H1 Q
theorem Xcc (hc : CallR X (.builtin id) r) (hg : Gl X x) (hm : X.mg x = none) (hv : bootBuiltins x = some (.builtin id)) (ha : PA X (e :: es) t) (hn : x ≠ "__name__" := by decide) (hdb : (x == ("__debug__" : Str)) = false := by decide)
   (he : starEach (e :: es) X.env = (false, eval e X.env) :: starEach es X.env := by rfl) (hpl : (backTo pos (starEach es X.env)).any (·.1) = false := by rfl) : PE X (.Call (.Name x p) (e :: es) [] pos) (tCB r t) := by
 intro pins s σ H Q I h
 refine wpAny_Call_Name_kw (ld_blt I hg hm hv ?_ hn hdb)
 exact PyProof.Rows.callWith_builtin1 (thn (ha pos pins s σ H _ I h) fun us s1 ⟨vs, H1, I1, r1, q1⟩ => hc pins s1 σ H1 vs us Q I1 r1 q1) he hpl
theorem Xev (hc : CallR X (.type T) r) (hg : Gl X x) (hm : X.mg x = none) (hv : bootBuiltins x = some (.type T)) (ha : PA X (e :: es) t) (hn : x ≠ "__name__" := by decide) (hdb : (x == ("__debug__" : Str)) = false := by decide)
   (he : starEach (e :: es) X.env = (false, eval e X.env) :: starEach es X.env := by rfl) (hpl : (backTo pos (starEach es X.env)).any (·.1) = false := by rfl) : PE X (.Call (.Name x p) (e :: es) [] pos) (tCB r t) := by
 intro pins s σ H Q I h
 refine wpAny_Call_Name_kw (ld_blt I hg hm hv ?_ hn hdb)
 exact PyProof.Rows.callWith_type1 (thn (ha pos pins s σ H _ I h) fun us s1 ⟨vs, H1, I1, r1, q1⟩ => hc pins s1 σ H1 vs us Q I1 r1 q1) he hpl
end
end L2
namespace HT
open PySem PyProof.Rows
def lexLt : List Int → List Int → Bool
 | [], [] => false
 | [], _ :: _ => true
 | _ :: _, [] => false
 | x :: xs, y :: ys => if x = y then lexLt xs ys else decide (x < y)
theorem lexLt_cons (x y : Int) (xs ys : List Int) : lexLt (x :: xs) (y :: ys) = if x = y then lexLt xs ys else decide (x < y) := rfl
theorem lexLt_nil_nil : lexLt [] [] = false := rfl
theorem lexLt_nil_cons (y : Int) (ys : List Int) : lexLt [] (y :: ys) = true := rfl
theorem lexLt_cons_nil (x : Int) (xs : List Int) : lexLt (x :: xs) [] = false := rfl
theorem eqAt_int (A : Around) (s : Shared) (a : Int) (t : Tok) (c : Int) (u : Tok) : ∃ e, SeqAt.EqAt A s (.int a t) (.int c u) e ∧ (e = true ↔ a = c) :=
 ⟨(a == c), SeqAt.EqAt.int_int a t c u, by simp⟩
theorem rcLt_int (A : Around) (s : Shared) (a : Int) (t : Tok) (c : Int) (u : Tok) (prog : Program) (w : World) (E : Value → Shared → Prop) (Q : Value → Shared → Prop) (h : Q (.bool (decide (a < c))) s) :
   wpAny (model prog w) A (richCompare .Lt (.int a t) (.int c u)) Q E s :=
 (PyProof.Rows.lt_int h : wpAny (model prog w) A (compareOp .Lt (.int a t) (.int c u)) Q E s)
section
open PySem.SeqAt
open PySem.AutoSeq1 (wpAny_loadPart')
open PySem.MeetsSeq PySem.MeetsSeq2 PySem.MeetsSeq3
theorem tuple_lt_ints (l b : Addr) (items items2 : Array Value) (n n2 : Nat) (dd dd2 : Option Addr) (sl sl2 : Array (Option Value)) (ns ms : List Int) (hi : IntsAre items.toList ns) (hj : IntsAre items2.toList ms) :
   Meets (Builtin.«tuple.__lt__» ⟨[.ref l, .ref b], []⟩)
     (fun _ R s => s.heap.get? l = some { cls := .type "tuple", dict := dd, data := .seq items n, slots := sl } ∧ s.heap.get? b = some { cls := .type "tuple", dict := dd2, data := .seq items2 n2, slots := sl2 } ∧
       R (.ok (.ret (.bool (lexLt ns ms)))) s) :=
 .of_wp fun prog w A R s h => by
   obtain ⟨hp, g, d, tk, os⟩ := s; obtain ⟨hl, hb, h⟩ := h
   have f2 := AutoSeq1.sub_tuple_tuple
   have z1 : items.size = ns.length := by rw [← hi.length]; simp
   have z2 : items2.size = ms.length := by rw [← hj.length]; simp
   wp_walk using wpAny_loadPart' hl, wpAny_loadPart' hb, wpAny_forIn_list _ (fun rest b s' => b.1 = none ∧ s' = ⟨hp, g, d, tk, os⟩ ∧ ∃ (vs ws : List Value) (ns' ms' : List Int), rest = vs.zip ws ∧
     IntsAre vs ns' ∧ IntsAre ws ms' ∧ ns'.length + items2.size = ms'.length + items.size ∧ R (.ok (.ret (.bool (lexLt ns' ms')))) ⟨hp, g, d, tk, os⟩) _
   case turn =>
     rintro ⟨y, x⟩ rest b s' ⟨hb', rfl, vs, ws, ns', ms', hz, hvi, hwi, hlen, hR⟩
     cases hvi with
     | nil => rw [List.zip_nil_left] at hz; cases hz
     | cons a t hvi' =>
       cases hwi with
       | nil => rw [List.zip_nil_right] at hz; cases hz
       | cons c u hwi' =>
         rw [List.zip_cons_cons] at hz
         injection hz with hyx hrest
         injection hyx with hy hx
         subst hy hx
         rw [lexLt_cons] at hR
         simp only [List.length_cons] at hlen
         obtain ⟨e, he, hiff⟩ := eqAt_int A.in1 ⟨hp, g, d, tk, os⟩ a t c u
         refine wpAny_bind (he prog w _ _ ?_)
         cases e with
         | true =>
           rw [if_pos (hiff.mp rfl)] at hR
           wp_walk
           exact ⟨rfl, rfl, _, _, _, _, hrest, hvi', hwi', by omega, hR⟩
         | false =>
           rw [if_neg (fun q => absurd (hiff.mpr q) Bool.false_ne_true)] at hR
           have hri := rcLt_int A.in1 ⟨hp, g, d, tk, os⟩ a t c u prog w
           wp_walk using hri
           exact ⟨_, rfl, by simpa using hR⟩
   case fin =>
     rintro ⟨b1, b2⟩ s' ⟨hb', rfl, vs, ws, ns', ms', hz, hvi, hwi, hlen, hR⟩
     simp only at hb'
     subst hb'
     have hv : lexLt ns' ms' = decide (items.size < items2.size) := by
       cases hvi with
       | nil =>
         cases hwi with
         | nil =>
           simp only [List.length_nil] at hlen
           rw [lexLt_nil_nil]
           exact (decide_eq_false (by omega)).symm
         | cons c u hw =>
           simp only [List.length_nil, List.length_cons] at hlen
           rw [lexLt_nil_cons]
           exact (decide_eq_true (by omega)).symm
       | cons a t hv =>
         cases hwi with
         | nil =>
           simp only [List.length_nil, List.length_cons] at hlen
           rw [lexLt_cons_nil]
           exact (decide_eq_false (by omega)).symm
         | cons c u hw =>
           rw [List.zip_cons_cons] at hz
           cases hz
     rw [hv] at hR
     wp_walk
     exact ⟨_, rfl, by simpa [Builtin.Tuple.tupleCompareSizes] using hR⟩
   case h =>
     exact ⟨rfl, rfl, items.toList, items2.toList, ns, ms, rfl, hi, hj, by omega, h⟩
end
section
variable {prog : Program} {w : World} {A : Around} {E : Value → Shared → Prop} {s : Shared}
theorem lt_tupInts {l b : Addr} {items items2 : Array Value} {ns ms : List Int} {Q : Value → Shared → Prop} (hl : IsTup s.heap l items) (hb : IsTup s.heap b items2) (hi : IntsAre items.toList ns) (hj : IntsAre items2.toList ms)
   (hu : A.units < cLine) (h : Q (.bool (lexLt ns ms)) s) : wpAny (model prog w) A (compareOp .Lt (.ref l) (.ref b)) Q E s := by
 obtain ⟨⟨cls, dd, data, sl⟩, ho, hc, n, hd⟩ := id hl
 obtain ⟨⟨cls2, dd2, data2, sl2⟩, ho2, hc2, n2, hd2⟩ := id hb
 simp only at hc hd hc2 hd2
 subst hc hd hc2 hd2
 exact richCompare_meets_room (op := .Lt) ⟨_, ho, rfl⟩ ⟨_, ho2, rfl⟩ PySem.F.slot_tuple_lt PySem.F.entry_tuple_lt (PySem.F.args_tuple_lt_2 _ _) (tuple_lt_ints l b items items2 n n2 dd dd2 sl sl2 ns ms hi hj)
   ⟨ho, ho2, show Value.bool (lexLt ns ms) ≠ Value.notImplemented ∧ Q (.bool (lexLt ns ms)) s from ⟨(fun x => nomatch x), h⟩⟩ hu
def sIx (n d : Nat) : Option Int → Nat
 | none => d
 | some v => if v < 0 then (v + (n : Int)).toNat else min v.toNat n
theorem sIx_none (n d : Nat) : sIx n d none = d := rfl
theorem sIx_nat (n d k : Nat) : sIx n d (some (k : Int)) = min k n := by
 show (if (k : Int) < 0 then ((k : Int) + (n : Int)).toNat else min (k : Int).toNat n) = min k n
 rw [if_neg (by omega), Int.toNat_natCast]
end
end HT
namespace L2
open PySem PySem.Spec PyProof.Rows
abbrev TO := St → Hp → (Option Int → Hp → Prop) → Prop
def PO (X : Cx) (e : Option Expr) (t : TO) : Prop :=
 ∀ (pins : List (Addr × Obj)) (s : Shared) (σ : St) (H : Hp) (Q : Option Int → Hp → Prop), Inv X pins σ H s → t σ H Q →
   wpAny (model X.prog X.w) X.A (evalPart e X.env) (fun u s' => ∃ o H', Inv X pins σ H' s' ∧ IsPart u o ∧ Q o H') X.xe s
def tNoPart : TO := fun _ H Q => Q none H
def tPart (t : TE) : TO := fun σ H Q => t σ H fun x H1 => ∃ i, x = .int i ∧ Q (some i) H1
theorem intsAre_of {ns : List Int} : ∀ {us : List Value}, Vals (ns.map V.int) us → IntsAre us ns := by
 induction ns with
 | nil => intro us r; rw [List.map_nil] at r; cases r; exact .nil
 | cons n ns ih =>
   intro us r
   rw [List.map_cons] at r
   cases r with
   | cons r1 r2 =>
     obtain ⟨t, e⟩ := r1
     subst e
     exact .cons n t (ih r2)
section
variable {X : Cx} {e : Expr} {te : TE} {lo hi : Option Expr} {tl th : TO} {pos p2 : Pos}
theorem po_none : PO X none tNoPart := by
 intro pins s σ H Q I h
 rw [evalPart_none]
 exact wpAny_pure ⟨none, H, I, .none, h⟩
theorem Xfh (h : PE X e te) : PO X (some e) (tPart te) := by
 intro pins s σ H Q I hw
 rw [evalPart_some]
 refine thn (h pins s σ H _ I hw) fun u s1 ⟨x, H1, I1, r1, q1⟩ => ?_
 obtain ⟨i, rfl, q⟩ := q1
 obtain ⟨t, rfl⟩ := r1
 exact ⟨some i, H1, I1, .int i t, q⟩
def SlR (X : Cx) (r : V → Option Int → Option Int → Hp → VK → Prop) : Prop :=
 ∀ (pins : List (Addr × Obj)) (s : Shared) (σ : St) (H : Hp) (x : V) (v vl vu : Value) (lo hi : Option Int) (sl : Addr) (Q : VK), Inv X pins σ H s → RelV x v → s.heap.IsSliceOf sl vl vu .none → IsPart vl lo → IsPart vu hi → r x lo hi H Q →
   ∃ T id, typeLookup (.type T) "__getitem__" = pure (some (.builtin id)) ∧ s.TypeIs v T ∧ wpAny (model X.prog X.w) X.A (getItem v (.ref sl)) (EP X pins σ Q) X.xe s
def tSl (r : V → Option Int → Option Int → Hp → VK → Prop) (te : TE) (tl th : TO) : TE := fun σ H Q => te σ H fun x H1 => tl σ H1 fun l H2 => th σ H2 fun u H3 => r x l u H3 Q
theorem Xfi {r : V → Option Int → Option Int → Hp → VK → Prop} (hr : SlR X r) (he : PE X e te) (hl : PO X lo tl) (hu : PO X hi th) : PE X (.Subscript e (.Slice lo hi none p2) pos) (tSl r te tl th) := by
 intro pins s σ H Q I h
 refine Subscript_ (thn (he pins s σ H _ I h) fun v s1 ⟨x, H1, I1, r1, q1⟩ => ?_)
 refine wpAny_Slice (thn (hl pins s1 σ H1 _ I1 q1) fun vl s2 ⟨l, H2, I2, pl, q2⟩ => thn (hu pins s2 σ H2 _ I2 q2) fun vu s3 ⟨u, H3, I3, pu, q3⟩ => ?_)
 rw [evalPart_none]
 refine wpAny_pure ?_
 have I4 : Inv X pins σ H3 { s3 with heap := s3.heap.push { cls := .type "slice", data := .fields #[vl, vu, .none] } } := I3.kept (t' := s3.toks) fun b ob q => Heap.get?_push_of_some _ q
 obtain ⟨T, id, hT, ht, hg⟩ := hr pins { s3 with heap := s3.heap.push { cls := .type "slice", data := .fields #[vl, vu, .none] } } σ H3 x v vl vu l u s3.heap.objs.size Q I4 r1 (Heap.IsSliceOf.new ..) pl pu q3
 show wpAny (model X.prog X.w) X.A (subscriptTail e (.Slice lo hi none p2) v (.ref s3.heap.objs.size)) (EP X pins σ Q) X.xe { s3 with heap := s3.heap.push { cls := .type "slice", data := .fields #[vl, vu, .none] } }
 exact tail_any (ops := [.ref s3.heap.objs.size, v]) ht hT hg (by with_unfolding_all rfl)
def cutV (xs : List V) (lo hi : Option Int) : List V := (xs.drop (HT.sIx xs.length 0 lo)).take (HT.sIx xs.length xs.length hi - HT.sIx xs.length 0 lo)
theorem cutV_length (xs : List V) (lo hi : Option Int) : (cutV xs lo hi).length ≤ xs.length := by
 unfold cutV
 rw [List.length_take, List.length_drop]
 omega
end
end L2
namespace L2
open PySem PySem.Spec PyProof.Rows
def ixN (n : Nat) (i : Int) : Option Nat := if 0 ≤ i then (if i < n then some i.toNat else none) else if -(n : Int) ≤ i then some (i + n).toNat else none
def atI {α : Type} (xs : List α) (i : Int) : Option α := (ixN xs.length i).bind fun j => xs[j]?
theorem ixN_seq {n : Nat} {i : Int} {j : Nat} (h : ixN n i = some j) : seqIndex? i n = some j ∧ j < n ∧ -(n : Int) ≤ i ∧ i < n := by
 unfold ixN at h
 by_cases h0 : 0 ≤ i
 · rw [if_pos h0] at h
   by_cases h1 : i < n
   · rw [if_pos h1] at h
     have e : i.toNat = j := Option.some.inj h
     exact ⟨by rw [seqIndex_of h0 h1, e], by omega, by omega, h1⟩
   · rw [if_neg h1] at h; cases h
 · rw [if_neg h0] at h
   by_cases h1 : -(n : Int) ≤ i
   · rw [if_pos h1] at h
     have e : (i + n).toNat = j := Option.some.inj h
     exact ⟨by rw [seqIndex_neg (by omega) h1, e], by omega, h1, by omega⟩
   · rw [if_neg h1] at h; cases h
theorem atI_get {α : Type} {xs : List α} {i : Int} {v : α} (h : atI xs i = some v) : ∃ j, seqIndex? i xs.length = some j ∧ xs[j]? = some v ∧ j < xs.length ∧ -(xs.length : Int) ≤ i ∧ i < xs.length := by
 unfold atI at h
 cases e : ixN xs.length i with
 | none => rw [e] at h; cases h
 | some j =>
   rw [e] at h
   obtain ⟨h1, h2, h3, h4⟩ := ixN_seq e
   exact ⟨j, h1, h, h2, h3, h4⟩
theorem atI_nat {α : Type} {xs : List α} {j : Nat} {v : α} (h : xs[j]? = some v) : atI xs (j : Int) = some v := by
 have hj : j < xs.length := (List.getElem?_eq_some_iff.mp h).1
 have e : ixN xs.length (j : Int) = some j := by
   unfold ixN
   rw [if_pos (by omega), if_pos (by omega)]; simp
 unfold atI; rw [e]; exact h
theorem atI_last {α : Type} (xs : List α) (v : α) : atI (xs ++ [v]) (-1) = some v := by
 have hl : (xs ++ [v]).length = xs.length + 1 := by simp
 have e : ixN (xs ++ [v]).length (-1) = some xs.length := by
   unfold ixN
   rw [hl, if_neg (by decide), if_pos (by omega)]
   congr 1
   omega
 unfold atI
 rw [e]
 show (xs ++ [v])[xs.length]? = some v
 simp
def PlainIx (b : Expr) : Prop := ∀ o i, subscripted b false o i = operate [o, i] (getItem o i)
def IxR (X : Cx) (r : R2) : Prop :=
 ∀ (value slice : Expr) (pins : List (Addr × Obj)) (s : Shared) (σ : St) (H : Hp) (x y : V) (v u : Value) (Q : VK), Inv X pins σ H s → RelV x v → RelV y u → r x y H Q →
   subscripted slice false v u = operate [v, u] (getItem v u) → wpAny (model X.prog X.w) X.A (subscriptTail value slice v u) (EP X pins σ Q) X.xe s
def MtR (X : Cx) (id : String) (r : V → List V → Hp → VK → Prop) : Prop :=
 ∀ (pins : List (Addr × Obj)) (s : Shared) (σ : St) (H : Hp) (x : V) (xs : List V) (v : Value) (us : List Value) (Q : VK), Inv X pins σ H s → RelV x v → Vals xs us → r x xs H Q →
   wpAny (model X.prog X.w) X.A (call (.builtin id) (v :: us)) (EP X pins σ Q) X.xe s
section
variable {X : Cx} {a b : Expr} {ta tb : TE} {pos : Pos}
theorem Xaq {r : R2} (hr : IxR X r) (ha : PE X a ta) (hb : PE X b tb) (hs : PlainIx b) : PE X (.Subscript a b pos) (tOp r ta tb) := by
 intro pins s σ H Q I h
 exact Subscript_ (binT ha hb I h fun v u s2 x y H2 I2 rx ry q => hr a b pins s2 σ H2 x y v u Q I2 rx ry q (hs _ _))
def rIxL (K : PySem.W.Frag) : R2 := fun x y H Q => ∃ p xs i v, x = .ref p ∧ y = .int i ∧ SqL K H p xs ∧ atI xs i = some v ∧ Q v H
def rIxT (K : PySem.W.Frag) : R2 := fun x y H Q => ∃ p xs i v, x = .ref p ∧ y = .int i ∧ SqT K H p xs ∧ atI xs i = some v ∧ Q v H
theorem Xbi : IxR X (rIxL X.K) := by
 intro value slice pins s σ H x y v u Q I rx ry h hs
 obtain ⟨p, xs, i, z, rfl, rfl, hq, he, q⟩ := h
 cases rx
 obtain ⟨t, rfl⟩ := ry
 obtain ⟨its, r, pl, hz⟩ := I.list hq
 obtain ⟨j, h1, h2, h3, h4, h5⟩ := atI_get he
 obtain ⟨w, ew, rw'⟩ := r.get h2
 have hl := r.length
 have hn := line63
 have fin : EP X pins σ Q w s := ⟨z, H, I, rw', q⟩
 by_cases h0 : 0 ≤ i
 · have hj : i.toNat = j := by
     rw [seqIndex_of h0 h5] at h1
     exact Option.some.inj h1
   exact item_listR pl.isList h0 (by omega) (by rw [hj]; simpa using ew) fin hs
 · have hj : (i + (its.toArray.size : Int)).toNat = j := by
     rw [seqIndex_neg (by omega) h4] at h1
     rw [List.size_toArray, ← hl]
     exact Option.some.inj h1
   exact subscriptTail_builtinR (x := w) pl.isList.typeIs slot_list_getitem.lookup
     (wpAny_getItem_list_neg (Q := fun r s' => r = w ∧ EP X pins σ Q r s') pl.isList (by omega) (by rw [List.size_toArray] <;> omega) (by omega) (by rw [hj]; simpa using ew) ⟨rfl, fin⟩) hs
theorem Xap : IxR X (rIxT X.K) := by
 intro value slice pins s σ H x y v u Q I rx ry h hs
 obtain ⟨p, xs, i, z, rfl, rfl, hq, he, q⟩ := h
 cases rx
 obtain ⟨t, rfl⟩ := ry
 obtain ⟨its, r, pl, hz⟩ := I.tuple hq
 obtain ⟨j, h1, h2, h3, h4, h5⟩ := atI_get he
 obtain ⟨w, ew, rw'⟩ := r.get h2
 have hl := r.length
 have hn := line63
 have fin : EP X pins σ Q w s := ⟨z, H, I, rw', q⟩
 exact subscriptTail_builtinR (x := w) pl.typeIs slot_tuple_getitem.lookup
   (getItem_tuple (j := j) (Q := fun r s' => r = w ∧ EP X pins σ Q r s') pl (by omega) (by omega) (by rw [List.size_toArray, ← hl]; exact h1) (by simpa using ew) ⟨rfl, fin⟩) hs
theorem mapSeq_set (its : List Value) (n j : Nat) (u : Value) : Obj.mapSeq (·.setIfInBounds j u) { cls := .type "list", data := .seq its.toArray n } = { cls := .type "list", data := .seq (its.set j u).toArray n } := by
 simp [Obj.mapSeq]
theorem Inv.lst {pins : List (Addr × Obj)} {σ : St} {H : Hp} {s : Shared} {p : Addr} {xs : List V} (I : Inv X pins σ H s) (h : H p = some (.lst xs)) :
   ∃ (its : List Value) (n : Nat), Vals xs its ∧ s.heap.get? p = some { cls := .type "list", data := .seq its.toArray n } ∧ xs.length ≤ sizeLine := by
 obtain ⟨z, its, n, r, e⟩ := I.hok p _ h
 exact ⟨its, n, r, e, z⟩
theorem Inv.lstUpd {pins : List (Addr × Obj)} {σ : St} {H : Hp} {s : Shared} {p : Addr} {xs ys : List V} {its its' : List Value} {n n' : Nat} {f : Obj → Obj} (I : Inv X pins σ H s) (h : H p = some (.lst xs))
   (ho : s.heap.get? p = some { cls := .type "list", data := .seq its.toArray n }) (hf : f { cls := .type "list", data := .seq its.toArray n } = { cls := .type "list", data := .seq its'.toArray n' }) (r : Vals ys its') (hz : ys.length ≤ sizeLine) (t : Nat) :
   Inv X pins σ (upd H p (.lst ys)) { s with heap := s.heap.update p f, toks := t } := by
 have e : (s.heap.update p f).get? p = some { cls := .type "list", data := .seq its'.toArray n' } := by
   rw [Heap.get?_update_self f ho (by rw [hf] <;> rfl), hf]
 refine I.write (x := p) (e := p) (by rw [h]; trivial) (.inl rfl) (fun b u hb q => (Heap.get?_update_other _ _ (Ne.symm hb)).trans q) ⟨_, e⟩ ?_
 exact ⟨hz, its', n', r, e⟩
def rSetL : V → V → V → Hp → (Hp → Prop) → Prop := fun o i v H Q => ∃ p xs k j, o = .ref p ∧ i = .int k ∧ H p = some (.lst xs) ∧ ixN xs.length k = some j ∧ Q (upd H p (.lst (xs.set j v)))
theorem Xdd : PSet X rSetL := by
 intro pins s σ H o i v ov iv u Q I ro ri rv h
 obtain ⟨p, xs, k, j, rfl, rfl, hp, hj, q⟩ := h
 cases ro
 obtain ⟨t, rfl⟩ := ri
 obtain ⟨its, n, r, ho, hz⟩ := I.lst hp
 obtain ⟨h1, h2, h3, h4⟩ := ixN_seq hj
 have hl := r.length
 have hn := line63
 have I' : Inv X pins σ (upd H p (.lst (xs.set j v))) { s with heap := s.heap.update p (Obj.mapSeq (·.setIfInBounds j u)) } :=
   I.lstUpd hp ho (mapSeq_set its n j u) (r.set rv j) (by rw [List.length_set]; exact hz) s.toks
 by_cases h0 : 0 ≤ k
 · have hk : k.toNat = j := by
     rw [seqIndex_of h0 h4] at h1
     exact Option.some.inj h1
   exact PySem.W.ki_setAt ho h0 (by omega) (by rw [List.size_toArray, ← hl]; exact h4) (by rw [hk]; exact ⟨_, I', q⟩)
 · have hk : (k + (its.toArray.size : Int)).toNat = j := by
     rw [seqIndex_neg (by omega) h3] at h1
     rw [List.size_toArray, ← hl]
     exact Option.some.inj h1
   exact PySem.W.ki_setBack ho (by omega) (by rw [List.size_toArray, ← hl]; exact h3) (by omega) (by rw [hk]; exact ⟨_, I', q⟩)
theorem slice_bounds (lo hi : Option Int) (n : Nat) : (sliceBounds lo hi none n).1 = ((HT.sIx n 0 lo : Nat) : Int) ∧ (sliceBounds lo hi none n).2.1 = ((HT.sIx n n hi : Nat) : Int) ∧ (sliceBounds lo hi none n).2.2 = 1 := by
 refine ⟨?_, ?_, rfl⟩
 · cases lo with
   | none => simp [sliceBounds, HT.sIx]
   | some i =>
     simp only [sliceBounds, HT.sIx, Option.getD_none, show (1 : Int) > 0 by decide, if_true]
     by_cases h : i < 0
     · simp only [h, if_true] <;> omega
     · simp only [h, if_false] <;> omega
 · cases hi with
   | none => simp [sliceBounds, HT.sIx]
   | some i =>
     simp only [sliceBounds, HT.sIx, Option.getD_none, show (1 : Int) > 0 by decide, if_true]
     by_cases h : i < 0
     · simp only [h, if_true] <;> omega
     · simp only [h, if_false] <;> omega
theorem slicePick_cut (its : List Value) (lo hi : Option Int) : slicePick its.toArray lo hi none = ((its.drop (HT.sIx its.length 0 lo)).take (HT.sIx its.length its.length hi - HT.sIx its.length 0 lo)).toArray := by
 obtain ⟨h1, h2, h3⟩ := slice_bounds lo hi its.toArray.size
 unfold slicePick
 rw [h1, h2, h3]
 simp only [sliceRange_one, pick_run, List.size_toArray] <;> rfl
def rSlL (K : PySem.W.Frag) : V → Option Int → Option Int → Hp → VK → Prop := fun x lo hi H Q => ∃ a xs, x = .ref a ∧ SqL K H a xs ∧ ∀ p, H p = none → Q (.ref p) (upd H p (.lst (cutV xs lo hi)))
theorem sl_list : SlR X (rSlL X.K) := by
 intro pins s σ H x v vl vu lo hi sl Q I rx hs pl pu h
 obtain ⟨a, xs, rfl, hx, q⟩ := h
 cases rx
 obtain ⟨its, r, ht, hz⟩ := I.list hx
 have hlen := r.length
 refine ⟨"list", _, slot_list_getitem.lookup, ht.isList.typeIs, ?_⟩
 refine wpAny_getItem_list_slice ht.isList hs pl pu .none (by simp) ?_ (by rw [List.size_toArray] <;> omega)
 rw [slicePick_cut, ← hlen]
 refine ⟨.ref s.heap.objs.size, _, I.laid (t' := s.toks) (o := .lst (cutV xs lo hi)) (fun b ob q => Heap.get?_push_of_some _ q) (Nat.le_refl _) ?_, rfl, q _ (I.hok.fresh (Nat.le_refl _))⟩
 exact ⟨Nat.le_trans (cutV_length xs lo hi) hz, _, 0, (r.drop (HT.sIx xs.length 0 lo)).take (HT.sIx xs.length xs.length hi - HT.sIx xs.length 0 lo), Heap.get?_push_size _ rfl⟩
def flatV : V → Bool
 | .non => true
 | .bl _ => true
 | .int _ => true
 | .str _ => true
 | _ => false
def eqV : V → V → Bool
 | .non, .non => true
 | .bl a, .bl b => a == b
 | .bl a, .int b => (if a then 1 else 0) == b
 | .int a, .bl b => a == (if b then 1 else 0)
 | .int a, .int b => a == b
 | .str a, .str b => a == b
 | _, _ => false
theorem eqAt_V {A : Around} {s : Shared} {y x : V} {u v : Value} (ry : RelV y u) (rx : RelV x v) (fy : flatV y = true) (fx : flatV x = true) : SeqAt.EqAt A s u v (eqV y x) := by
 cases y with
 | non =>
   cases ry
   cases x with
   | non => cases rx; exact SeqAt.EqAt.same _
   | bl b => cases rx; exact SeqAt.EqAt.none_bool b
   | int b => obtain ⟨t, rfl⟩ := rx; exact SeqAt.EqAt.none_int b t
   | str b => obtain ⟨t, rfl⟩ := rx; exact SeqAt.EqAt.none_str b t
   | _ => exact absurd (show false = true from fx) Bool.false_ne_true
 | bl a =>
   cases ry
   cases x with
   | non => cases rx; exact SeqAt.EqAt.bool_none a
   | bl b => cases rx; exact SeqAt.EqAt.bool_bool a b
   | int b => obtain ⟨t, rfl⟩ := rx; exact SeqAt.EqAt.bool_int a b t
   | str b => obtain ⟨t, rfl⟩ := rx; exact SeqAt.EqAt.bool_str a b t
   | _ => exact absurd (show false = true from fx) Bool.false_ne_true
 | int a =>
   obtain ⟨t', rfl⟩ := ry
   cases x with
   | non => cases rx; exact SeqAt.EqAt.int_none a t'
   | bl b => cases rx; exact SeqAt.EqAt.int_bool a t' b
   | int b => obtain ⟨t, rfl⟩ := rx; exact SeqAt.EqAt.int_int a t' b t
   | str b => obtain ⟨t, rfl⟩ := rx; exact SeqAt.EqAt.int_str a t' b t
   | _ => exact absurd (show false = true from fx) Bool.false_ne_true
 | str a =>
   obtain ⟨t', rfl⟩ := ry
   cases x with
   | non => cases rx; exact SeqAt.EqAt.str_none a t'
   | bl b => cases rx; exact SeqAt.EqAt.str_bool a t' b
   | int b => obtain ⟨t, rfl⟩ := rx; exact SeqAt.EqAt.str_int a t' b t
   | str b => obtain ⟨t, rfl⟩ := rx; exact SeqAt.EqAt.str_str a t' b t
   | _ => exact absurd (show false = true from fx) Bool.false_ne_true
 | _ => exact absurd (show false = true from fy) Bool.false_ne_true
theorem Xbp : CallR X (.builtin "len") (fun xs H Q => ∃ p ys, xs = [.ref p] ∧ (SqL X.K H p ys ∨ SqT X.K H p ys) ∧ Q (.int ys.length) H) := by
 intro pins s σ H xs us Q I r h
 obtain ⟨p, ys, rfl, hq, q⟩ := h
 obtain ⟨u, rfl, rx⟩ := vals1 r
 cases rx
 have hn := line63
 rcases hq with hq | hq
 · obtain ⟨its, r', pl, hz⟩ := I.list hq
   have hlen := r'.length
   exact Calls.call_len_list pl.isList (by simp only [List.size_toArray] <;> omega) ⟨.int ys.length, H, I.tok _, ⟨s.toks + 1, by rw [List.size_toArray, hlen]⟩, q⟩
 · obtain ⟨its, r', pl, hz⟩ := I.tuple hq
   have hlen := r'.length
   exact len_tuple pl (by simp only [List.size_toArray] <;> omega) ⟨.int ys.length, H, I.tok _, ⟨s.toks + 1, by rw [List.size_toArray, hlen]⟩, q⟩
theorem Xcy : CallR X (.type "list") (fun xs H Q => ∃ p ys, xs = [.ref p] ∧ (SqL X.K H p ys ∨ SqT X.K H p ys) ∧ ∀ l, H l = none → Q (.ref l) (upd H l (.lst ys))) := by
 intro pins s σ H xs us Q I r h
 obtain ⟨p, ys, rfl, hq, q⟩ := h
 obtain ⟨u, rfl, rx⟩ := vals1 r
 cases rx
 have fin : ∀ (its : List Value), Vals ys its → ys.length ≤ sizeLine → ∀ (h' : Heap) (c' : Nat), (∀ b o', s.heap.get? b = some o' → h'.get? b = some o') →
     h'.get? s.heap.objs.size = some { cls := .type "list", dict := none, data := .seq its.toArray c', slots := #[] } → EP X pins σ Q (.ref s.heap.objs.size) { s with heap := h' } := fun its r' hz h' c' kp e =>
   ⟨.ref s.heap.objs.size, _, I.laid (t' := s.toks) kp (Nat.le_refl _) (show Xea X.prog X.w _ h' _ (.lst ys) from ⟨hz, its, c', r', e⟩), rfl, q _ (I.hok.fresh (Nat.le_refl _))⟩
 rcases hq with hq | hq
 · obtain ⟨its, r', pl, hz⟩ := I.list hq
   have hlen := r'.length
   obtain ⟨o, ho, hc, n, hd⟩ := pl.isList
   exact call_list_seq p (.inl rfl) ho hc hd (fun h' c' kp e => fin its r' hz h' c' kp e) (by simp only [List.size_toArray] <;> omega)
 · obtain ⟨its, r', pl, hz⟩ := I.tuple hq
   have hlen := r'.length
   obtain ⟨o, ho, hc, n, hd⟩ := pl
   exact call_list_seq p (.inr rfl) ho hc hd (fun h' c' kp e => fin its r' hz h' c' kp e) (by simp only [List.size_toArray] <;> omega)
def tyV (K : PySem.W.Frag) (T : String) (x : V) (H : Hp) : Prop := match x with
 | .str _ => T = "str"
 | .int _ => T = "int"
 | .ref p => (T = "list" ∧ ∃ xs, SqL K H p xs) ∨ (T = "tuple" ∧ ∃ o, K.lookup p = some o ∧ o.cls = .type "tuple" ∧ o.dict = none) ∨
     (T = "dict" ∧ ((∃ kvs, H p = some (.dK kvs)) ∨ ∃ kvs, H p = some (.dT kvs))) ∨ (T = "set" ∧ ∃ S n, H p = some (.set S n))
 | _ => False
theorem tyV_is {pins : List (Addr × Obj)} {σ : St} {H : Hp} {s : Shared} {T : String} {x : V} {v : Value} (I : Inv X pins σ H s) (r : RelV x v) (ty : tyV X.K T x H) :
   s.TypeIs v T ∧ ∀ a, v = .ref a → ∃ ob, s.heap.get? a = some ob ∧ ob.dict = none := by
 cases x with
 | str z =>
   obtain ⟨t, rfl⟩ := r
   cases (show T = "str" from ty)
   exact ⟨typeIs_str s z t, fun _ e => nomatch e⟩
 | int i =>
   obtain ⟨t, rfl⟩ := r
   cases (show T = "int" from ty)
   exact ⟨typeIs_int s i t, fun _ e => nomatch e⟩
 | ref p =>
   cases r
   rcases ty with ⟨rfl, xs, hq⟩ | ⟨rfl, o, hk, hc, hd⟩ | ⟨rfl, hk⟩ | ⟨rfl, S, n, hk⟩
   · obtain ⟨its, _, pl, _⟩ := I.list hq
     refine ⟨pl.isList.typeIs, fun a e => ?_⟩
     cases e
     obtain ⟨o, n, e, c, hd, _⟩ := pl
     exact ⟨o, e, hd⟩
   · refine ⟨⟨o, I.kIn p o hk, hc⟩, fun a e => ?_⟩
     cases e
     exact ⟨o, I.kIn _ o hk, hd⟩
   · have z : ∃ o, s.heap.get? p = some o ∧ o.ExactDict := by
       rcases hk with ⟨kvs, hk⟩ | ⟨kvs, hk⟩
       · obtain ⟨_, _, _, _, o, _, _, e, ex, _⟩ := I.hok p _ hk
         exact ⟨o, e, ex⟩
       · obtain ⟨_, _, _, _, o, _, _, e, ex, _⟩ := I.hok p _ hk
         exact ⟨o, e, ex⟩
     obtain ⟨o, e, ex⟩ := z
     refine ⟨⟨o, e, ex.1⟩, fun a e2 => ?_⟩
     cases e2
     exact ⟨o, e, ex.2.1⟩
   · obtain ⟨o, _, _, _, e, ex, _⟩ := I.hok p _ hk
     refine ⟨⟨o, e, ex.1⟩, fun a e2 => ?_⟩
     cases e2
     exact ⟨o, e, ex.2.1⟩
 | _ => exact False.elim ty
def tBM (K : PySem.W.Frag) (T : String) (r : V → List V → Hp → VK → Prop) (to : TE) (t : TA) : TE := fun σ H Q => to σ H fun x H1 => tyV K T x H1 ∧ t σ H1 fun xs H2 => r x xs H2 Q
variable {o e : Expr} {es : List Expr} {to : TE} {t : TA} {name : Str} {apos cpos : Pos} {T id : String} {r : V → List V → Hp → VK → Prop}
theorem pe_bm (pa : PlainAttrs T) (slot : Slot T name id) (hty : typeOf (.builtin id) = pure (.type "method_descriptor")) (hm : MtR X id r) (ho : PE X o to) (ha : PA X (e :: es) t)
   (hbase : attributeBase o name X.env (eval o X.env) = eval o X.env := by rfl)
   (hfew : ((backTo cpos (starEach (e :: es) X.env)).all (fun x => !x.1) && (backToKw cpos (keywordEach [] X.env)).all (fun x => x.1.isSome)
     && decide ((e :: es).length + ([] : List Keyword).length + (if ([] : List Keyword).isEmpty then 0 else 1) < 30)) = true := by rfl)
   (hline : (apos.endLine == cpos.line) = true := by rfl) (hs : starEach (e :: es) X.env = (false, eval e X.env) :: starEach es X.env := by rfl) (hplain : (backTo cpos (starEach es X.env)).any (·.1) = false := by rfl) :
   PE X (.Call (.Attribute o name apos) (e :: es) [] cpos) (tBM X.K T r to t) := by
 intro pins s σ H Q I h
 refine wpAny_Call_method_late hbase hfew hline rfl (thn (ho pins s σ H _ I h) fun v s1 ⟨x, H1, I1, r1, ty, q1⟩ => ?_)
 obtain ⟨h1, h2⟩ := tyV_is I1 r1 ty
 refine ⟨T, id, pa, slot, hty, h1, h2, ?_⟩
 have hA := ha cpos pins s1 σ H1 _ I1 q1
 rw [hs] at hA ⊢
 refine Calls.callWith_builtin (by show (false || (backTo cpos (starEach es X.env)).any (·.1)) = false; rw [hplain] <;> rfl) (Calls.evalArgs_plain ?_)
 exact thn hA fun us s2 ⟨vs, H2, I2, r2, q2⟩ => hm pins s2 σ H2 x vs v us Q I2 r1 r2 q2
/- xs.append(e), list.index on a module's tuple .. are MtR facts of 06m -/
end
end L2
namespace L2
open PySem PySem.Spec PyProof.Rows
def MtM (X : Cx) (id : String) (r : V → List V → Hp → VK → Prop) : Prop :=
 ∀ (pins : List (Addr × Obj)) (s : Shared) (σ : St) (H : Hp) (x : V) (xs : List V) (v : Value) (us : List Value) (Q : VK), Inv X pins σ H s → RelV x v → Vals xs us → r x xs H Q →
   wpAny (model X.prog X.w) X.A (call (.builtin id) (v :: us)) (EP X pins σ Q) X.xe s
theorem Vals.one : ∀ {x : V} {us : List Value}, Vals [x] us → ∃ u, us = [u] ∧ RelV x u
 | _, _, .cons r .nil => ⟨_, rfl, r⟩
theorem Vals.zero : ∀ {us : List Value}, Vals [] us → us = []
 | _, .nil => rfl
theorem Vals.dropLast {xs : List V} {us : List Value} (h : Vals xs us) : Vals xs.dropLast us.dropLast := by
 induction h with
 | nil => exact .nil
 | cons r t ih =>
   cases t with
   | nil => exact .nil
   | cons q t' => exact .cons r ih
theorem Vals.rep {xs : List V} {us : List Value} (h : Vals xs us) : ∀ k : Nat, Vals (List.replicate k xs).flatten (List.replicate k us).flatten
 | 0 => .nil
 | k + 1 => by
   rw [List.replicate_succ, List.replicate_succ, List.flatten_cons, List.flatten_cons]
   exact Vals.append h (Vals.rep h k)
theorem foldl_rep (its : List Value) : ∀ (k : Nat) (acc : List Value),
   List.foldl (fun x1 x2 => x1 ++ x2) acc.toArray (List.replicate k its.toArray) = (acc ++ (List.replicate k its).flatten).toArray
 | 0, acc => by simp
 | k + 1, acc => by
   have e : acc.toArray ++ its.toArray = (acc ++ its).toArray := by simp
   have e2 : (acc ++ its) ++ (List.replicate k its).flatten = acc ++ (List.replicate (k + 1) its).flatten := by
     rw [List.replicate_succ, List.flatten_cons, List.append_assoc]
   rw [← e2, ← foldl_rep its k (acc ++ its), ← e, List.replicate_succ, List.foldl_cons]
section
variable {X : Cx} {pins : List (Addr × Obj)} {σ : St} {H : Hp} {s : Shared} {l b : Addr} {xs ys zs : List V}
theorem Inv.lset {its its' : List Value} {n : Nat} {f : Array Value → Array Value} {t' : Nat} (I : Inv X pins σ H s) (hH : H l = some (.lst xs))
   (e : s.heap.get? l = some { cls := .type "list", data := .seq its.toArray n }) (hf : f its.toArray = its'.toArray) (hv : Vals ys its') (hz : ys.length ≤ sizeLine) :
   Inv X pins σ (upd H l (.lst ys)) { s with heap := s.heap.update l (Obj.mapSeq f), toks := t' } := by
 have q := PySem.IsL.update e f
 rw [hf] at q
 refine I.write (x := l) (e := l) (by rw [hH]; exact trivial) (.inl rfl) (fun b' u hb hu => (Heap.get?_update_other s.heap (Obj.mapSeq f) (Ne.symm hb)).trans hu) ⟨_, q⟩ ?_
 exact ⟨hz, its', _, hv, q⟩
theorem Inv.lnew {its : List Value} {t' : Nat} (I : Inv X pins σ H s) (hv : Vals ys its) (hz : ys.length ≤ sizeLine) :
   Inv X pins σ (upd H s.heap.objs.size (.lst ys)) { s with heap := s.heap.push { cls := .type "list", data := .seq its.toArray }, toks := t' } :=
 I.laid (fun _ _ q => Heap.get?_push_of_some _ q) (Nat.le_refl _) ⟨hz, its, 0, hv, Heap.get?_push_size _ rfl⟩
theorem Inv.fresh (I : Inv X pins σ H s) : H s.heap.objs.size = none := I.hok.fresh (Nat.le_refl _)
theorem Inv.lstM (I : Inv X pins σ H s) (hH : H l = some (.lst xs)) : xs.length ≤ sizeLine ∧ ∃ (its : List Value) (n : Nat), Vals xs its ∧ xs.length = its.length ∧ s.heap.get? l = some { cls := .type "list", data := .seq its.toArray n } := by
 obtain ⟨z, its, n, r, e⟩ := I.hok l _ hH
 exact ⟨z, its, n, r, r.length, e⟩
theorem notLongL {n : Nat} (h : n ≤ sizeLine) : Builtin.List.listTooLong n = false := by
 unfold Builtin.List.listTooLong
 exact decide_eq_false (by omega)
end
section
variable {X : Cx}
def rAppend : V → List V → Hp → VK → Prop := fun x vs H Q => ∃ l xs y, x = .ref l ∧ vs = [y] ∧ H l = some (.lst xs) ∧ xs.length < sizeLine ∧ Q .non (upd H l (.lst (xs ++ [y])))
theorem Xcb : MtM X "list.append" rAppend := by
 intro pins s σ H x vs v us Q I rx rv h
 obtain ⟨l, xs, y, rfl, rfl, hH, hz, q⟩ := h
 cases rx
 obtain ⟨u, rfl, ru⟩ := rv.one
 obtain ⟨z, its, n, r, hl, e⟩ := I.lstM hH
 refine call_meets F.slot_list_append ⟨_, e, rfl⟩ F.entry_list_append (F.args_list_append_2 _ _) (PySem.list_append l its.toArray n u (by rw [List.size_toArray]; omega)) ⟨e, ?_⟩
 refine ⟨.non, _, I.lset (its' := its ++ [u]) hH e (by simp) (r.append (.cons ru .nil)) ?_, rfl, q⟩
 rw [List.length_append, List.length_singleton]
 omega
def rExtend : V → List V → Hp → VK → Prop := fun x vs H Q => ∃ l b xs zs, x = .ref l ∧ vs = [.ref b] ∧ H l = some (.lst xs) ∧ H b = some (.lst zs) ∧ xs.length + zs.length ≤ sizeLine ∧ Q .non (upd H l (.lst (xs ++ zs)))
theorem mt_extend : MtM X "list.extend" rExtend := by
 intro pins s σ H x vs v us Q I rx rv h
 obtain ⟨l, b, xs, zs, rfl, rfl, hH, hB, hz, q⟩ := h
 cases rx
 obtain ⟨u, rfl, ru⟩ := rv.one
 cases ru
 obtain ⟨z, its, n, r, hl, e⟩ := I.lstM hH
 obtain ⟨z2, its2, n2, r2, hl2, e2⟩ := I.lstM hB
 have hsz : its.toArray.size + its2.toArray.size ≤ sizeLine := by rw [List.size_toArray, List.size_toArray]; omega
 have hlong : ¬ (!its.toArray.isEmpty && Builtin.List.listTooLong (its.toArray.size + its2.toArray.size)) = true := by
   rw [notLongL hsz, Bool.and_false]
   exact Bool.false_ne_true
 refine call_meets F.slot_list_extend ⟨_, e, rfl⟩ F.entry_list_extend (F.args_list_extend_2 _ _)
   (AutoSeq1.list_extend_list_list_0 l its.toArray n b its2.toArray n2 hlong (by rw [List.size_toArray]; omega) (by omega)) ⟨e, e2, ?_⟩
 refine ⟨.non, _, I.lset (its' := its ++ its2) hH e (by simp) (r.append r2) ?_, rfl, q⟩
 rw [List.length_append]
 omega
def rCat : R2 := fun x y H Q => ∃ l b xs zs, x = .ref l ∧ y = .ref b ∧ H l = some (.lst xs) ∧ H b = some (.lst zs) ∧ xs.length + zs.length ≤ sizeLine ∧ ∀ p, H p = none → Q (.ref p) (upd H p (.lst (xs ++ zs)))
theorem op_cat : OpR X (binaryOp .Add) rCat := by
 intro pins s σ H x y v u Q I rx ry h
 obtain ⟨l, b, xs, zs, rfl, rfl, hH, hB, hz, q⟩ := h
 cases rx
 cases ry
 obtain ⟨z, its, n, r, hl, e⟩ := I.lstM hH
 obtain ⟨z2, its2, n2, r2, hl2, e2⟩ := I.lstM hB
 refine PySem.P.add_list e e2 ?_ (by rw [List.size_toArray, List.size_toArray]; omega)
 have ea : its.toArray ++ its2.toArray = (its ++ its2).toArray := by simp
 rw [ea]
 exact ⟨.ref _, _, I.lnew (t' := s.toks) (r.append r2) (by rw [List.length_append]; omega), rfl, q _ I.fresh⟩
def rRep : R2 := fun x y H Q => ∃ l k xs, x = .ref l ∧ y = .int k ∧ H l = some (.lst xs) ∧ -(2 ^ 63) ≤ k ∧ k < 2 ^ 63 ∧ xs.length * k.toNat ≤ sizeLine ∧
 ∀ p, H p = none → Q (.ref p) (upd H p (.lst (List.replicate k.toNat xs).flatten))
theorem len_rep {α : Type} (xs : List α) (k : Nat) : (List.replicate k xs).flatten.length = k * xs.length := by
 induction k with
 | zero => simp
 | succ k ih => rw [List.replicate_succ, List.flatten_cons, List.length_append, ih, Nat.succ_mul, Nat.add_comm]
theorem op_rep : OpR X (binaryOp .Mult) rRep := by
 intro pins s σ H x y v u Q I rx ry h
 obtain ⟨l, k, xs, rfl, rfl, hH, h1, h2, hz, q⟩ := h
 cases rx
 obtain ⟨t, rfl⟩ := ry
 obtain ⟨z, its, n, r, hl, e⟩ := I.lstM hH
 have hlen : its.toArray.size * k.toNat ≤ sizeLine := by rw [List.size_toArray, ← hl]; exact hz
 have hcap : ¬ its.toArray.size * k.toNat > (2 ^ 63 - 1) / 8 := by
   have : (sizeLine : Nat) ≤ (2 ^ 63 - 1) / 8 := by decide
   omega
 have hfit : ¬ (!Builtin.List.listFitsIndex k) = true := by
   rw [fitsIndex_both h1 h2]
   exact Bool.false_ne_true
 have hlong : ¬ Builtin.List.listTooLong (its.toArray.size * k.toNat) = true := by
   rw [notLongL hlen]
   exact Bool.false_ne_true
 have hnew : List.foldl (fun x1 x2 => x1 ++ x2) #[] (List.replicate (if its.toArray.isEmpty = true then 0 else k.toNat) its.toArray) = (List.replicate k.toNat its).flatten.toArray := by
   have f0 : ∀ m : Nat, List.foldl (fun x1 x2 => x1 ++ x2) #[] (List.replicate m its.toArray) = (List.replicate m its).flatten.toArray := fun m => by
     have := foldl_rep its m []
     rw [List.nil_append] at this
     exact this
   rw [f0]
   cases its with
   | nil => simp
   | cons a r' => rw [if_neg (by simp)]
 refine wpAny_binaryOp_repeat_ref (T := "list") (U := "int") (by decide) ⟨_, e, rfl⟩ (fun s' => typeIs_int s' k t) noFill_list_mul F.fills_int_mul F.slot_int_rmul repeat_list F.slot_int_index.lookup
   (call_meets F.slot_int_rmul (typeIs_int s k t) F.entry_int_rmul (F.args_int_rmul_2 _ _) (int___rmul___int_list k t l its.toArray n)
     ⟨e, rfl, ⟨_, e, rfl⟩, call_meets F.slot_list_mul ⟨_, e, rfl⟩ F.entry_list_mul (F.args_list_mul_2 _ _) (AutoListH.list___mul___list_int_3 l its.toArray n k t hfit hcap hlong) ⟨e, ?_⟩⟩)
 rw [hnew]
 exact ⟨.ref _, _, I.lnew (t' := s.toks) (r.rep k.toNat) (by rw [len_rep, Nat.mul_comm]; exact hz), rfl, q _ I.fresh⟩
end
section
variable {prog : Program} {w : World} {A : Around} {E : Value → Shared → Prop} {s : Shared}
end
section
variable {X : Cx}
end
end L2
namespace Att
open PySem PySem.W PySem.Calls PyProof.Rows
theorem ints_of_wellAll {P : Params} {h : Heap} : ∀ (ns : List Int) (vs : List Value), WellAll P h vs (ns.map WData.int) → IntsAre vs ns := by
 intro ns
 induction ns with
 | nil =>
   intro vs w
   rw [List.map_nil] at w
   cases w
   exact .nil
 | cons n ns ih =>
   intro vs w
   rw [List.map_cons] at w
   cases w with
   | cons a b =>
     cases a
     exact .cons _ _ (ih _ b)
theorem script_of {l : OpenLaw} {n : Nat} (hn : l.most = some n) {P : Params} {h : Heap} {args : List WData} {vals : List Value}
   (hpre : l.row.toRowW.claim.pre args = true) (hwl : WellAll P h vals args) :
   ∃ a vs ns, vals = [Value.ref a] ∧ args = [WData.list (ns.map WData.int)] ∧ h.get? a = some { cls := .type "list", data := .seq vs.toArray } ∧ IntsAre vs ns ∧ ns.length ≤ n := by
 have hsh : WShape.hasAll [] args [.list .int] = true := (pre_splitW hpre).1
 have hc : l.pre.holds [] { args := args } = true := (pre_splitW hpre).2
 obtain ⟨d, r, rfl, h1, h2⟩ := hasAllW_cons hsh
 obtain rfl := hasAllW_nil h2
 obtain ⟨xs, rfl, h3⟩ := hasW_list h1
 obtain ⟨ns, rfl⟩ := items_int h3
 have hlen : ns.length ≤ n := by
   unfold OpenLaw.pre at hc
   have h4 : (WTm.not (.lt (.lit (.int (n : Int))) (.len (.arg 0)))).holds [] { args := [.list (ns.map .int)] } = true := by
     have h4 := (holds_andW hc).1
     rw [hn] at h4
     exact h4
   have h5 := condW_of h4 (w_not (w_lt w_lit (w_len_list (w_arg rfl))))
   rw [List.length_map] at h5
   refine Nat.le_of_not_lt fun q => ?_
   have q' : (n : Int) < ((ns.length : Nat) : Int) := by omega
   first
     | (rw [decide_eq_true q'] at h5; exact absurd h5 (by decide))
     | (simp at h5; omega)
 cases hwl with
 | cons w1 w2 =>
   cases w2
   cases w1 with
   | list ho hall => exact ⟨_, _, ns, rfl, rfl, ho, ints_of_wellAll ns _ hall, hlen⟩
theorem post_true (l : OpenLaw) (args : List WData) : l.row.toRowW.claim.post args (.bool true) args = true :=
 postW_of (r := l.row.toRowW) (X := (true == true))
   (show WShape.has [] (.bool true) .bool = true by first | rfl | decide | simp [WShape.has, WShape.arms, WShape.armsAll])
   (show (WTm.eq .res (.lit (.bool true))).value [] { args := args, res := some (.bool true), after := args } = some (.bool (true == true)) from w_eq_bool (w_res rfl) w_lit) rfl
theorem attach_call {l : OpenLaw} {n : Nat} {q : Program} {loose : List Str} {XP : (Str → Option Value) → Heap → Prop} {YP : World → Heap → Prop} {d : DefRec}
   (hn : l.most = some n) (hdf : d.params.defaults = [])
   (call : ∀ (w : World) (s₀ s₁ : Shared) (mg mb : Str → Option Value) (fa : Addr) (o : Obj) (pm cd doc : Value) (a : Addr) (vs : List Value) (ns : List Int),
     Ground q loose [] XP w s₀ mg mb s₁.heap → YP w s₁.heap →
     s₁.heap.get? fa = some o → o.data = .func (docDef d.name d.params d.body d.scope pm cd doc) → s₁.heap.CodeRec cd d.name → mg d.name = some (.ref fa) →
     s₁.heap.get? a = some { cls := .type "list", data := .seq vs.toArray } → IntsAre vs ns → ns.length ≤ n → s₁.gens = #[] →
     codeAny (model l.prog w) callerA (.call (.ref fa) ⟨[.ref a], []⟩) (fun r s' => r = .ok (.ret (.bool true)) ∧ OldK s₁.heap s'.heap ∧ s'.os = s₁.os ∧ AllBare s'.gens) s₁) :
   WalkO q loose XP YP l.row.toRowW d [] (fun f vs => PySem.call f vs) := by
 intro w s₀ s₁ mg mb G Y fa o pm cd doc dV kV ho hd hcd hD hmg hg args vals as hpre hlay hrd hwl hlo
 obtain rfl : dV = .none := Dflts.none hD hdf
 obtain rfl : kV = .none := Dflts.noKw hD
 obtain ⟨a, vs, ns, rfl, rfl, hobj, hints, hlen⟩ := script_of hn hpre hwl
 refine enter_call (codeAny_mono (call w s₀ s₁ mg mb fa o pm cd doc a vs ns G Y ho (fd_plain hd) hcd hmg hobj hints hlen hg) fun r s' hq => ?_)
 obtain ⟨rfl, h2, h3, h4⟩ := hq
 exact ⟨.inl ⟨.bool true, .bool true, [], rfl, fun _ => rfl, .bool true, post_true l _, fun _ => ⟨List.Pairwise.nil, fun _ hm => (nomatch hm)⟩⟩, h2, h3, h4⟩
section
variable {prog : Program} {w : World} {A : Around} {E : Value → Shared → Prop} {s : Shared} {K : Frag}
end
end Att
namespace L2
open PySem PySem.Spec PyProof.Rows
theorem vals_ints : ∀ {vs : List Value} {ns : List Int}, IntsAre vs ns → Vals (ns.map V.int) vs
 | _, _, .nil => .nil
 | _, _, .cons n t h => .cons ⟨t, rfl⟩ (vals_ints h)
def Only (H : Hp) : Prop := ∀ b, H b = none ∨ ∃ o xs, H b = some (.frz o (.lst xs))
theorem law_call {P : Program} {w : World} {K : PySem.W.Frag} {mg mb : Str → Option Value} {CX : CXT} {k : Nat} {fa a : Addr} {fd : FuncData} {x : Str} {sp : Sp} {s₁ : Shared} {vs : List Value} {ns : List Int}
   (KX : K.In s₁.heap) (hns : s₁.heap.Ns mainGlobals mg) (hb : s₁.heap.Ns builtinsNs mb) (hbb : ∀ x : Str, x ≠ "__name__" → mb x = bootBuiltins x) (hlim : s₁.heap.NoLimit) (hg : s₁.gens = #[])
   (ha : s₁.heap.get? a = some { cls := .type "list", data := .seq vs.toArray }) (hi : IntsAre vs ns) (hl : ns.length ≤ sizeLine) (hr : Room k callerA)
   (F : ∀ base : Heap, K.In base → base.Ns mainGlobals mg → FnOk P w K mg base CX k fa fd [x] sp) (hbind : ∀ (s : Shared) (u : Value), BindsTo s fd ⟨[u], []⟩ [(x, u)])
   (hsp : ∀ H : Hp, Only H → SqL K H a (ns.map V.int) → sp [.ref a] H (fun v _ => v = .bl true) fun _ _ _ => False)
   (hCX : ∀ H e s', CX [] H s₁ (fun _ _ _ => False) e s' → False) :
   codeAny (model P w) callerA (.call (.ref fa) ⟨[.ref a], []⟩) (fun r s' => r = .ok (.ret (.bool true)) ∧ OldK s₁.heap s'.heap ∧ s'.os = s₁.os ∧ AllBare s'.gens) s₁ := by
 have rv := vals_ints hi
 have lenV := hi.length
 -- from an abstract heap in which nothing but the script may be tracked
 have core : ∀ H : Hp, Only H → SqL K H a (ns.map V.int) → HOk P w H s₁.heap → (∀ b, H b ≠ none → b = a) → (H a ≠ none → K.lookup a = none) →
     codeAny (model P w) callerA (.call (.ref fa) ⟨[.ref a], []⟩) (fun r s' => r = .ok (.ret (.bool true)) ∧ OldK s₁.heap s'.heap ∧ s'.os = s₁.os ∧ AllBare s'.gens) s₁ := by
   intro H hO hS hok hA hK
   have base_of : ∀ {b : Addr} {o : Obj}, s₁.heap.get? b = some o → H b = none → (hidT s₁.heap H).get? b = some o := fun e n => hidT_get e n
   have noA : ∀ {b : Addr} {o : Obj} {es : Array DictEntry} {ep : Nat}, s₁.heap.get? b = some o → o.data = .dict es ep → H b = none := fun {b o es ep} e d => by
     cases q : H b with
     | none => rfl
     | some u =>
       have e' : b = a := hA b (by rw [q]; simp)
       subst e'
       rw [ha] at e; cases e
       have d' : Data.seq vs.toArray _ = Data.dict es ep := d
       cases d'
   have nsK : ∀ {b : Addr} {m : Str → Option Value}, s₁.heap.Ns b m → (hidT s₁.heap H).Ns b m := fun {b m} ⟨o, es, ep, e, d, r⟩ => ⟨o, es, ep, base_of e (noA e d), d, r⟩
   have hKb : K.In (hidT s₁.heap H) := fun b o e => base_of (KX b o e) (by
     cases q : H b with
     | none => rfl
     | some u =>
       have e' : b = a := hA b (by rw [q]; simp)
       subst e'
       rw [hK (by rw [q]; simp)] at e; cases e)
   have hM : Mod K mg (hidT s₁.heap H) := ⟨hKb, nsK hns, ⟨mb, nsK hb, hbb⟩, let ⟨mc, h1, h2⟩ := hlim; ⟨mc, nsK h1, h2⟩⟩
   have e0 : Env0 P w K mg (hidT s₁.heap H) callerA [] s₁ H := ⟨rfl, hM, fun b o e => of_hidT e, Nat.le_of_eq (hidT_size _ _), trivial, fun b hb => absurd (show b ∈ ([] : List Addr) from hb) (by simp), hok, .of_eq hg⟩
   refine codeAny_mono ((F _ hKb (nsK hns)).run callerA [] s₁ H ⟨[.ref a], []⟩ [.ref a] [.ref a] _ _ hr e0 (hbind s₁ (.ref a)) (.cons rfl .nil) (hsp H hO hS)) fun r s' h => ?_
   cases r with
   | error e => exact (hCX H e s' h).elim
   | ok fl =>
     cases fl with
     | next => exact False.elim h
     | brk => exact False.elim h
     | cont => exact False.elim h
     | ret u =>
       obtain ⟨v, H', os, bare, un, hok', r', q⟩ := h
       have q' : v = .bl true := q
       subst q'
       obtain rfl : u = Value.bool true := r'
       refine ⟨rfl, OldK.of_keep fun b o e => ?_, os, bare⟩
       cases q : H b with
       | none => exact un.keep b o e q (by intro z; exact absurd (show b ∈ ([] : List Addr) from z) (by simp)) (by simp)
       | some u =>
         rcases hO b with z | ⟨ob, xs, z⟩
         · rw [q] at z; cases z
         · have z2 := un.frzs b ob _ z
           obtain ⟨e1, _⟩ := hok b _ z
           obtain ⟨e2, _⟩ := hok' b _ z2
           rw [e] at e1; cases e1
           exact e2
 cases hk : K.lookup a with
 | some o =>
   -- the script is one of the module's own objects
   have e := KX a o hk
   rw [ha] at e
   cases e
   refine core (fun _ => none) (fun _ => .inl rfl) (.inr ⟨_, vs.toArray, _, hk, rfl, rfl, rfl, by rw [List.size_toArray, lenV]; exact hl, by simpa using rv⟩) (fun b u z => by have z' : (none : Option HO) = some u := z; cases z') (fun b z => absurd rfl z) fun z => absurd rfl z
 | none =>
   refine core (fun b => if b = a then some (.frz { cls := .type "list", data := .seq vs.toArray } (.lst (ns.map V.int))) else none) (fun b => ?_) (.inl (.inr ⟨{ cls := .type "list", data := .seq vs.toArray }, if_pos rfl⟩)) (fun b u z => ?_) (fun b z => ?_) fun _ => hk
   · by_cases hb : b = a
     · exact .inr ⟨_, _, if_pos hb⟩
     · exact .inl (if_neg hb)
   · by_cases hb : b = a
     · have z' := (if_pos hb).symm.trans z
       cases z'
       subst hb
       exact ⟨ha, by rw [List.length_map]; exact hl, vs, _, rv, ha⟩
     · have z' := (if_neg hb).symm.trans z
       cases z'
   · by_cases hb : b = a
     · exact hb
     · exact absurd (if_neg hb) z
end L2
namespace L2
open PySem PySem.Spec PyProof.Rows
theorem walk_of {l : PySem.W.OpenLaw} {n k : Nat} {q : Program} {loose : List Str} {XP : (Str → Option Value) → Heap → Prop} {YP : World → Heap → Prop} {d : DefRec} {K : Params → PySem.W.Frag} {CX : World → CXT} {sp : World → Sp} {x : Str}
   (hn : l.most = some n) (hn2 : n ≤ sizeLine) (hdf : d.params.defaults = []) (hr : Room k callerA)
   (hY : ∀ (w : World) (h : Heap), YP w h → (K w.params).In h)
   (F : ∀ (w : World) (mg : Str → Option Value) (fa : Addr) (h : Heap), (K w.params).In h → h.Ns mainGlobals mg → mg d.name = some (.ref fa) →
     ∃ fd : FuncData, (∀ (s : Shared) (u : Value), BindsTo s fd ⟨[u], []⟩ [(x, u)]) ∧
       ∀ base : Heap, (K w.params).In base → base.Ns mainGlobals mg → FnOk l.prog w (K w.params) mg base (CX w) k fa fd [x] (sp w))
   (hsp : ∀ (w : World) (H : Hp) (a : Addr) (ns : List Int), ns.length ≤ n → Only H → SqL (K w.params) H a (ns.map V.int) → sp w [.ref a] H (fun v _ => v = .bl true) fun _ _ _ => False)
   (hCX : ∀ (w : World) (H : Hp) (s : Shared) (e : Value) (s' : Shared), CX w [] H s (fun _ _ _ => False) e s' → False) :
   PySem.W.WalkO q loose XP YP l.row.toRowW d [] (fun f vs => PySem.call f vs) := by
 refine Att.attach_call hn hdf fun w s₀ s₁ mg mb fa o pm cd doc a vs ns G Y ho hd hcd hmg hobj hints hlen hg => ?_
 have KX := hY w _ Y
 obtain ⟨fd, hb, hF⟩ := F w mg fa _ KX G.T.g hmg
 exact law_call KX G.T.g G.T.b G.T.builtins G.T.nolimit hg hobj hints (Nat.le_trans hlen hn2) hr hF hb (fun H hO hS => hsp w H a ns hlen hO hS) fun H e s' => hCX w H s₁ e s'
end L2
namespace L2
open PySem PySem.Spec PyProof.Rows
abbrev CX0 : CXT := fun _ _ _ _ _ _ => False
abbrev E0 : XK := fun _ _ _ => False
structure Fun (K : PySem.W.Frag) (x qual : Str) (st : Stmt) (f : Addr) (fd : FuncData) : Prop where
 ex : ∃ (oc : Value) (od : Option Addr) (kV doc pm : Value) (an : Option Addr) (cdv ct : Value) (osl : Array (Option Value)),
   fd = PySem.W.fnOf x qual (Xaf st) (Xae st) (Xab st) .none kV doc pm an cdv ct ∧ K.lookup f = some ⟨oc, od, .func fd, osl⟩ ∧ PySem.W.codeIn K cdv qual = true
 kp : PySem.W.keepIn K (.ref f) = true
section
variable {P : Program} {w : World} {K : PySem.W.Frag} {mg : Str → Option Value} {base : Heap}
theorem Fun.ok {x qual : Str} {st : Stmt} {f : Addr} {fd : FuncData} {N ps : List Str} {k : Nat} {sp : Sp} (F : Fun K x qual st f fd) (S : FnScope N ps (Xab st)) (len : ∀ vs H Q E, sp vs H Q E → vs.length = ps.length)
   (hbody : ∀ (cdv : Value) (A : Around) (outer : List Env) (s : Shared) (H : Hp) (vs : List V) (Q : VK) (E : XK), Room k (A.deeper (envOfC qual (Xab st) s.heap.objs.size f cdv)) → sp vs H Q E →
     ∃ t, PSs (cxOf CX0 P w K mg base N qual (Xab st) f cdv A outer s H E).nox (Xae st) t ∧ t { nx := fun _ H' => Q .non H', rt := Q } (start N vs) H) : FnOk P w K mg base CX0 (k + 1) f fd ps sp := by
 obtain ⟨oc, od, kV, doc, pm, an, cdv, ct, osl, rfl, lk, hcd⟩ := F.ex
 refine fn_of lk hcd S len fun A outer s H vs Q E hr hsp => ?_
 obtain ⟨t, h, q⟩ := hbody cdv A outer s H vs Q E hr hsp
 exact ⟨t, h.nox, q⟩
theorem Fun.binds {x qual : Str} {st : Stmt} {f : Addr} {fd : FuncData} {ps : List Str} (F : Fun K x qual st f fd)
   (h : ∀ (kV doc pm : Value) (an : Option Addr) (cdv ct : Value) (us : List Value), us.length = ps.length → bindArgs (PySem.W.fnOf x qual (Xaf st) (Xae st) (Xab st) .none kV doc pm an cdv ct) ⟨us, []⟩ = pure (ps.zip us)) : Xdc K fd ps [] := by
 obtain ⟨oc, od, kV, doc, pm, an, cdv, ct, osl, rfl, lk, hcd⟩ := F.ex
 exact .all (h kV doc pm an cdv ct)
theorem Xcq {x qual : Str} {st : Stmt} {f : Addr} {oc : Value} {od an : Option Addr} {osl : Array (Option Value)} {kV doc pm cdv ct : Value} (l : K.lookup f = some ⟨oc, od, .func (PySem.W.fnOf x qual (Xaf st) (Xae st) (Xab st) .none kV doc pm an cdv ct), osl⟩)
   (c : PySem.W.codeIn K cdv qual = true) (k : PySem.W.keepIn K (.ref f) = true) : Fun K x qual st f (PySem.W.fnOf x qual (Xaf st) (Xae st) (Xab st) .none kV doc pm an cdv ct) := ⟨⟨oc, od, kV, doc, pm, an, cdv, ct, osl, rfl, l, c⟩, k⟩
end
theorem small1000 {n : Nat} (h : n ≤ 1000) : n < sizeLine := Nat.lt_of_le_of_lt h (by decide)
section
variable {X : Cx}
theorem pv (i : Nat) {x : Str} {pos : Pos} (hN : X.N[i]? = some x := by rfl) (hv : Vis X.env.scope x := by first | exact Or.inl rfl | exact Or.inr (Or.inl rfl) | exact Or.inr (Or.inr rfl)) (hd : (x == ("__debug__" : Str)) = false := by decide)
   (hcd : (x == ("__classdict__" : Str)) = false := by decide) : PE X (.Name x pos) (tVar i) := pe_var hN hv hd hcd
end
theorem iteF {A B : Prop} (h : B) : if false = true then A else B := by
 rw [if_neg Bool.false_ne_true]
 exact h
theorem iteT {A B : Prop} (h : A) : if true = true then A else B := by
 rw [if_pos rfl]
 exact h
def Same (H H' : Hp) : Prop := ∀ b o, H b = some o → H' b = some o
theorem Same.refl (H : Hp) : Same H H := fun _ _ h => h
theorem Same.trans {H H1 H2 : Hp} (a : Same H H1) (b : Same H1 H2) : Same H H2 := fun c o h => b c o (a c o h)
theorem Same.free {H H' : Hp} (e : Same H H') {l : Addr} (h : H' l = Option.none) : H l = Option.none := by
 cases q : H l with
 | none => rfl
 | some o =>
   rw [e l o q] at h
   cases h
theorem Same.seq {K : PySem.W.Frag} {H H' : Hp} {a : Addr} {xs : List V} (e : Same H H') (h : SqL K H a xs) : SqL K H' a xs := by
 rcases h with (h | ⟨o, h⟩) | h
 · exact .inl (.inl (e _ _ h))
 · exact .inl (.inr ⟨o, e _ _ h⟩)
 · exact .inr h
end L2
set_option Elab.async false
set_option linter.all false
set_option maxRecDepth 100000
set_option maxHeartbeats 4000000
namespace Stow
structure Pc where
 a : Int
 l : Int
 v : Bool
 deriving DecidableEq
def mkOf (l : Int) (v : Bool) : Int := l * 2 + (if v then 1 else 0)
def Pc.mk' (p : Pc) : Int := mkOf p.l p.v
def Xam : Int → List Pc → Int → Prop
 | s, [], e => s = e
 | s, p :: r, e => p.a = s ∧ 1 ≤ p.l ∧ (p.v = true → 3 ≤ p.l) ∧ Xam (s + p.l) r e
theorem Xam.le : ∀ {ps : List Pc} {s e : Int}, Xam s ps e → s + ps.length ≤ e
 | [], s, e, h => by have h : s = e := h; simp [h]
 | p :: r, s, e, h => by
   obtain ⟨_, h1, _, h2⟩ := h
   have := Xam.le h2
   simp only [List.length_cons]; omega
theorem Xam.app : ∀ {ps qs : List Pc} {s m e : Int}, Xam s ps m → Xam m qs e → Xam s (ps ++ qs) e
 | [], _, s, m, e, h, k => by have h : s = m := h; subst h; exact k
 | p :: r, qs, s, m, e, h, k => by
   obtain ⟨h0, h1, h2, h3⟩ := h
   exact ⟨h0, h1, h2, Xam.app h3 k⟩
theorem Xam.one {p : Pc} (h1 : 1 ≤ p.l) (h3 : p.v = true → 3 ≤ p.l) : Xam p.a [p] (p.a + p.l) := ⟨rfl, h1, h3, rfl⟩
theorem Xam.snoc {ps : List Pc} {s : Int} {p : Pc} (h : Xam s ps p.a) (h1 : 1 ≤ p.l) (h3 : p.v = true → 3 ≤ p.l) : Xam s (ps ++ [p]) (p.a + p.l) := h.app (.one h1 h3)
theorem Xam.mem : ∀ {ps : List Pc} {s e : Int}, Xam s ps e → ∀ p ∈ ps, s ≤ p.a ∧ 1 ≤ p.l ∧ (p.v = true → 3 ≤ p.l) ∧ p.a + p.l ≤ e
 | [], _, _, _, p, hp => by cases hp
 | q :: r, s, e, h, p, hp => by
   obtain ⟨h0, h1, h2, h3⟩ := h
   rcases List.mem_cons.mp hp with rfl | hp
   · have := h3.le
     exact ⟨by omega, h1, h2, by omega⟩
   · obtain ⟨a, b, c, d⟩ := Xam.mem h3 p hp
     exact ⟨by omega, b, c, d⟩
def Xbc (cs : List Int) (ps : List Pc) : Prop := ∀ p ∈ ps, cs[p.a.toNat]? = some p.mk' ∧ cs[(p.a + p.l - 1).toNat]? = some p.mk'
theorem Xbc.nil (cs : List Int) : Xbc cs [] := fun p hp => by cases hp
theorem Xbc.snoc {cs ext : List Int} {ps : List Pc} {p : Pc} (hc : Xam 0 ps p.a) (hl : (cs.length : Int) = p.a) (h1 : 1 ≤ p.l) (he : (ext.length : Int) = p.l) (m : Xbc cs ps) :
   Xbc ((((cs ++ ext).set p.a.toNat p.mk')).set (p.a + p.l - 1).toNat p.mk') (ps ++ [p]) := by
 intro q hq
 have h0 := hc.le
 rcases List.mem_append.mp hq with hq | hq
 · obtain ⟨a1, a2, a3, a4⟩ := hc.mem q hq
   obtain ⟨b1, b2⟩ := m q hq
   have key : ∀ k : Nat, (k : Int) < p.a → ∀ z, cs[k]? = some z → ((((cs ++ ext).set p.a.toNat p.mk')).set (p.a + p.l - 1).toNat p.mk')[k]? = some z := by
     intro k hk z hz
     rw [List.getElem?_set_ne (by omega), List.getElem?_set_ne (by omega), List.getElem?_append_left (by omega)]
     exact hz
   exact ⟨key _ (by omega) _ b1, key _ (by omega) _ b2⟩
 · have e : q = p := by simpa using hq
   subst e
   have len : (cs ++ ext).length = cs.length + ext.length := List.length_append
   constructor
   · by_cases h : (q.a + q.l - 1).toNat = q.a.toNat
     · rw [h, List.getElem?_set_self (by simp; omega)]
     · rw [List.getElem?_set_ne (by omega), List.getElem?_set_self (by simp; omega)]
   · rw [List.getElem?_set_self (by simp; omega)]
theorem mk_long (l : Int) (v : Bool) : mkOf l v / 2 = l := by unfold mkOf; split <;> omega
theorem mk_live (l : Int) (v : Bool) : decide (mkOf l v % 2 = 1) = v := by
 unfold mkOf
 cases v
 · exact decide_eq_false (by simp)
 · exact decide_eq_true (by simp)
def Xbu (ns : List Int) (k : Int) : Bool :=
 if ns.getD k.toNat 0 / 2 < 1 ∨ (ns.length : Int) < k + ns.getD k.toNat 0 / 2 then false else decide (3 ≤ ns.getD k.toNat 0 / 2) || !decide (ns.getD k.toNat 0 % 2 = 1)
def Xdj (ns : List Int) (k : Int) : Option Int :=
 if Xbu ns k = true then (if ns.getD (k + ns.getD k.toNat 0 / 2 - 1).toNat 0 = ns.getD k.toNat 0 then none else some (k + ns.getD k.toNat 0 / 2 - 1)) else some k
theorem getD_of {ns : List Int} {k : Nat} {x : Int} (h : ns[k]? = some x) : ns.getD k 0 = x := by rw [List.getD_eq_getElem?_getD, h]; rfl
theorem bad_none {ns : List Int} {p : Pc} (h1 : 1 ≤ p.l) (h3 : p.v = true → 3 ≤ p.l) (hl : p.a + p.l ≤ ns.length) (m1 : ns[p.a.toNat]? = some p.mk') (m2 : ns[(p.a + p.l - 1).toNat]? = some p.mk') : Xdj ns p.a = none := by
 have e1 := getD_of m1
 have e2 := getD_of m2
 have e3 : ns.getD p.a.toNat 0 / 2 = p.l := by rw [e1]; exact mk_long _ _
 have hc : Xbu ns p.a = true := by
   unfold Xbu
   rw [e3, if_neg (by omega), e1]
   show (decide (3 ≤ p.l) || !decide (mkOf p.l p.v % 2 = 1)) = true
   rw [mk_live]
   cases hv : p.v with
   | false => simp
   | true => simp [h3 hv]
 unfold Xdj
 rw [if_pos hc, e3, e2, e1, if_pos rfl]
end Stow
namespace Stow
theorem canBegin_iff (ns : List Int) (k : Int) : Xbu ns k = true ↔ (1 ≤ ns.getD k.toNat 0 / 2 ∧ k + ns.getD k.toNat 0 / 2 ≤ ns.length ∧ (ns.getD k.toNat 0 % 2 = 1 → 3 ≤ ns.getD k.toNat 0 / 2)) := by
 unfold Xbu
 by_cases h : ns.getD k.toNat 0 / 2 < 1 ∨ (ns.length : Int) < k + ns.getD k.toNat 0 / 2
 · rw [if_pos h]
   constructor
   · intro z; cases z
   · intro z; omega
 · rw [if_neg h]
   simp only [Bool.or_eq_true, decide_eq_true_eq, Bool.not_eq_true', decide_eq_false_iff_not]
   constructor
   · intro z
     refine ⟨by omega, by omega, fun w => ?_⟩
     rcases z with z | z
     · exact z
     · exact absurd w z
   · rintro ⟨_, _, z⟩
     by_cases w : ns.getD k.toNat 0 % 2 = 1
     · exact .inl (z w)
     · exact .inr w
def pcAt (ns : List Int) (k : Int) : Pc := ⟨k, ns.getD k.toNat 0 / 2, decide (ns.getD k.toNat 0 % 2 = 1)⟩
theorem bad_can {ns : List Int} {k : Int} (h : Xdj ns k = none) : Xbu ns k = true := by
 unfold Xdj at h
 split at h
 · assumption
 · cases h
theorem bad_pos {ns : List Int} {k : Int} (h : Xdj ns k = none) : 1 ≤ ns.getD k.toNat 0 / 2 ∧ k + ns.getD k.toNat 0 / 2 ≤ ns.length ∧ (ns.getD k.toNat 0 % 2 = 1 → 3 ≤ ns.getD k.toNat 0 / 2) := (canBegin_iff ns k).mp (bad_can h)
theorem bad_no {ns : List Int} {k : Int} (h : Xbu ns k = false) : Xdj ns k = some k := by
 unfold Xdj
 rw [if_neg (by rw [h]; exact Bool.false_ne_true)]
theorem bad_last {ns : List Int} {k : Int} (h : Xbu ns k = true) (h2 : ns.getD (k + ns.getD k.toNat 0 / 2 - 1).toNat 0 ≠ ns.getD k.toNat 0) : Xdj ns k = some (k + ns.getD k.toNat 0 / 2 - 1) := by
 unfold Xdj
 rw [if_pos h, if_neg h2]
theorem bad_well {ns : List Int} {k : Int} (h : Xbu ns k = true) (h2 : ns.getD (k + ns.getD k.toNat 0 / 2 - 1).toNat 0 = ns.getD k.toNat 0) : Xdj ns k = none := by
 unfold Xdj
 rw [if_pos h, if_pos h2]
def Xck (ns : List Int) (k : Int) : List Pc × Option Int :=
 if h : k < ns.length ∧ Xdj ns k = none then
   (pcAt ns k :: (Xck ns (k + ns.getD k.toNat 0 / 2)).1, (Xck ns (k + ns.getD k.toNat 0 / 2)).2)
 else ([], if k < ns.length then Xdj ns k else none)
termination_by (ns.length - k).toNat
decreasing_by
 all_goals
   have := bad_pos h.2
   omega
theorem walkF_end {ns : List Int} {k : Int} (h : ¬ k < ns.length) : Xck ns k = ([], none) := by
 rw [Xck, dif_neg (fun z => h z.1), if_neg h]
theorem walkF_bad {ns : List Int} {k b : Int} (h : k < ns.length) (hb : Xdj ns k = some b) : Xck ns k = ([], some b) := by
 rw [Xck, dif_neg (fun z => by rw [hb] at z; cases z.2), if_pos h, hb]
theorem Xga {ns : List Int} {k : Int} (h : k < ns.length) (hb : Xdj ns k = none) : Xck ns k = (pcAt ns k :: (Xck ns (k + ns.getD k.toNat 0 / 2)).1, (Xck ns (k + ns.getD k.toNat 0 / 2)).2) := by
 rw [Xck, dif_pos ⟨h, hb⟩]
def WPre (ns : List Int) (ds : List Pc) (k : Int) : Prop := Xck ns 0 = (ds ++ (Xck ns k).1, (Xck ns k).2)
theorem WPre.nil (ns : List Int) : WPre ns [] 0 := by unfold WPre; simp
theorem WPre.step {ns : List Int} {ds : List Pc} {k : Int} (w : WPre ns ds k) (h : k < ns.length) (hb : Xdj ns k = none) : WPre ns (ds ++ [pcAt ns k]) (k + ns.getD k.toNat 0 / 2) := by
 unfold WPre at *
 rw [w, Xga h hb]
 simp
theorem WPre.fin {ns : List Int} {ds : List Pc} {k : Int} (w : WPre ns ds k) (h : ¬ k < ns.length) : Xck ns 0 = (ds, none) := by
 unfold WPre at w
 rw [w, walkF_end h]
 simp
theorem WPre.bad {ns : List Int} {ds : List Pc} {k b : Int} (w : WPre ns ds k) (h : k < ns.length) (hb : Xdj ns k = some b) : Xck ns 0 = (ds, some b) := by
 unfold WPre at w
 rw [w, walkF_bad h hb]
 simp
end Stow
namespace Stow
theorem walkF_len (ns : List Int) : ∀ (n : Nat) (k : Int), 0 ≤ k → (ns.length - k).toNat ≤ n → ((Xck ns k).1.length : Int) ≤ n
 | n, k, h0, hn => by
   by_cases h : k < ns.length
   · cases hb : Xdj ns k with
     | some b => rw [walkF_bad h hb]; simp
     | none =>
       obtain ⟨b1, b2, _⟩ := bad_pos hb
       rw [Xga h hb]
       cases n with
       | zero => omega
       | succ n =>
         have := walkF_len ns n (k + ns.getD k.toNat 0 / 2) (by omega) (by omega)
         simp only [List.length_cons]
         omega
   · rw [walkF_end h]; simp
 termination_by n => n
end Stow
namespace Stow
theorem pcAt_of {cs : List Int} {p : Pc} (m : cs[p.a.toNat]? = some p.mk') : pcAt cs p.a = p := by
 have e := getD_of m
 unfold pcAt
 rw [e]
 show (⟨p.a, mkOf p.l p.v / 2, decide (mkOf p.l p.v % 2 = 1)⟩ : Pc) = p
 rw [mk_long, mk_live]
theorem Xbl {cs : List Int} : ∀ {ps : List Pc} {k : Int}, Xam k ps cs.length → Xbc cs ps → Xck cs k = (ps, none)
 | [], k, h, _ => by
   have h : k = cs.length := h
   exact walkF_end (by omega)
 | p :: r, k, h, m => by
   obtain ⟨ea, h1, h3, h4⟩ := h
   have le := h4.le
   obtain ⟨m1, m2⟩ := m p List.mem_cons_self
   have bn := bad_none h1 h3 (by omega) m1 m2
   rw [ea] at bn
   have e2 : cs.getD k.toNat 0 / 2 = p.l := by rw [← ea, getD_of m1]; exact mk_long _ _
   have ih := Xbl (cs := cs) h4 fun q hq => m q (List.mem_cons_of_mem _ hq)
   rw [Xga (by omega) bn, e2, ih, ← ea, pcAt_of m1]
end Stow
namespace Stow
open PySem L2 PyProof.Rows
structure Def (P : Program) (w : World) (K : PySem.W.Frag) (mg : Str → Option Value) (base : Heap) (x : Str) (k : Nat) (ps : List Str) (sp : Sp) : Prop where
 ex : ∃ (f : Addr) (fd : FuncData), FnOk P w K mg base CX0 k f fd ps sp ∧ mg x = some (.ref f) ∧ PySem.W.keepIn K (.ref f) = true ∧ Xdc K fd ps []
structure Src (K : PySem.W.Frag) (mg : Str → Option Value) (x : Str) (st : Stmt) : Prop where
 ex : ∃ (f : Addr) (fd : FuncData), Fun K x x st f fd ∧ mg x = some (.ref f)
theorem Xbd {K : PySem.W.Frag} {h : Heap} {mg : Str → Option Value} {x : Str} {st : Stmt} {f : Addr} {oc kV doc pm cdv ct : Value} {od an : Option Addr} {osl : Array (Option Value)} (X : K.In h) (G : h.Ns mainGlobals mg)
   (a : PySem.W.nsIn K mainGlobals x = some (some (.ref f))) (l : K.lookup f = some ⟨oc, od, .func (PySem.W.fnOf x x (Xaf st) (Xae st) (Xab st) .none kV doc pm an cdv ct), osl⟩)
   (c : PySem.W.codeIn K cdv x = true) (k : PySem.W.keepIn K (.ref f) = true) : Src K mg x st := ⟨f, _, Xcq l c k, PySem.W.mg_of X G a⟩
section
variable {P : Program} {w : World} {K : PySem.W.Frag} {mg : Str → Option Value} {base : Heap}
theorem Src.ok {x : Str} {st : Stmt} {N ps : List Str} {k : Nat} {sp : Sp} (S : Src K mg x st) (sc : FnScope N ps (Xab st))
   (hb : ∀ (kV doc pm : Value) (an : Option Addr) (cdv ct : Value) (us : List Value), us.length = ps.length → bindArgs (PySem.W.fnOf x x (Xaf st) (Xae st) (Xab st) .none kV doc pm an cdv ct) ⟨us, []⟩ = pure (ps.zip us))
   (len : ∀ vs H Q E, sp vs H Q E → vs.length = ps.length)
   (hbody : ∀ (f : Addr) (cdv : Value) (A : Around) (outer : List Env) (s : Shared) (H : Hp) (vs : List V) (Q : VK) (E : XK), Room k (A.deeper (envOfC x (Xab st) s.heap.objs.size f cdv)) → sp vs H Q E →
     ∃ t, PSs (cxOf CX0 P w K mg base N x (Xab st) f cdv A outer s H E).nox (Xae st) t ∧ t { nx := fun _ H' => Q .non H', rt := Q } (start N vs) H) : Def P w K mg base x (k + 1) ps sp := by
 obtain ⟨f, fd, F, hm⟩ := S.ex
 exact ⟨f, fd, F.ok sc len (hbody f), hm, F.kp, F.binds hb⟩
end
section
variable {X : Cx}
theorem call_isi : CallR X (.builtin "isinstance") (fun xs H Q => ∃ x n t b, xs = [x, .ty n] ∧ TyOf X.K H x t ∧ PySem.W.kitOne X.K t (.type n) = some b ∧ Q (.bl b) H) := by
 intro pins s σ H xs us Q I r h
 obtain ⟨x, n, t, b, rfl, ty, e, q⟩ := h
 obtain ⟨u, u', rfl, rx, ry⟩ := vals2 r
 cases (show u' = Value.type n from ry)
 exact isinst_ok I rx ty e fun tk => ⟨.bl b, H, I.tok tk, rfl, q⟩
theorem eqV_self {x : V} (h : flatV x = true) : eqV x x = true := by
 cases x <;> first | rfl | (simp [eqV]; done) | (exact absurd h Bool.false_ne_true)
end
theorem _root_.L2.Same.new {H : Hp} {p : Addr} {o : HO} (h : H p = none) : Same H (upd H p o) := fun b u e => by
 rw [Xav (Xaw e h)]
 exact e
theorem _root_.L2.Same.put {H H' : Hp} {p : Addr} {o : HO} (s : Same H H') (h : H p = none) : Same H (upd H' p o) := fun b u e => by
 rw [Xav (Xaw e h)]
 exact s b u e
theorem small4000 {n : Nat} (h : n ≤ 4000) : n < sizeLine := Nat.lt_of_le_of_lt h (by decide)
theorem two1 : (2 : Int) ^ (1 : Int).toNat = 2 := by decide
theorem atI_map (ns : List Int) (k : Int) (h0 : 0 ≤ k) (h : k < ns.length) : atI (ns.map V.int) k = some (.int (ns.getD k.toNat 0)) := by
 have e : (ns.map V.int)[k.toNat]? = some (.int (ns.getD k.toNat 0)) := by
   rw [List.getElem?_map, List.getD_eq_getElem?_getD, List.getElem?_eq_getElem (by omega)]
   rfl
 have := atI_nat e
 rwa [Int.toNat_of_nonneg h0] at this
theorem live_eq (n : Int) : decide (V.int (Builtin.bitAnd n 1) = V.int 1) = decide (n % 2 = 1) := by
 rw [dec_int, bitAnd_m1]
 rfl
section
variable {K : PySem.W.Frag}
theorem kit_ii : PySem.W.kitOne K (.type "int") (.type "int") = some true := by rfl
theorem kit_ib : PySem.W.kitOne K (.type "int") (.type "bool") = some false := by
 show (if (Value.type "int" == Value.type "bool") = true then some true else PySem.W.kitCls K (.type "int") (.type "bool")) = some false
 rw [if_neg (by decide)]
 show (if PySem.W.kitMeta "bool" = true then PySem.W.subIn K (.type "int") (.type "bool") else none) = some false
 rw [if_pos (by decide +kernel)]
 show (fastBuiltinMro "int").map (·.contains (Value.type "bool")) = some false
 decide +kernel
end
end Stow
namespace Stow
open PySem
structure Noted (fr : List Addr) (e : Addr) (oe : Obj) (fl : Value) (h h' : Heap) : Prop where
 keep : ∀ b o, b ≠ e → b ∉ fr → h.get? b = some o → h'.get? b = some o
 slot : ∀ b o, b ≠ e → h.get? b = some o → ∃ sl, h'.get? b = some { o with slots := sl }
 ent : ∃ (T : Addr) (oT : Obj) (ts : Array Value), h.get? T = none ∧ T ≠ e ∧ h'.get? e = some (oe.mapFields (·.setIfInBounds 1 (.ref T))) ∧ h'.get? T = some oT ∧ oT.data = .fields ts ∧ ts[3]? = some fl
section
variable {M : Model} {A : Around} {E : Value → Shared → Prop} {s : Shared}
theorem entry_x {base : Heap} {env : Env} {outer : List Env} {L e : Addr} {oe : Obj} {vs : Array Value} {head : Value} {had : Bool} {Q : Unit → Shared → Prop} (hfr : A.frames = some (env :: outer)) (hl : s.heap.FunFrames base (env :: outer)) (hf : env.frame = some L)
   (he : s.heap.get? e = some oe) (hd : oe.data = .fields vs) (hsz : 1 < vs.size) (h : ∀ h', Noted ((env :: outer).filterMap (·.frame)) e oe (rawInt L) s.heap h' → Q () { s with heap := h' }) :
   wpAny M A (do
     let a ← frameOf env
     let pl ← entryPlaceOf L had
     let b ← EntryCells.newEntry head a .none (rawInt L) .none pl
     setField (.ref e) 1 b) Q E s := by
 have out : e ∉ (env :: outer).filterMap (·.frame) := fun z => by
   obtain ⟨_, o, q, nf⟩ := hl.mem z
   rw [he] at q
   cases q
   exact nf vs hd
 refine wpAny_bind (wpAny_frameOf_fun hfr hl hf fun hA sA => ?_)
 refine wpAny_bind (wpAny_entryPlaceOf fun pl isP => ?_)
 unfold EntryCells.newEntry newFields
 refine wpAny_bind (wpAny_newObj_type ?_ (isP.sizeOk5 _ _ _ _ _))
 have eA : hA.get? e = some oe := (sA.2.1 e out).trans he
 refine wpAny_setField (Heap.get?_push_of_some _ eA) hd hsz (h _ ?_)
 have apart : hA.objs.size ≠ e := Nat.ne_of_gt (Heap.lt_size eA)
 have other : ∀ {ob : Obj} b o, b ≠ e → hA.get? b = some o → ((hA.push ob).update e (Obj.mapFields (·.setIfInBounds 1 (Value.ref hA.objs.size)))).get? b = some o := fun b o nb q => by
   rw [Heap.get?_update_other _ _ (fun z => nb z.symm)]
   exact Heap.get?_push_of_some _ q
 refine ⟨fun b o nb nf q => other b o nb ((sA.2.1 b nf).trans q), fun b o nb q => ?_, hA.objs.size, _, _, ?_, apart, ?_, (Heap.get?_update_other _ _ (fun z => apart z.symm)).trans (Heap.get?_push_size _ rfl), rfl, ?_⟩
 · obtain ⟨sl, q'⟩ := sA.2.2 b o q
   exact ⟨sl, other b _ nb q'⟩
 · rw [sA.1]
   exact Heap.get?_none_of_le (Nat.le_refl _)
 · exact Heap.get?_update_self _ (Heap.get?_push_of_some _ eA) (Obj.isFreed_of_fields (Obj.data_mapFields hd _))
 · first
     | (simp; done)
     | (rcases isP with rfl | ⟨_, _, _, _, _, _, _, rfl⟩ <;> simp)
theorem mapF_dict (o : Obj) (f : Array Value → Array Value) : (o.mapFields f).dict = o.dict := by
 obtain ⟨c, d, dt, sl⟩ := o
 cases dt <;> rfl
end
def Exc (h : Heap) (x : Addr) (cls : Value) (od : Option Addr) (T : Addr) (fl : Value) : Prop :=
 ∃ (oe : Obj) (vs : Array Value) (oT : Obj) (ts : Array Value), T ≠ x ∧ h.get? x = some oe ∧ oe.cls = cls ∧ oe.dict = od ∧ oe.data = .fields vs ∧ vs[1]? = some (.ref T) ∧ h.get? T = some oT ∧ oT.data = .fields ts ∧ ts[3]? = some fl
def Exc0 (h : Heap) (x : Addr) (cls : Value) (od : Option Addr) : Prop := ∃ (oe : Obj) (vs : Array Value), h.get? x = some oe ∧ oe.cls = cls ∧ oe.dict = od ∧ oe.data = .fields vs ∧ vs[1]? = some .none
structure Upto (fr ex : List Addr) (h h' : Heap) : Prop where
 keep : ∀ b o, b ∉ ex → b ∉ fr → h.get? b = some o → h'.get? b = some o
 slot : ∀ b o, b ∉ ex → h.get? b = some o → ∃ sl, h'.get? b = some { o with slots := sl }
theorem Upto.trans {fr ex ex' : List Addr} {h1 h2 h3 : Heap} (a : Upto fr ex h1 h2) (b : Upto fr ex' h2 h3) : Upto fr (ex ++ ex') h1 h3 :=
 ⟨fun c o n1 n2 q => b.keep c o (fun z => n1 (List.mem_append_right _ z)) n2 (a.keep c o (fun z => n1 (List.mem_append_left _ z)) n2 q), fun c o n1 q => by
   obtain ⟨sl, q1⟩ := a.slot c o (fun z => n1 (List.mem_append_left _ z)) q
   obtain ⟨sl', q2⟩ := b.slot c _ (fun z => n1 (List.mem_append_right _ z)) q1
   exact ⟨sl', q2⟩⟩
theorem Upto.update {fr : List Addr} {h : Heap} {a : Addr} {f : Obj → Obj} : Upto fr [a] h (h.update a f) :=
 ⟨fun b o n _ q => by rw [Heap.get?_update_other _ _ (fun z => n (by simp [z]))]; exact q, fun b o n q => ⟨o.slots, by rw [Heap.get?_update_other _ _ (fun z => n (by simp [z]))]; exact q⟩⟩
section
variable {M : Model} {A : Around} {E : Value → Shared → Prop} {s : Shared}
theorem flight_x {fr : List Addr} {x : Addr} {cls : Value} {od : Option Addr} {T : Addr} {fl : Value} {Q : Unit → Shared → Prop} (ht : Exc s.heap x cls od T fl)
   (h : ∀ h', Upto fr [T] s.heap h' → Exc h' x cls od T .none → Q () { s with heap := h' }) : wpAny M A (setFlight (.ref x) none) Q E s := by
 obtain ⟨oe, vs, oT, ts, ne, ex, hc, hdi, hd, h1, eT, dT, h3⟩ := ht
 unfold setFlight
 refine wpAny_bind (wpAny_field ex hd h1 ?_)
 rw [if_pos (show (Value.ref T != Value.none) = true by simp)]
 have sz : 3 < ts.size := (Array.getElem?_eq_some_iff.mp h3).1
 refine wpAny_setField eT dT sz (h _ .update ⟨oe, vs, _, _, ne, ?_, hc, hdi, hd, h1, Heap.get?_update_self _ eT (Obj.isFreed_of_fields (Obj.data_mapFields dT _)), Obj.data_mapFields dT _, ?_⟩)
 · rw [Heap.get?_update_other _ _ ne]
   exact ex
 · simp [sz]
theorem Noted.exc {fr : List Addr} {x : Addr} {oe : Obj} {vs : Array Value} {fl : Value} {h h' : Heap} (n : Noted fr x oe fl h h') (hd : oe.data = .fields vs) (hsz : 1 < vs.size) : ∃ T, h.get? T = none ∧ Exc h' x oe.cls oe.dict T fl := by
 obtain ⟨T, oT, ts, nT, ne, ex, eT, dT, h3⟩ := n.ent
 exact ⟨T, nT, _, _, oT, ts, ne, ex, Obj.cls_mapFields _ _, mapF_dict _ _, Obj.data_mapFields hd _, by simp [hsz], eT, dT, h3⟩
theorem Noted.upto {fr : List Addr} {x : Addr} {oe : Obj} {fl : Value} {h h' : Heap} (n : Noted fr x oe fl h h') : Upto fr [x] h h' :=
 ⟨fun b o nb nf q => n.keep b o (fun z => nb (by simp [z])) nf q, fun b o nb q => n.slot b o (fun z => nb (by simp [z])) q⟩
theorem look0 {base : Heap} {env : Env} {outer : List Env} {L x : Addr} {cls : Value} {od : Option Addr} {Q : Unit → Shared → Prop} (hfr : A.frames = some (env :: outer)) (hl : s.heap.FunFrames base (env :: outer)) (hf : env.frame = some L) (hx : Exc0 s.heap x cls od)
   (h : ∀ h' T, s.heap.get? T = none → Upto ((env :: outer).filterMap (·.frame)) [x] s.heap h' → Exc h' x cls od T (rawInt L) → Q () { s with heap := h' }) : wpAny M A (noteFrame (.ref x) env) Q E s := by
 obtain ⟨oe, vs, ex, rfl, rfl, hd, h1⟩ := hx
 have sz := (Array.getElem?_eq_some_iff.mp h1).1
 unfold noteFrame
 simp only [hf]
 refine wpAny_bind (wpAny_field ex hd h1 ?_)
 rw [if_neg (by decide)]
 refine entry_x hfr hl hf ex hd sz fun h' n => ?_
 obtain ⟨T, nT, t⟩ := n.exc hd sz
 exact h h' T nT n.upto t
theorem look1 {base : Heap} {env : Env} {outer : List Env} {L x T : Addr} {cls : Value} {od : Option Addr} {Q : Unit → Shared → Prop} (hfr : A.frames = some (env :: outer)) (hl : s.heap.FunFrames base (env :: outer)) (hf : env.frame = some L) (hx : Exc s.heap x cls od T .none)
   (h : ∀ h' T', s.heap.get? T' = none → Upto ((env :: outer).filterMap (·.frame)) [T, x] s.heap h' → Exc h' x cls od T' (rawInt L) → Q () { s with heap := h' }) : wpAny M A (noteFrame (.ref x) env) Q E s := by
 obtain ⟨oe, vs, oT, ts, ne, ex, rfl, rfl, hd, h1, eT, dT, h3⟩ := hx
 have sz := (Array.getElem?_eq_some_iff.mp h1).1
 have sz3 := (Array.getElem?_eq_some_iff.mp h3).1
 unfold noteFrame
 simp only [hf]
 refine wpAny_bind (wpAny_field ex hd h1 ?_)
 rw [if_pos (show (Value.ref T != Value.none) = true by simp)]
 refine wpAny_bind (wpAny_field eT dT h3 ?_)
 rw [if_neg (show ¬ ((Value.none == rawInt L) = true) by simp [rawInt])]
 refine wpAny_bind (wpAny_setField eT dT sz3 ?_)
 have u1 : Upto ((env :: outer).filterMap (·.frame)) [T] s.heap (s.heap.update T (Obj.mapFields (·.setIfInBounds 3 Value.none))) := .update
 have hl2 : (s.heap.update T (Obj.mapFields (·.setIfInBounds 3 Value.none))).FunFrames base (env :: outer) := hl.of_keeps fun b o q nf => by
   have nb : b ≠ T := fun z => by
     subst z
     rw [eT] at q
     cases q
     exact nf ts dT
   exact ⟨o, by rw [Heap.get?_update_other _ _ (fun z => nb z.symm)]; exact q, rfl⟩
 have ex2 : (s.heap.update T (Obj.mapFields (·.setIfInBounds 3 Value.none))).get? x = some oe := by
   rw [Heap.get?_update_other _ _ ne]
   exact ex
 refine entry_x (s := { s with heap := s.heap.update T (Obj.mapFields (·.setIfInBounds 3 Value.none)) }) hfr hl2 hf ex2 hd sz fun h' n => ?_
 obtain ⟨T', nT, t⟩ := n.exc hd sz
 refine h h' T' ?_ (u1.trans n.upto) t
 cases q : s.heap.get? T' with
 | none => rfl
 | some o =>
   by_cases z : T' = T
   · subst z
     rw [Heap.get?_update_self _ eT (Obj.isFreed_of_fields (Obj.data_mapFields dT _))] at nT
     cases nT
   · rw [Heap.get?_update_other _ _ (fun y => z y.symm), q] at nT
     cases nT
theorem leave0 {base : Heap} {env : Env} {outer : List Env} {L x : Addr} {cls : Value} {od : Option Addr} {Q : Unit → Shared → Prop} (hfr : A.frames = some (env :: outer)) (hl : s.heap.FunFrames base (env :: outer)) (hf : env.frame = some L) (hx : Exc0 s.heap x cls od)
   (h : ∀ h' T, s.heap.get? T = none → Upto ((env :: outer).filterMap (·.frame)) [x, T] s.heap h' → Exc h' x cls od T .none → Q () { s with heap := h' }) : wpAny M A (leaving env (.ref x)) Q E s := by
 unfold leaving
 refine wpAny_bind (look0 hfr hl hf hx fun h1 T nT u t => ?_)
 exact flight_x (s := { s with heap := h1 }) (fr := (env :: outer).filterMap (·.frame)) t fun h2 u2 t2 => h h2 T nT (u.trans u2) t2
theorem leave1 {base : Heap} {env : Env} {outer : List Env} {L x T : Addr} {cls : Value} {od : Option Addr} {Q : Unit → Shared → Prop} (hfr : A.frames = some (env :: outer)) (hl : s.heap.FunFrames base (env :: outer)) (hf : env.frame = some L) (hx : Exc s.heap x cls od T .none)
   (h : ∀ h' T', s.heap.get? T' = none → Upto ((env :: outer).filterMap (·.frame)) [T, x, T'] s.heap h' → Exc h' x cls od T' .none → Q () { s with heap := h' }) : wpAny M A (leaving env (.ref x)) Q E s := by
 unfold leaving
 refine wpAny_bind (look1 hfr hl hf hx fun h1 T' nT u t => ?_)
 exact flight_x (s := { s with heap := h1 }) (fr := (env :: outer).filterMap (·.frame)) t fun h2 u2 t2 => h h2 T' nT (u.trans u2) t2
end
end Stow
namespace Stow
open PySem
open Sem (wp)
section
variable {M : Model} {A : Around} {E : Value → Shared → Prop}
variable {nm q nm0 q0 : Str} {C N C0 N0 : Addr} {bs bm bs0 bm0 : List Value} {hdct hdct0 : Bool} {sn sn0 : List Str} {sub sub0 : List Value} {ab ab0 : Bool} {col col0 : Option Bool} {dd dd0 : Option Addr} {k0 k1 k2 k3 k5 j0 j1 j2 j3 j5 : Option Value} {newId newId0 : String}
theorem match_own {h : Heap} {g : Array GenState} {d : Drawn} {t : Nat} {os : OsState} {x : Addr} {ox : Obj} {b : Bool} {Q : Bool → Shared → Prop}
   (hC : h.get? C = some (excClassObj nm q C N bs bm hdct sn sub ab col dd k0 k1 k2 k3 k5 newId)) (hC0 : h.get? C0 = some (excClassObj nm0 q0 C0 N0 bs0 bm0 hdct0 sn0 sub0 ab0 col0 dd0 j0 j1 j2 j3 j5 newId0))
   (hx : h.get? x = some ox) (hcl : ox.cls = .ref C) (hb0 : (Value.ref C0 :: bm0).contains (.type "BaseException") = true) (hb : (Value.ref C :: bm).contains (.ref C0) = b) (k : Q b ⟨h, g, d, t, os⟩) :
   wpAny M A (excMatches (.ref x) (.ref C0)) Q E ⟨h, g, d, t, os⟩ := by
 have f := tc_notTuple
 unfold excMatches
 repeat (first
   | (with_reducible refine wpAny_loadPart_at hx ?_; rw [hcl])
   | with_reducible refine wpAny_loadPart_at hC0 ?_
   | (with_reducible refine wpAny_isSubtype_exc hC0 ?_; rw [hb0])
   | (with_reducible refine wpAny_isSubtype_exc hC ?_; rw [hb])
   | wp_step)
 all_goals (cases b <;> (wp_walk; exact k))
end
end Stow
namespace Stow
open PySem
open Sem (wp)
def Lk (M : Model) (h : Heap) {α : Type} (m : Sem α) (v : α) : Prop := ∀ (A : Around) (E : Value → Shared → Prop) (g : Array GenState) (d : Drawn) (t : Nat) (os : OsState) (Q : α → Shared → Prop), Q v ⟨h, g, d, t, os⟩ → wpAny M A m Q E ⟨h, g, d, t, os⟩
theorem Lk.at {M : Model} {h : Heap} {α : Type} {m : Sem α} {v : α} (l : Lk M h m v) {A : Around} {E : Value → Shared → Prop} {g : Array GenState} {d : Drawn} {t : Nat} {os : OsState} {Q : α → Shared → Prop} (q : Q v ⟨h, g, d, t, os⟩) : wpAny M A m Q E ⟨h, g, d, t, os⟩ := l A E g d t os Q q
section
variable {prog : Program} {w : World} {A : Around} {E : Value → Shared → Prop} {h : Heap} {g : Array GenState} {d : Drawn} {t : Nat} {os : OsState} {a C : Addr} {o : Obj}
structure XLk (prog : Program) (w : World) (h : Heap) (C : Addr) : Prop where
 ga : Lk (model prog w) h (typeLookup (.ref C) "__getattribute__") (some (.builtin "BaseException.__getattribute__"))
 gat : Lk (model prog w) h (typeLookup (.ref C) "__getattr__") none
 cls : Lk (model prog w) h (typeLookup (.ref C) "__class__") (some (.builtin "object.__class__"))
 obj : Lk (model prog w) h (isSubtype (.ref C) (.type "object")) true
 exc : Lk (model prog w) h (isSubtype (.ref C) (.type "BaseException")) true
end
end Stow
namespace Stow
open PySem L2 PyProof.Rows
section
variable {P : Program} {w : World} {H H' : Hp} {h h' g : Heap} {a : Addr} {o : HO}
theorem ok_there (x : Xea P w H h a o) : ∃ ob, h.get? a = some ob := by
 cases o with
 | lst xs => obtain ⟨_, _, _, _, e⟩ := x; exact ⟨_, e⟩
 | tup xs => obtain ⟨_, _, _, ob, e, _⟩ := x; exact ⟨_, e⟩
 | dK kvs => obtain ⟨_, _, _, _, ob, _, _, e, _⟩ := x; exact ⟨_, e⟩
 | dT kvs => obtain ⟨_, _, _, _, ob, _, _, e, _⟩ := x; exact ⟨_, e⟩
 | set S n => obtain ⟨ob, _, _, _, e, _⟩ := x; exact ⟨_, e⟩
 | ins C dx fs => obtain ⟨_, _, _, e, _⟩ := x; exact ⟨_, e⟩
 | own y => obtain ⟨_, e⟩ := x; exact ⟨_, e⟩
 | xd fs => obtain ⟨_, ⟨_, _, _, e, _⟩, _⟩ := x; exact ⟨_, e⟩
 | rng lo hi => obtain ⟨_, _, _, e⟩ := x; exact ⟨_, e⟩
 | frz ob u => obtain ⟨e, _⟩ := x; exact ⟨_, e⟩
 | tbl ps => exact ⟨_, (show h.get? a = some _ from x)⟩
 | met f y => exact ⟨_, (show h.get? a = some _ from x)⟩
 | ext φ => obtain ⟨_, e, _⟩ := x; exact e
theorem Xdn (x : HOk P w H h) (e : h.get? a = none) : H a = none := by
 cases q : H a with
 | none => rfl
 | some u =>
   obtain ⟨ob, z⟩ := ok_there (x a u q)
   rw [e] at z
   cases z
theorem hok_upto {fr ex : List Addr} (x : HOk P w H h) (u : Upto fr ex h h') (hf : ∀ b ∈ fr, H b = none) (he : ∀ b ∈ ex, H b = none) : HOk P w H h' := fun a o e => by
 have out : ∀ b v, H b = some v → b ∉ ex ∧ b ∉ fr := fun b v q => ⟨(fun z => by rw [he b z] at q; cases q), (fun z => by rw [hf b z] at q; cases q)⟩
 refine (x a o e).stay (fun b ob hb q => ?_) (fun _ q => q) fun _ _ q => q
 rcases hb with rfl | hb
 · exact u.keep b ob (out b _ e).1 (out b _ e).2 q
 · exact u.keep b ob (out b _ hb).1 (out b _ hb).2 q
theorem un_upto {fs fr ex : List Addr} (u : Un fs [] H H' g h) (v : Upto fr ex h h') (hfr : ∀ b ∈ fr, b ∈ fs ∨ g.get? b = none) (hex : ∀ b ∈ ex, g.get? b = none) : Un fs [] H H' g h' := by
 have nex : ∀ b o, g.get? b = some o → b ∉ ex := fun b o q z => by rw [hex b z] at q; cases q
 refine ⟨fun b o q n hb hx => ?_, fun b o q n hb hx => ?_, u.free, fun b o q hx => ?_, u.tups, u.frzs, u.tbls⟩
 · refine v.keep b o (nex b o q) (fun z => ?_) (u.keep b o q n hb hx)
   rcases hfr b z with z | z
   · exact hb z
   · rw [z] at q
     cases q
 · obtain ⟨sl, q1⟩ := u.slot b o q n hb hx
   obtain ⟨sl', q2⟩ := v.slot b _ (nex b o q) q1
   exact ⟨sl', q2⟩
 · obtain ⟨o', q1⟩ := u.there b o q hx
   obtain ⟨sl, q2⟩ := v.slot b o' (nex b o q) q1
   exact ⟨_, q2⟩
theorem Xfj {fs : List Addr} (u : Un fs [] H H' g h) (e : h.get? a = none) : g.get? a = none := by
 cases q : g.get? a with
 | none => rfl
 | some o =>
   obtain ⟨o', z⟩ := u.there a o q (by simp)
   rw [e] at z
   cases z
end
def CXe (P : Program) (w : World) : CXT := fun outer H s E e s' => ∃ (x C T : Addr) (od : Option Addr) (H' : Hp), e = .ref x ∧ s'.os = s.os ∧ AllBare s'.gens ∧ Un (frs outer) [] H H' s.heap s'.heap ∧ HOk P w H' s'.heap ∧
 s.heap.get? x = none ∧ s.heap.get? T = none ∧ H' x = none ∧ H' T = none ∧ Exc s'.heap x (.ref C) od T .none ∧ E (.ref C) od H'
section
variable {P : Program} {w : World} {K : PySem.W.Frag} {mg : Str → Option Value} {base : Heap} {N : List Str} {qual : Str} {scope : Scope} {f : Addr} {cd : Value} {A : Around} {outer : List Env} {s₀ : Shared} {H₀ : Hp} {EX : XK}
theorem xe_made {pins : List (Addr × Obj)} {σ : L2.St} {H : Hp} {s : Shared} {x C : Addr} {od : Option Addr} (I : Inv (cxOf (CXe P w) P w K mg base N qual scope f cd A outer s₀ H₀ EX) pins σ H s) (hx : Exc0 s.heap x (.ref C) od) (nx : s₀.heap.get? x = none) (ux : H x = none) (q : EX (.ref C) od H) :
   (cxOf (CXe P w) P w K mg base N qual scope f cd A outer s₀ H₀ EX).xe (.ref x) s := by
 refine leave0 (base := base) (outer := outer) I.ok.frames I.stack rfl hx fun h' T nT u t => ?_
 have hu : Un (frs outer) [] H₀ H s₀.heap s.heap := I.base
 have uT : H T = none := Xdn I.hok nT
 refine ⟨x, C, T, od, H, rfl, I.os, I.bare, un_upto hu u (fun b hb => ?_) (fun b hb => ?_), hok_upto I.hok u I.stkFree (fun b hb => ?_), nx, Xfj hu nT, ux, uT, t, q⟩
 · rcases List.mem_cons.mp hb with rfl | hb
   · exact .inr (Heap.get?_none_of_le (Nat.le_refl _))
   · exact .inl hb
 · rcases List.mem_cons.mp hb with rfl | hb
   · exact nx
   · have e : b = T := by simpa using hb
     subst e
     exact Xfj hu nT
 · rcases List.mem_cons.mp hb with rfl | hb
   · exact ux
   · have e : b = T := by simpa using hb
     subst e
     exact uT
theorem pass_x : Xef (CXe P w) (cxOf (CXe P w) P w K mg base N qual scope f cd A outer s₀ H₀ EX) EX := by
 rintro pins σ H s e s' I ⟨x, C, T, od, H', rfl, os, bare, un, hok, nx, nT, ux, uT, t, q⟩
 have I' : Inv (cxOf (CXe P w) P w K mg base N qual scope f cd A outer s₀ H₀ EX) pins σ H' s' := by
   obtain ⟨hh, gg, dd, tt, oo⟩ := s'
   obtain rfl : oo = s.os := os
   have z := I.call (h' := hh) (g' := gg) (d' := dd) (t' := tt) (ch := []) un hok bare (fun b z => absurd z (by simp))
   exact z
 refine leave1 (base := base) (outer := outer) I'.ok.frames I'.stack rfl t fun h' T' nT' u t' => ?_
 have hu : Un (frs outer) [] H₀ H' s₀.heap s'.heap := I'.base
 have hu0 : Un (frs outer) [] H₀ H s₀.heap s.heap := I.base
 have uT' : H' T' = none := Xdn hok nT'
 have n0 : ∀ b ∈ [T, x, T'], s₀.heap.get? b = none := fun b hb => by
   rcases List.mem_cons.mp hb with rfl | hb
   · exact Xfj hu0 nT
   · rcases List.mem_cons.mp hb with rfl | hb
     · exact Xfj hu0 nx
     · have e : b = T' := by simpa using hb
       subst e
       exact Xfj hu nT'
 refine ⟨x, C, T', od, H', rfl, I'.os, I'.bare, un_upto hu u (fun b hb => ?_) n0, hok_upto hok u I'.stkFree (fun b hb => ?_), n0 x (by simp), n0 T' (by simp), ux, uT', t', q⟩
 · rcases List.mem_cons.mp hb with rfl | hb
   · exact .inr (Heap.get?_none_of_le (Nat.le_refl _))
   · exact .inl hb
 · rcases List.mem_cons.mp hb with rfl | hb
   · exact uT
   · rcases List.mem_cons.mp hb with rfl | hb
     · exact ux
     · have e : b = T' := by simpa using hb
       subst e
       exact uT'
end
end Stow
namespace Stow
open PySem L2 PyProof.Rows
theorem exc_cls {K : PySem.W.Frag} {h : Heap} {C : Addr} {bmB : List Value} {newId : String} (X : K.In h) (q : PySem.W.excIn K C bmB newId = true) :
   ∃ (bm : List Value) (N : Addr) (nm qn : Str) (bs : List Value) (hd : Bool) (sn : List Str) (sub : List Value) (ab : Bool) (col : Option Bool) (dd : Option Addr) (k0 k1 k2 k3 k5 : Option Value) (mN : Str → Option Value),
     h.get? C = some (excClassObj nm qn C N bs bm hd sn sub ab col dd k0 k1 k2 k3 k5 newId) ∧ h.Ns N mN ∧ mN "__init__" = none ∧ OwnTail h bmB bm ∧ ∀ v, PySem.W.mroIn K C v = some ((Value.ref C :: bm).contains v) := by
 unfold PySem.W.excIn at q
 split at q
 · rename_i dd cd sl lk
   split at q
   · rename_i C' bm a0 a1 a2 a3 n a5 em es
     simp only [Bool.and_eq_true, beq_iff_eq, Bool.not_eq_true'] at q
     obtain ⟨⟨⟨⟨⟨eC, rfl⟩, nodel⟩, tl⟩, okN⟩, noI⟩ := q
     have eC := eC.symm
     subst eC
     have mro : ∀ v, PySem.W.mroIn K C v = some ((Value.ref C :: bm).contains v) := fun v => by
       unfold PySem.W.mroIn PySem.W.clsIn
       rw [lk]
       first
         | rfl
         | (simp [em]; done)
     obtain ⟨nm, bs, mr, ns, qn, hd, sn, sub, ab, col, del⟩ := cd
     dsimp only at em nodel okN noI
     subst em nodel
     have esl : sl = #[a0, a1, a2, a3, some (.builtin n), a5] := by
       cases sl with
       | mk l =>
         dsimp only at es
         rw [es]
     subst esl
     exact ⟨bm, ns, nm, qn, bs, hd, sn, sub, ab, col, dd, a0, a1, a2, a3, a5, _, X _ _ lk, .of_isNs (PySem.W.isNs_of_in X okN), PySem.W.nsMap_none_of_in X okN noI, PySem.W.tail_of_in X tl, mro⟩
   · cases q
 · cases q
structure XCls (K : PySem.W.Frag) (mg : Str → Option Value) (x : Str) (C : Addr) : Prop where
 bound : mg x = some (.ref C)
 ex : ∃ (bmB : List Value) (B newId initId : String), PySem.W.excIn K C bmB newId = true ∧ ExcBaseFacts B newId initId bmB ∧ bmB.contains (.type "BaseException") = true
def tRaise (C : Addr) (E : XK) (t : TA) : TS := fun _ σ H => t σ H fun xs H1 => xs.length ≤ sizeLine ∧ E (.ref C) none H1
section
variable {P : Program} {w : World} {K : PySem.W.Frag} {mg : Str → Option Value} {base : Heap} {N : List Str} {qual : Str} {scope : Scope} {f : Addr} {cd : Value} {A : Around} {outer : List Env} {s₀ : Shared} {H₀ : Hp} {EX : XK}
theorem Xeb {x : Str} {C : Addr} {np cpos pos : Pos} {e : Expr} {es : List Expr} {t : TA} (XC : XCls K mg x C) (hh : (cxOf (CXe P w) P w K mg base N qual scope f cd A outer s₀ H₀ EX).A.handled = none)
   (hg : Gl (cxOf (CXe P w) P w K mg base N qual scope f cd A outer s₀ H₀ EX) x) (ha : PA (cxOf (CXe P w) P w K mg base N qual scope f cd A outer s₀ H₀ EX) (e :: es) t)
   (hdb : (x == ("__debug__" : Str)) = false := by decide) (he : starEach (e :: es) (cxOf (CXe P w) P w K mg base N qual scope f cd A outer s₀ H₀ EX).env = (false, eval e (cxOf (CXe P w) P w K mg base N qual scope f cd A outer s₀ H₀ EX).env) :: starEach es (cxOf (CXe P w) P w K mg base N qual scope f cd A outer s₀ H₀ EX).env := by rfl)
   (hpl : (backTo cpos (starEach es (cxOf (CXe P w) P w K mg base N qual scope f cd A outer s₀ H₀ EX).env)).any (·.1) = false := by rfl) :
   PS (cxOf (CXe P w) P w K mg base N qual scope f cd A outer s₀ H₀ EX) (.Raise (some (.Call (.Name x np) (e :: es) [] cpos)) none pos) (tRaise C EX t) := by
 intro pins s σ H D I h
 obtain ⟨bmB, B, newId, initId, q, FB, hB⟩ := XC.ex
 obtain ⟨bm, NN, nm, qn, bs, hd, sn, sub, ab, col, dd, k0, k1, k2, k3, k5, mN, hC, hN, noI, tl, _⟩ := exc_cls I.mod.kin q
 refine wpAny_Raise_call_subT (C := C) (nm := nm) (q := qn) (N := NN) (bs := bs) (bm := bm) (hdct := hd) (sn := sn) (sub := sub) (ab := ab) (col := col) (dd := dd) (k0 := k0) (k1 := k1) (k2 := k2) (k3 := k3) (k5 := k5) FB (mN := mN) (tl.hasType hB) hh
   (by rw [he]; show (false || (backTo cpos (starEach es _)).any (·.1)) = false; rw [hpl]; rfl) noI (Xek I hg XC.bound ⟨rfl, ?_⟩ hdb)
 have hA := ha cpos pins s σ H _ I h
 rw [he] at hA ⊢
 refine Calls.evalArgs_plain (thn hA fun us s2 ⟨xs, H2, I2, r2, hz, q2⟩ => ⟨rfl, by rw [← r2.length]; exact hz, I2.bk _ _ hC, hN.keeps I2.bk, tl.keeps I2.bk, fun h' x hm => ?_⟩)
 have I3 : Inv (cxOf (CXe P w) P w K mg base N qual scope f cd A outer s₀ H₀ EX) pins σ H2 { s2 with heap := h' } := I2.kept (t' := s2.toks) hm.keeps
 obtain ⟨tt, ht, _, _⟩ := hm.there
 exact xe_made I3 ⟨_, _, ht, rfl, rfl, rfl, rfl⟩ (Xfj (show Un (frs outer) [] H₀ H2 s₀.heap s2.heap from I2.base) hm.new) (Xdn I2.hok hm.new) q2
end
def ExcO (x C : Addr) (od : Option Addr) : HO := .ext fun h => ∃ oe vs, h.get? x = some oe ∧ oe.cls = .ref C ∧ oe.dict = od ∧ oe.data = .fields vs
abbrev Cx.suite (X : Cx) (x : Addr) : Cx := { X with A := X.A.mark (some (.ref x)), calm := false, xe := fun _ _ => False }
theorem ok_suite {X : Cx} (ok : X.Ok) (x : Addr) : (Cx.suite X x).Ok :=
 ⟨ok.mod, ok.kind, ok.glob, ok.blt, ok.above, ok.inj, ok.has, ok.cab, fun z => (nomatch z), ok.frames, ok.stk, ok.exf, ok.bs, ok.bsz, ok.noex, ok.exfs, ok.funs, ok.frf⟩
theorem inv_suite {X : Cx} {pins : List (Addr × Obj)} {σ : L2.St} {H : Hp} {s : Shared} (I : Inv X pins σ H s) (x : Addr) : Inv (Cx.suite X x) pins σ H s := ⟨ok_suite I.ok x, I.os, I.bare, I.base, I.loc, I.cell, I.free, I.freeC, I.pin, I.hok, I.len⟩
theorem Xec {X : Cx} {pins : List (Addr × Obj)} {σ : L2.St} {H : Hp} {s : Shared} {x : Addr} (ok : X.Ok) (I : Inv (Cx.suite X x) pins σ H s) : Inv X pins σ H s := ⟨ok, I.os, I.bare, I.base, I.loc, I.cell, I.free, I.freeC, I.pin, I.hok, I.len⟩
section
variable {X : Cx}
theorem inv_held {pins : List (Addr × Obj)} {σ : L2.St} {H H' : Hp} {s s' : Shared} {h' : Heap} {x C T : Addr} {od : Option Addr} {fr ex : List Addr} (I : Inv X pins σ H s) (os : s'.os = s.os) (bare : AllBare s'.gens) (un : Un (frs X.stack) [] H H' s.heap s'.heap) (hok : HOk X.prog X.w H' s'.heap)
   (nx : s.heap.get? x = none) (ux : H' x = none) (u : Upto fr ex s'.heap h') (hfr : fr = frs X.stack) (nex : ∀ b ∈ ex, s.heap.get? b = none ∧ H' b = none) (t : Exc h' x (.ref C) od T .none) : Inv X pins σ (upd H' x (ExcO x C od)) { s' with heap := h' } := by
 subst hfr
 have un2 : Un (frs X.stack) [] H H' s.heap h' := un_upto un u (fun b hb => .inl hb) fun b hb => (nex b hb).1
 have stk : ∀ b ∈ frs X.stack, H' b = none := fun b hb => by
   obtain ⟨_, o, ho, _⟩ := I.stack.mem hb
   exact un.free b o ho (I.stkFree b hb) (by simp)
 have hok2 : HOk X.prog X.w H' h' := hok_upto hok u stk fun b hb => (nex b hb).2
 have nex' : ∀ b v, H' b = some v → b ≠ x := fun b v e z => by rw [z, ux] at e; cases e
 have un3 : Un (frs X.stack) [] H (upd H' x (ExcO x C od)) s.heap h' := by
   refine ⟨un2.keep, un2.slot, fun b o q n hx => ?_, un2.there, fun b xs q => ?_, fun b o v q => ?_, fun b ps q => ?_⟩
   · rw [Xav (fun z => by rw [z, nx] at q; cases q)]
     exact un2.free b o q n hx
   · rw [Xav (nex' b _ (un2.tups b xs q))]
     exact un2.tups b xs q
   · rw [Xav (nex' b _ (un2.frzs b o v q))]
     exact un2.frzs b o v q
   · obtain ⟨more, z⟩ := un2.tbls b ps q
     exact ⟨more, by rw [Xav (nex' b _ z)]; exact z⟩
 obtain ⟨oe, vs, oT, ts, ne, ee, hc, hd, hf, _⟩ := t
 have hok3 : HOk X.prog X.w (upd H' x (ExcO x C od)) h' := fun b v e => by
   by_cases z : b = x
   · subst z
     rw [upd_same] at e
     cases e
     exact ⟨⟨oe, vs, ee, hc, hd, hf⟩, ⟨oe, ee⟩, fun h1 h2 ⟨o1, v1, q1, q2, q3, q4⟩ k => ⟨o1, v1, k o1 q1, q2, q3, q4⟩⟩
   · rw [Xav z] at e
     exact (hok2 b v e).stay (fun _ _ _ q => q) (fun c q => by rw [Xav (nex' c _ q)]; exact q) fun c xs q => by rw [Xav (nex' c _ q)]; exact q
 obtain ⟨hh, gg, dd, tt, oo⟩ := s'
 obtain rfl : oo = s.os := os
 have z := I.call (h' := h') (g' := gg) (d' := dd) (t' := tt) (ch := []) un3 hok3 bare (fun b z => absurd z (by simp))
 exact z
end
end Stow
namespace Stow
open PySem L2 PyProof.Rows
section
variable {X : Cx}
def ECls (K : PySem.W.Frag) (C : Addr) (bm : List Value) : Prop := ∃ (nm qn : Str) (N : Addr) (bs : List Value) (hd : Bool) (sn : List Str) (sub : List Value) (ab : Bool) (col : Option Bool) (dd : Option Addr) (k0 k1 k2 k3 k5 : Option Value) (newId : String),
 K.lookup C = some (excClassObj nm qn C N bs bm hd sn sub ab col dd k0 k1 k2 k3 k5 newId)
variable {k : Nat} {f C0 : Addr} {fd : FuncData} {ps : List Str} {sp : Sp} {fx cx : Str} {p cpos epos np hpos pos : Pos} {e : Expr} {es : List Expr} {ta : TA} {b0 : Stmt} {suite : List Stmt} {ts : Addr → TS}
theorem held_x {pins : List (Addr × Obj)} {σ : L2.St} {H : Hp} {s s' : Shared} {EX : XK} {y : Value} {W : Shared → Prop} (I : Inv X pins σ H s) (hst : X.stack = X.env :: X.outer ∧ X.env.frame = some X.env.locals) (hq : CXe X.prog X.w X.stack H s EX y s')
   (k : ∀ (x C : Addr) (od : Option Addr) (T : Addr) (h2 : Heap) (H2 : Hp), y = .ref x → EX (.ref C) od H2 → Exc h2 x (.ref C) od T .none → Inv X pins σ (upd H2 x (ExcO x C od)) { s' with heap := h2 } →
     (∀ h3, Upto (frs X.stack) [T] h2 h3 → Exc h3 x (.ref C) od T .none → H2 x = none ∧ Inv X pins σ (upd H2 x (ExcO x C od)) { s' with heap := h3 }) → W { s' with heap := h2 }) {E' : Value → Shared → Prop} :
   wpAny (model X.prog X.w) X.A (noteFrame y X.env) (fun _ s2 => wpAny (model X.prog X.w) X.A (setFlight y none) (fun _ s3 => W s3) E' s2) E' s' := by
 obtain ⟨x, C, T, od, H', rfl, os, bare, un, hok, nx, nT, ux, uT, t, q⟩ := hq
 have I' : Inv X pins σ H' s' := by
   obtain ⟨hh, gg, dd, tt, oo⟩ := s'
   obtain rfl : oo = s.os := os
   have z := I.call (h' := hh) (g' := gg) (d' := dd) (t' := tt) (ch := []) un hok bare (fun b z => absurd z (by simp))
   exact z
 have efr : (X.env :: X.outer).filterMap (·.frame) = frs X.stack := by rw [hst.1]; rfl
 refine look1 (base := X.base) (outer := X.outer) (by rw [← hst.1]; exact I'.ok.frames) (by rw [← hst.1]; exact I'.stack) hst.2 t fun h1 T' nT' u1 t1 => ?_
 rw [efr] at u1
 refine flight_x (s := { s' with heap := h1 }) (fr := frs X.stack) t1 fun h2 u2 t2 => ?_
 have new : ∀ b ∈ [T, x] ++ [T'] ++ [T'], s.heap.get? b = none ∧ H' b = none := fun b hb => by
   simp only [List.cons_append, List.nil_append, List.mem_cons, List.not_mem_nil, or_false] at hb
   rcases hb with rfl | rfl | rfl | rfl
   · exact ⟨nT, uT⟩
   · exact ⟨nx, ux⟩
   · exact ⟨Xfj un nT', Xdn hok nT'⟩
   · exact ⟨Xfj un nT', Xdn hok nT'⟩
 refine k x C od T' h2 H' rfl q t2 (inv_held I os bare un hok nx ux (u1.trans u2) rfl (fun b hb => new b (List.mem_append_left _ hb)) t2) fun h3 u3 t3 => ⟨ux, inv_held I os bare un hok nx ux ((u1.trans u2).trans u3) rfl new t3⟩
theorem sp_unsuite {pins : List (Addr × Obj)} {D : Ends} {x : Addr} {fl : Flow} {s' : Shared} (ok : X.Ok) (h : SP (Cx.suite X x) pins D fl s') : SP X pins D fl s' := by
 cases fl with
 | next => obtain ⟨σ', H', I, q⟩ := h; exact ⟨σ', H', Xec ok I, q⟩
 | brk => obtain ⟨σ', H', I, q⟩ := h; exact ⟨σ', H', Xec ok I, q⟩
 | cont => obtain ⟨σ', H', I, q⟩ := h; exact ⟨σ', H', Xec ok I, q⟩
 | ret u => obtain ⟨v, σ', H', I, r, q⟩ := h; exact ⟨v, σ', H', Xec ok I, r, q⟩
end
end Stow
namespace Stow
open PySem L2 PyProof.Rows
structure Defx (P : Program) (w : World) (K : PySem.W.Frag) (mg : Str → Option Value) (base : Heap) (x : Str) (k : Nat) (ps : List Str) (sp : Sp) : Prop where
 ex : ∃ (f : Addr) (fd : FuncData), FnOk P w K mg base (CXe P w) k f fd ps sp ∧ mg x = some (.ref f) ∧ PySem.W.keepIn K (.ref f) = true ∧ Xdc K fd ps []
section
variable {P : Program} {w : World} {K : PySem.W.Frag} {mg : Str → Option Value} {base : Heap}
theorem Xbz {x qual : Str} {st : Stmt} {f : Addr} {fd : FuncData} {N ps : List Str} {k : Nat} {sp : Sp} (F : Fun K x qual st f fd) (S : FnScope N ps (Xab st)) (len : ∀ vs H Q E, sp vs H Q E → vs.length = ps.length)
   (hbody : ∀ (cdv : Value) (A : Around) (outer : List Env) (s : Shared) (H : Hp) (vs : List V) (Q : VK) (E : XK), Room k (A.deeper (envOfC qual (Xab st) s.heap.objs.size f cdv)) → sp vs H Q E →
     ∃ t, PSs (cxOf (CXe P w) P w K mg base N qual (Xab st) f cdv A outer s H E) (Xae st) t ∧ t { nx := fun _ H' => Q .non H', rt := Q } (start N vs) H) : FnOk P w K mg base (CXe P w) (k + 1) f fd ps sp := by
 obtain ⟨oc, od, kV, doc, pm, an, cdv, ct, osl, rfl, lk, hcd⟩ := F.ex
 exact fn_of lk hcd S len fun A outer s H vs Q E hr hsp => hbody cdv A outer s H vs Q E hr hsp
theorem Src.okx {x : Str} {st : Stmt} {N ps : List Str} {k : Nat} {sp : Sp} (S : Src K mg x st) (sc : FnScope N ps (Xab st))
   (hb : ∀ (kV doc pm : Value) (an : Option Addr) (cdv ct : Value) (us : List Value), us.length = ps.length → bindArgs (PySem.W.fnOf x x (Xaf st) (Xae st) (Xab st) .none kV doc pm an cdv ct) ⟨us, []⟩ = pure (ps.zip us))
   (len : ∀ vs H Q E, sp vs H Q E → vs.length = ps.length)
   (hbody : ∀ (f : Addr) (cdv : Value) (A : Around) (outer : List Env) (s : Shared) (H : Hp) (vs : List V) (Q : VK) (E : XK), Room k (A.deeper (envOfC x (Xab st) s.heap.objs.size f cdv)) → sp vs H Q E →
     ∃ t, PSs (cxOf (CXe P w) P w K mg base N x (Xab st) f cdv A outer s H E) (Xae st) t ∧ t { nx := fun _ H' => Q .non H', rt := Q } (start N vs) H) : Defx P w K mg base x (k + 1) ps sp := by
 obtain ⟨f, fd, F, hm⟩ := S.ex
 exact ⟨f, fd, Xbz F sc len (hbody f), hm, F.kp, F.binds hb⟩
end
section
variable {X : Cx}
theorem Xbh : Xef (CXe X.prog X.w) X E0 := by
 rintro pins σ H s e s' I ⟨x, C, T, od, H', _, _, _, _, _, _, _, _, _, _, q⟩
 exact q.elim
theorem Xak {x : Str} {j k : Nat} {ps : List Str} {sp : Sp} {p pos : Pos} {e : Expr} {es : List Expr} {t : TA} (D : Defx X.prog X.w X.K X.mg X.base x j ps sp) (hr : Room k X.A) (hg : Gl X x) (ha : PA X (e :: es) t) (hk : j ≤ k := by decide)
   (hdb : (x == ("__debug__" : Str)) = false := by decide) (he : starEach (e :: es) X.env = (false, eval e X.env) :: starEach es X.env := by rfl) (hpl : (backTo pos (starEach es X.env)).any (·.1) = false := by rfl) :
   PE X (.Call (.Name x p) (e :: es) [] pos) (tCall sp [] E0 t) := by
 obtain ⟨f, fd, F, hm, kp, b⟩ := D.ex
 exact pe_call F (hr.mono hk) hg hm kp b .nil Xbh ha hdb he hpl
variable {j k : Nat} {C0 : Addr} {ps : List Str} {sp : Sp} {fx cx : Str} {p cpos epos np hpos pos : Pos} {e : Expr} {es : List Expr} {ta : TA} {b0 : Stmt} {suite : List Stmt} {ts : Addr → TS}
end
theorem Lk.of {M : Model} {h : Heap} {α : Type} {m : Sem α} {v : α} (l : PySem.W.Looks M h m v) : Lk M h m v := fun A E g d t os Q q => l A Q E ⟨h, g, d, t, os⟩ (fun _ _ e => e) q
structure XK0 (K : PySem.W.Frag) (C : Addr) : Prop where
 ga : PySem.W.findIn K (.ref C) "__getattribute__" = some (some (.builtin "BaseException.__getattribute__"))
 gat : PySem.W.findIn K (.ref C) "__getattr__" = some none
 cls : PySem.W.findIn K (.ref C) "__class__" = some (some (.builtin "object.__class__"))
 obj : PySem.W.mroIn K C (.type "object") = some true
 exc : PySem.W.mroIn K C (.type "BaseException") = some true
theorem XK0.lk {prog : Program} {w : World} {K : PySem.W.Frag} {C : Addr} {h : Heap} (x : XK0 K C) (KX : K.In h) : XLk prog w h C :=
 ⟨.of (PySem.W.looks_findIn KX x.ga), .of (PySem.W.looks_findIn KX x.gat), .of (PySem.W.looks_findIn KX x.cls), .of (PySem.W.looks_mroIn KX x.obj), .of (PySem.W.looks_mroIn KX x.exc)⟩
section
variable {X : Cx}
end
end Stow
namespace Stow
open PySem L2 PyProof.Rows
open PySem.W in
theorem refuse_base (self : Value) : refuseLoop self "__setattr__" [.type "ValueError", .type "Exception", .type "BaseException", .type "object"] = pure () := by kernel_rfl
def excTail : List Value → Bool
 | .ref _ :: r => excTail r
 | l => l == [.type "ValueError", .type "Exception", .type "BaseException", .type "object"]
open PySem.W in
theorem refuse_tail (self : Value) : ∀ {l : List Value}, excTail l = true → refuseLoop self "__setattr__" l = pure ()
 | .ref c :: r, e => by rw [refuseLoop_ref]; exact refuse_tail self e
 | [], e => by cases e
 | .none :: r, e => by cases e
 | .type n :: r, e => by
   have e' : (Value.type n :: r) = [.type "ValueError", .type "Exception", .type "BaseException", .type "object"] := beq_iff_eq.mp e
   rw [e']
   exact refuse_base self
 | .ellipsis :: r, e => by cases e
 | .notImplemented :: r, e => by cases e
 | .bool b :: r, e => by cases e
 | .int i t :: r, e => by cases e
 | .float i t :: r, e => by cases e
 | .str i t :: r, e => by cases e
 | .bytes i t :: r, e => by cases e
 | .builtin i :: r, e => by cases e
section
variable {prog : Program} {w : World} {A : Around} {K : PySem.W.Frag} {x C : Addr} {s : Shared}
open PySem.W in
theorem set_exc0 {E : Value → Shared → Prop} {ox : Obj} {vs : Array Value} {name : Str} {v : Value} {cd : ClassData} {Q : Unit → Shared → Prop} (X : K.In s.heap) (hx : s.heap.get? x = some ox) (hcl : ox.cls = .ref C) (hdi : ox.dict = none) (hda : ox.data = .fields vs)
   (hs : findIn K (.ref C) "__setattr__" = some (some (.builtin "object.__setattr__"))) (hc : clsIn K C = some cd) (ho : excTail cd.mro = true) (hm : mroIn K C (.type "object") = some true) (hd : cd.hasDict = true) (ht : findIn K (.ref C) name = some none)
   (h : ∀ h' dx, s.heap.get? dx = none → dx ≠ x → h'.get? x = some { ox with dict := some dx } → h'.Ns1 dx (fun y => if y = name then some v else none) → (∀ b o, b ≠ x → s.heap.get? b = some o → h'.get? b = some o) → Q () { s with heap := h', toks := s.toks + 2 }) :
   wpAny (model prog w) A (setAttr (.ref x) name v) Q E s := by
 have I : InstAt s.heap x ox C none := ⟨hx, hcl, by unfold notCls; rw [hda], by rw [hdi]; trivial⟩
 refine set_plain X I hs ?_
 have SF := PySem.F.store_object
 have sub : Looks (model prog w) s.heap (isInstance (.ref x) (.type "object")) true := I.type.andThen (looks_mroIn X hm)
 refine codeAny_call_builtin SF.slot.plain SF.entry (@check_slot (model prog w) _ _ { s with toks := s.toks + 1 } "object.__setattr__" "object" "__setattr__" (.ref x) [.str name s.toks, v] [] _ SF.kind SF.split sub (SF.args (.ref x) (.str name s.toks) v) ?_)
 have mro : Looks (model prog w) s.heap (mroOf (.ref C)) cd.mro := (looks_clsIn X hc).andThen .now
 rw [osa_eq, refuse_eq]
 refine wpAny_bind (wpAny_bind (Looks.here (s := { s with toks := s.toks + 1 }) I.type (wpAny_bind (Looks.here (s := { s with toks := s.toks + 1 }) mro ?_))))
 rw [refuse_tail _ ho]
 refine wpAny_pure (wpAny_bind (Looks.here (s := { s with toks := s.toks + 1 }) I.type (wpAny_bind (Looks.here (s := { s with toks := s.toks + 1 }) (looks_findIn X ht) (wpAny_bind (wpAny_pure ?_))))))
 show wpAny _ _ (Builtin.ObjectAttr.storeInOwnDict (.ref x) (.ref C) _ name v _) _ _ _
 unfold Builtin.ObjectAttr.storeInOwnDict
 obtain ⟨c0, d0, dt0, sl0⟩ := ox
 dsimp only at hcl hdi hda
 subst hcl hdi hda
 refine wpAny_bind (wpAny_pure (wpAny_bind (wpAny_bind (wpAny_loadPart hx (wpAny_bind (Looks.here (s := { s with toks := s.toks + 1 }) (looks_clsIn X hc) ?_))))))
 rw [hd]
 show wpAny (model prog w) A.in1 (do
   let d ← alloc { cls := Value.type "dict", data := Data.dict #[] }
   update x fun o => { o with dict := some d }
   dictMade (.ref C) x d) _ _ _
 refine wpAny_bind (wpAny_alloc ?_)
 refine wpAny_bind (wpAny_update (Heap.get?_push_of_some _ hx) ?_)
 refine wpAny_pure (a := some s.heap.objs.size) (wpAny_bind (wpAny_pure (wpAny_bind ?_)))
 have ne : s.heap.objs.size ≠ x := Nat.ne_of_gt (Heap.lt_size hx)
 have n0 : ((s.heap.push { cls := .type "dict", data := .dict #[] }).update x fun o => { o with dict := some s.heap.objs.size }).Ns1 s.heap.objs.size (fun _ => none) := by
   have e1 : (s.heap.push { cls := .type "dict", data := .dict #[] }).get? s.heap.objs.size = some { cls := .type "dict", data := .dict #[] } := Heap.get?_push_size s.heap rfl
   have e3 : (s.heap.push { cls := .type "dict", data := .dict #[] }).Ns s.heap.objs.size (fun _ => none) := ⟨_, #[], _, e1, rfl, (fun e he => absurd he (by simp)), fun _ => rfl⟩
   exact (Heap.Ns1.of_empty e3).at fun o q => by rw [Heap.get?_update_other _ _ (fun z => ne z.symm)]; exact q
 refine wpAny_nsSet1 n0 fun h' hn2 hs2 => ?_
 obtain ⟨oD, esD, epD, hoD, hdD, hcD⟩ := hn2.count (PySem.Within.cons name v (ns := []) (fun y hy => absurd rfl hy))
 refine wpAny_bind (wpAny_lookBehind hoD (by rw [hdD]; exact pastItsLine_dict (Nat.le_trans hcD (by show 1 ≤ sizeLine + 1; exact Nat.le_add_left 1 _))) ?_)
 refine wpAny_pure (h _ s.heap.objs.size (Heap.get?_none_of_le (Nat.le_refl _)) ne ?_ hn2 fun b o nb q => ?_)
 · rw [hs2.2 x (fun z => ne z.symm)]
   exact Heap.get?_update_self _ (Heap.get?_push_of_some _ hx) rfl
 · rw [hs2.2 b (Nat.ne_of_lt (Heap.lt_size q))]
   show ((s.heap.push _).update x _).get? b = some o
   rw [Heap.get?_update_other _ _ (fun z => nb z.symm)]
   exact Heap.get?_push_of_some _ q
end
end Stow
namespace Stow
open PySem
open Sem (wp)
section
variable {prog : Program} {w : World} {A : Around} {E : Value → Shared → Prop} {h : Heap} {g : Array GenState} {d : Drawn} {t : Nat} {os : OsState} {a C : Addr} {o : Obj} {name : Str} {v : Value}
end
end Stow
namespace Stow
open PySem L2 PyProof.Rows
structure XSet (K : PySem.W.Frag) (C : Addr) (f : Str) : Prop where
 sa : PySem.W.findIn K (.ref C) "__setattr__" = some (some (.builtin "object.__setattr__"))
 cd : ∃ cd, PySem.W.clsIn K C = some cd ∧ excTail cd.mro = true ∧ cd.hasDict = true
 ob : PySem.W.mroIn K C (.type "object") = some true
 no : PySem.W.findIn K (.ref C) f = some none
def ExcN (x C : Addr) (od : Option Addr) : HO := .ext fun h => ∃ tt, h.get? x = some { cls := .ref C, dict := od, data := .fields #[.ref tt, .none, .none, .none, .bool false, .none] }
def sFldX (K : PySem.W.Frag) (ta tv : TE) (f : Str) : TS := fun D σ H => tv σ H fun y H1 => ta σ H1 fun x H2 => ∃ a C, x = .ref a ∧ H2 a = some (ExcN a C none) ∧ XSet K C f ∧ ∀ dx, H2 dx = none → D.nx σ (upd (upd H2 dx (.xd [(f, y)])) a (ExcN a C (some dx)))
section
variable {X : Cx} {o e value : Expr} {f : Str} {pos pos' : Pos} {ta tv : TE}
theorem ps_fldX (ha : PE X o ta) (hv : PE X value tv) (hs : swapsWith value (some (.Attribute o f pos')) pos.line X.env = pure false := by rfl) : PS X (.Assign [.Attribute o f pos'] value pos) (sFldX X.K ta tv f) := by
 intro pins s σ H D I h
 refine plainObj_wpAny_Assign_Attribute (thn (hv pins s σ H _ I h) fun u s1 ⟨y, H1, I1, ry, q⟩ => thn (ha pins s1 σ H1 _ I1 q) fun ov s2 ⟨x, H2, I2, rx, a, C, ex, ea, Z, q2⟩ => ?_) hs
 subst ex
 obtain rfl : ov = Value.ref a := rx
 obtain ⟨⟨tt, ee⟩, _⟩ := I2.hok a _ ea
 obtain ⟨cd, hcd, ht, hdi⟩ := Z.cd
 refine set_exc0 I2.kIn ee rfl rfl rfl Z.sa hcd ht Z.ob hdi Z.no fun h' dx nd ne e' n' kp => ?_
 have ud : H2 dx = none := Xdn I2.hok nd
 have nda : a ≠ dx := fun z => ne z.symm
 refine ⟨σ, _, ?_, q2 dx ud⟩
 -- the dict is laid, the exception bears it
 have un : Un X.fs [] H2 (upd (upd H2 dx (.xd [(f, y)])) a (ExcN a C (some dx))) s2.heap h' := by
   refine ⟨fun b ob qb n _ _ => kp b ob (fun z => by rw [z, ea] at n; cases n) qb, fun b ob qb n _ _ => ⟨ob.slots, kp b ob (fun z => by rw [z, ea] at n; cases n) qb⟩, fun b ob qb n _ => ?_, fun b ob qb _ => ?_, fun b xs qb => ?_, fun b ob v' qb => ?_, fun b ps qb => ?_⟩
   · rw [Xav (fun z => by rw [z, ea] at n; cases n), Xav (fun z => by rw [z, nd] at qb; cases qb)]
     exact n
   · by_cases z : b = a
     · subst z
       exact ⟨_, e'⟩
     · exact ⟨ob, kp b ob z qb⟩
   · rw [Xav (fun z => by rw [z, ea] at qb; cases qb), Xav (Xaw qb ud)]
     exact qb
   · rw [Xav (fun z => by rw [z, ea] at qb; cases qb), Xav (Xaw qb ud)]
     exact qb
   · exact ⟨#[], by rw [Xav (fun z => by rw [z, ea] at qb; cases qb), Xav (Xaw qb ud), qb]; simp⟩
 have hok : HOk X.prog X.w (upd (upd H2 dx (.xd [(f, y)])) a (ExcN a C (some dx))) h' := fun b v' qb => by
   by_cases z : b = a
   · subst z
     rw [upd_same] at qb
     cases qb
     exact ⟨⟨tt, e'⟩, ⟨_, e'⟩, fun h1 h2 ⟨t1, q1⟩ k => ⟨t1, k _ q1⟩⟩
   · rw [Xav z] at qb
     by_cases z2 : b = dx
     · subst z2
       rw [upd_same] at qb
       cases qb
       refine ⟨_, n', fun g => ?_⟩
       show RelO (List.lookup g [(f, y)]) (if g = f then some u else none)
       by_cases zg : g = f
       · subst zg
         rw [if_pos rfl, List.lookup_cons_self]
         exact ry
       · rw [if_neg zg, List.lookup_cons, show (g == f) = false from beq_false_of_ne zg]
         trivial
     · rw [Xav z2] at qb
       refine (I2.hok b v' qb).stay (fun c w' hcw q => kp c w' (fun y' => ?_) q) (fun c q => ?_) fun c xs q => ?_
       · subst y'
         rcases hcw with r | r
         · exact z r.symm
         · rw [ea] at r
           cases r
       · rw [Xav (fun z => by rw [z, ea] at q; cases q), Xav (Xaw q ud)]
         exact q
       · rw [Xav (fun z => by rw [z, ea] at q; cases q), Xav (Xaw q ud)]
         exact q
 exact I2.un un hok
end
end Stow
namespace Stow
open PySem
open Sem (wp)
section
variable {prog : Program} {w : World} {A : Around} {E : Value → Shared → Prop} {h : Heap} {g : Array GenState} {d : Drawn} {t : Nat} {os : OsState}
variable {nm q : Str} {C N : Addr} {bs bm bmB : List Value} {hdct : Bool} {sn : List Str} {sub : List Value} {ab : Bool} {col : Option Bool} {dd : Option Addr} {k0 k1 k2 k3 k5 : Option Value} {B newId initId : String}
theorem make_exc1 (FB : ExcBaseFacts B newId initId bmB) (TL : OwnTail h bmB bm) {args : List Value} {fI : Addr} {oI : Obj} {Q : Fin → Shared → Prop} (hC : h.get? C = some (excClassObj nm q C N bs bm hdct sn sub ab col dd k0 k1 k2 k3 k5 newId))
   (LI : PySem.W.Looks (model prog w) h (typeLookup (.ref C) "__init__") (some (.ref fI))) (hfI : h.get? fI = some oI) (hfc : oI.cls = .type "function")
   (k : ∀ h' e, Heap.MadeExcOf h h' e (.ref C) args → wpAny (model prog w) A (call (.ref fI) (.ref e :: args)) (fun r s' => r = .none ∧ Q (.done (.ret (.ref e))) s') E ⟨h', g, d, t, os⟩) (hz : args.length ≤ sizeLine) :
   wpAny (model prog w) A (Builtin.«type.__call__» ⟨.ref C :: args, []⟩) Q E ⟨h, g, d, t, os⟩ := by
 repeat (first
   | with_reducible refine wpAny_loadPart_at hC ?_
   | with_reducible refine wpAny_madeBy_exc hC ?_
   | wp_step)
 refine codeAny_call_builtin_code (Code.quiet_builtin _ FB.quiet) (wpAny_check_new_subT FB TL hC (codeAny_exc_new_subT FB TL hC ?_ hz))
 show wpAny _ _ _ _ _ _
 have kp : ∀ b o, h.get? b = some o → ((h.push { cls := .type "tuple", data := .seq args.toArray }).push { cls := .ref C, data := .fields #[.ref h.objs.size, .none, .none, .none, .bool false, .none] }).get? b = some o :=
   fun b o z => Heap.get?_push_of_some _ (Heap.get?_push_of_some _ z)
 have gC := kp _ _ hC
 have gE : ((h.push { cls := .type "tuple", data := .seq args.toArray }).push { cls := .ref C, data := .fields #[.ref h.objs.size, .none, .none, .none, .bool false, .none] }).get? (h.objs.size + 1)
     = some { cls := .ref C, data := .fields #[.ref h.objs.size, .none, .none, .none, .bool false, .none] } := by heap_get
 have cC : (Value.ref C :: bm).contains (.ref C) = true := by simp
 unfold isInstance
 repeat (first
   | with_reducible refine wpAny_loadPart_at gE ?_
   | (with_reducible refine wpAny_isSubtype_exc gC ?_; rw [cC])
   | wp_step)
 show wpAny _ _ (typeLookup (.ref C) _) _ _ _
 refine LI _ _ _ _ kp ?_
 refine wpAny_holding (wpAny_bind ?_)
 unfold bindSpecial
 refine wpAny_bind (wpAny_typeOf (T := "function") ⟨_, kp _ _ hfI, hfc⟩ ?_)
 rw [if_pos (by decide)]
 refine wpAny_pure (wpAny_bind (wpAny_mono (k _ (h.objs.size + 1) ⟨kp, Heap.get?_none_of_le (Nat.le_succ _), h.objs.size, gE, Heap.get?_none_of_le (Nat.le_refl _), ?_⟩) (fun r s' hr => ?_) fun _ _ z => z))
 · exact Heap.get?_push_of_some _ (Heap.get?_push_at rfl rfl)
 · obtain ⟨rfl, z⟩ := hr
   wp_walk
   exact z
theorem make_exc2 (FB : ExcBaseFacts B newId initId bmB) (TL : OwnTail h bmB bm) {args : List Value} {fI : Addr} {oI : Obj} {Q : Value → Shared → Prop} (hC : h.get? C = some (excClassObj nm q C N bs bm hdct sn sub ab col dd k0 k1 k2 k3 k5 newId))
   (LI : PySem.W.Looks (model prog w) h (typeLookup (.ref C) "__init__") (some (.ref fI))) (hfI : h.get? fI = some oI) (hfc : oI.cls = .type "function")
   (k : ∀ h' e, Heap.MadeExcOf h h' e (.ref C) args → wpAny (model prog w) (A.under (.builtin "type.__call__" ⟨.ref C :: args, []⟩)) (call (.ref fI) (.ref e :: args)) (fun r s' => r = .none ∧ Q (.ref e) s') E ⟨h', g, d, t, os⟩) (hz : args.length ≤ sizeLine) :
   wpAny (model prog w) A (call (.ref C) args) Q E ⟨h, g, d, t, os⟩ := by
 have y1 := tc_lookup
 have y2 := tc_bind (.ref C)
 have y3 : (⟨h, g, d, t, os⟩ : Shared).TypeIs (.ref C) "type" := ⟨_, hC, rfl⟩
 refine wpAny_call (codeAny_of_tree ?_)
 show wpAny _ _ (callAny (.ref C) _) _ _ _
 repeat (any_goals (first
   | assumption
   | with_reducible refine wpAny_loadPart_at hC ?_
   | wp_step))
 refine ⟨rfl, codeAny_call_builtin_at (Code.quiet_builtin _ (by decide +kernel)) entry_typeCall (wpAny_check_type_call_sub hC (make_exc1 FB TL hC LI hfI hfc (fun h' e hm => ?_) hz))⟩
 exact k h' e hm
theorem raise_exc {M : Model} {env : Env} {s : Shared} {x : Sem Value} {Q : Flow → Shared → Prop} (hbase : bm.contains (.type "BaseException") = true) (hh : A.handled = none)
   (k : wpAny M A x (fun v s1 => ∃ e od tt, v = .ref e ∧ s1.heap.get? C = some (excClassObj nm q C N bs bm hdct sn sub ab col dd k0 k1 k2 k3 k5 newId) ∧ s1.heap.get? e = some { cls := .ref C, dict := od, data := .fields #[.ref tt, .none, .none, .none, .bool false, .none] } ∧ E (.ref e) s1) E s) :
   wpAny M A (raiseStmt env (some x) none) Q E s := by
 have cB : (Value.ref C :: bm).contains (.type "BaseException") = true := by rw [List.contains_cons, hbase, Bool.or_true]
 unfold raiseStmt
 refine wpAny_bind (wpAny_mono k (fun v s1 k1 => ?_) fun _ _ z => z)
 obtain ⟨e, od, tt, rfl, hC, he, z⟩ := k1
 obtain ⟨hp, gg, d1, tk, os1⟩ := s1
 repeat (first
   | with_reducible refine wpAny_loadPart_at he ?_
   | with_reducible refine wpAny_loadPart_at hC ?_
   | (with_reducible refine wpAny_isSubtype_exc hC ?_; rw [cB])
   | wp_step)
 exact wpAny_raiseNew_none hh z
end
end Stow
namespace Stow
open PySem L2 PyProof.Rows
structure XIni (K : PySem.W.Frag) (mg : Str → Option Value) (x : Str) (C C0 fI : Addr) : Prop where
 bound : mg x = some (.ref C)
 lk : ∃ (nm qn : Str) (N : Addr) (bs : List Value) (hd : Bool) (sn : List Str) (sub : List Value) (ab : Bool) (col : Option Bool) (dd : Option Addr) (k0 k1 k2 k3 k5 : Option Value),
   K.lookup C = some (excClassObj nm qn C N bs (.ref C0 :: [.type "ValueError", .type "Exception", .type "BaseException", .type "object"]) hd sn sub ab col dd k0 k1 k2 k3 k5 "ValueError.__new__")
 base : PySem.W.excIn K C0 [.type "ValueError", .type "Exception", .type "BaseException", .type "object"] "ValueError.__new__" = true
 ini : PySem.W.findIn K (.ref C) "__init__" = some (some (.ref fI))
 keep : PySem.W.keepIn K (.ref C) = true
 fn : ∃ (c : Value) (dd : Option Addr) (da : Data) (sl : Array (Option Value)), K.lookup fI = some ⟨c, dd, da, sl⟩ ∧ c = .type "function"
def del (H : Hp) (x : Addr) : Hp := fun b => if b = x then none else H b
theorem del_same {H : Hp} {x : Addr} : del H x x = none := by unfold del; rw [if_pos rfl]
theorem del_ne {H : Hp} {x b : Addr} (h : b ≠ x) : del H x b = H b := by unfold del; rw [if_neg h]
theorem inv_del {X : Cx} {pins : List (Addr × Obj)} {σ : L2.St} {H : Hp} {s : Shared} {x : Addr} {φ : Heap → Prop} (I : Inv X pins σ H s) (e : H x = some (.ext φ)) : Inv X pins σ (del H x) s := by
 have nx : ∀ b v, H b = some v → v ≠ .ext φ → b ≠ x := fun b v q n z => by
   subst z
   rw [e] at q
   exact n (Option.some.inj q).symm
 have un : Un X.fs [] H (del H x) s.heap s.heap := by
   refine ⟨fun b o q _ _ _ => q, fun b o q _ _ _ => ⟨o.slots, q⟩, fun b o q n _ => ?_, fun b o q _ => ⟨o, q⟩, fun b xs q => ?_, fun b o v q => ?_, fun b ps q => ⟨#[], ?_⟩⟩
   · by_cases z : b = x
     · rw [z]
       exact del_same
     · rw [del_ne z]
       exact n
   · rw [del_ne (nx b _ q (by intro z; cases z))]
     exact q
   · rw [del_ne (nx b _ q (by intro z; cases z))]
     exact q
   · rw [del_ne (nx b _ q (by intro z; cases z)), q]
     simp
 have hok : HOk X.prog X.w (del H x) s.heap := fun b v q => by
   by_cases z : b = x
   · rw [z, del_same] at q
     cases q
   · rw [del_ne z] at q
     refine (I.hok b v q).stay (fun _ _ _ z => z) (fun c q' => ?_) fun c xs q' => ?_
     · rw [del_ne (nx c _ q' (by intro z; cases z))]
       exact q'
     · rw [del_ne (nx c _ q' (by intro z; cases z))]
       exact q'
 exact I.un (h' := s.heap) (t' := s.toks) un hok
theorem inv_new {X : Cx} {pins : List (Addr × Obj)} {σ : L2.St} {H : Hp} {s : Shared} {h' : Heap} {x C tt : Addr} (I : Inv X pins σ H s) (nx : s.heap.get? x = none) (kp : ∀ b o, s.heap.get? b = some o → h'.get? b = some o)
   (e : h'.get? x = some { cls := .ref C, data := .fields #[.ref tt, .none, .none, .none, .bool false, .none] }) : Inv X pins σ (upd H x (ExcN x C none)) { s with heap := h' } := by
 have ux : H x = none := Xdn I.hok nx
 have un : Un X.fs [] H (upd H x (ExcN x C none)) s.heap h' := by
   refine ⟨fun b o q _ _ _ => kp b o q, fun b o q _ _ _ => ⟨o.slots, kp b o q⟩, fun b o q n _ => ?_, fun b o q _ => ⟨o, kp b o q⟩, fun b xs q => ?_, fun b o v q => ?_, fun b ps q => ⟨#[], ?_⟩⟩
   · rw [Xav (fun z => by rw [z, nx] at q; cases q)]
     exact n
   · rw [Xav (Xaw q ux)]
     exact q
   · rw [Xav (Xaw q ux)]
     exact q
   · rw [Xav (Xaw q ux), q]
     simp
 have hok : HOk X.prog X.w (upd H x (ExcN x C none)) h' := fun b v q => by
   by_cases z : b = x
   · subst z
     rw [upd_same] at q
     cases q
     exact ⟨⟨tt, e⟩, ⟨_, e⟩, fun h1 h2 ⟨t1, q1⟩ k => ⟨t1, k _ q1⟩⟩
   · rw [Xav z] at q
     refine (I.hok b v q).stay (fun c w' _ q' => kp c w' q') (fun c q' => ?_) fun c xs q' => ?_
     · rw [Xav (Xaw q' ux)]
       exact q'
     · rw [Xav (Xaw q' ux)]
       exact q'
 exact I.un (t' := s.toks) un hok
theorem run_excI {X : Cx} {x : Str} {C C0 fI : Addr} {fd : FuncData} {ps : List Str} {sp : Sp} {j : Nat} {pins : List (Addr × Obj)} {σ : L2.St} {H : Hp} {s : Shared} {Q : VK} {us : List Value} {vs : List V} (XI : XIni X.K X.mg x C C0 fI) (F : FnOk X.prog X.w X.K X.mg X.base (CXe X.prog X.w) j fI fd ps sp)
   (hr : Room (j + 1) X.A) (hb : Xdc X.K fd ps []) (I : Inv X pins σ H s) (r : Vals vs us) (hz : vs.length ≤ 1000) (h : ∀ y, H y = none → sp (.ref y :: vs) (upd H y (ExcN y C none)) (fun v H2 => v = .non ∧ Q (.ref y) H2) E0) :
   wpAny (model X.prog X.w) X.A (call (.ref C) us) (fun u s' => EP X pins σ Q u s' ∧ ∃ y, u = .ref y ∧ s.heap.get? y = none) X.xe s := by
 obtain ⟨nm, qn, NN, bs, hd, sn, sub, ab, col, dd, k0, k1, k2, k3, k5, lkC⟩ := XI.lk
 obtain ⟨bm, N0, nm0, qn0, bs0, hd0, sn0, sub0, ab0, col0, dd0, j0, j1, j2, j3, j5, mN0, hC0, hN0, noI, tl, _⟩ := exc_cls I.kIn XI.base
 have FB := PySem.F.excBase_ValueError
 have TL : OwnTail s.heap [.type "ValueError", .type "Exception", .type "BaseException", .type "object"] (.ref C0 :: [.type "ValueError", .type "Exception", .type "BaseException", .type "object"]) := .own hC0 hN0 noI .base
 obtain ⟨cI, dI, daI, slI, lkI, ecI⟩ := XI.fn
 have gC := I.kIn _ _ lkC
 have gI := I.kIn _ _ lkI
 have LI := PySem.W.looks_findIn (M := model X.prog X.w) I.kIn XI.ini
 obtain ⟨hp, gg, d1, tk, os1⟩ := s
 refine make_exc2 FB TL gC LI gI ecI (fun h' y hm => ?_) (by rw [← r.length]; exact Nat.le_of_lt (small1000 hz))
 obtain ⟨tt, ey, _, _⟩ := hm.there
 have I2 := inv_new I hm.new hm.keeps ey
 have uy : H y = none := Xdn I.hok hm.new
 have hq := h y uy
 have r2 : Vals (V.ref y :: vs) (Value.ref y :: us) := .cons rfl r
 have hl : ((Value.ref y :: us) ++ []).length = ps.length := by
   rw [List.append_nil, ← F.len _ _ _ _ hq]
   exact r2.length.symm
 have bd := hb _ (Value.ref y :: us) I2.kIn hl
 rw [List.append_nil] at bd
 refine wpAny_call (codeAny_mono (F.run _ X.stack _ _ ⟨Value.ref y :: us, []⟩ (Value.ref y :: us) _ _ E0 (hr.make C us []) (I2.env0.make C us []) bd r2 hq) fun rs s' hq' => ?_)
 cases rs with
 | error e => obtain ⟨_, _, _, _, _, _, _, _, _, _, _, _, _, _, _, z⟩ := hq'; exact z.elim
 | ok fl =>
   cases fl with
   | ret u =>
     obtain ⟨v, H', I3, rv, ev, q3⟩ := I2.after hq'
     subst ev
     exact ⟨rv, ⟨V.ref y, H', I3, rfl, q3⟩, y, rfl, hm.new⟩
   | next => exact False.elim hq'
   | brk => exact False.elim hq'
   | cont => exact False.elim hq'
def tRaiseI (C : Addr) (sp : Sp) (E : XK) (t : TA) : TS := fun _ σ H => t σ H fun vs H1 => vs.length ≤ 1000 ∧ ∀ y, H1 y = none → sp (.ref y :: vs) (upd H1 y (ExcN y C none)) (fun v H2 => v = .non ∧ ∃ z, V.ref y = V.ref z ∧ ∃ od, H2 z = some (ExcN z C od) ∧ E (.ref C) od (del H2 z)) E0
section
variable {P : Program} {w : World} {K : PySem.W.Frag} {mg : Str → Option Value} {base : Heap} {N : List Str} {qual : Str} {scope : Scope} {f : Addr} {cd : Value} {A : Around} {outer : List Env} {s₀ : Shared} {H₀ : Hp} {EX : XK}
theorem ps_raiseI {x : Str} {C C0 fI : Addr} {fd : FuncData} {ps : List Str} {sp : Sp} {j k : Nat} {np cpos pos : Pos} {e : Expr} {es : List Expr} {t : TA} (XI : XIni K mg x C C0 fI) (F : FnOk P w K mg base (CXe P w) j fI fd ps sp) (hb : Xdc K fd ps [])
   (hr : Room k (cxOf (CXe P w) P w K mg base N qual scope f cd A outer s₀ H₀ EX).A)
   (hg : Gl (cxOf (CXe P w) P w K mg base N qual scope f cd A outer s₀ H₀ EX) x) (ha : PA (cxOf (CXe P w) P w K mg base N qual scope f cd A outer s₀ H₀ EX) (e :: es) t) (hj : j + 1 ≤ k := by decide)
   (hdb : (x == ("__debug__" : Str)) = false := by decide) (he : starEach (e :: es) (cxOf (CXe P w) P w K mg base N qual scope f cd A outer s₀ H₀ EX).env = (false, eval e (cxOf (CXe P w) P w K mg base N qual scope f cd A outer s₀ H₀ EX).env) :: starEach es (cxOf (CXe P w) P w K mg base N qual scope f cd A outer s₀ H₀ EX).env := by rfl)
   (hpl : (backTo cpos (starEach es (cxOf (CXe P w) P w K mg base N qual scope f cd A outer s₀ H₀ EX).env)).any (·.1) = false := by rfl) :
   PS (cxOf (CXe P w) P w K mg base N qual scope f cd A outer s₀ H₀ EX) (.Raise (some (.Call (.Name x np) (e :: es) [] cpos)) none pos) (tRaiseI C sp EX t) := by
 intro pins s σ H D I h
 obtain ⟨nm, qn, NN, bs, hd, sn, sub, ab, col, dd, k0, k1, k2, k3, k5, lkC⟩ := id XI.lk
 have hB : (Value.ref C0 :: [.type "ValueError", .type "Exception", .type "BaseException", .type "object"] : List Value).contains (.type "BaseException") = true := by
   rw [List.contains_cons, PySem.F.excBase_ValueError.hasBase, Bool.or_true]
 rw [arm_exec_Raise]
 refine wpAny_bind (wpAny_standAt (raise_exc (C := C) (nm := nm) (q := qn) (N := NN) (bs := bs) (bm := .ref C0 :: [.type "ValueError", .type "Exception", .type "BaseException", .type "object"]) (hdct := hd) (sn := sn) (sub := sub) (ab := ab) (col := col) (dd := dd) (k0 := k0) (k1 := k1) (k2 := k2) (k3 := k3) (k5 := k5) (newId := "ValueError.__new__") hB hr.hd ?_))
 refine wpAny_bind (wpAny_mono ?_ (fun v s1 hv => wpAny_bind (wpAny_standAt (wpAny_pure hv))) (fun _ _ z => z))
 refine wpAny_Call_Name_kw (Xek I hg XI.bound ?_ hdb)
 refine PySem.W.callWith_K (h₀ := base) I.ok.mod.kin XI.keep (thn (ha cpos pins s σ H _ I h) fun us s1 ⟨vs, H1, I1, r, hz, q⟩ => ⟨I1.kIn, ?_⟩) he hpl
 refine thn (run_excI XI F (hr.mono hj) hb I1 r hz (Q := fun u H2 => ∃ z, u = .ref z ∧ ∃ od, H2 z = some (ExcN z C od) ∧ EX (.ref C) od (del H2 z)) (fun y hy => q y hy)) fun u s2 ⟨⟨v, H2, I2, rv, y, ev, od, ey, qe⟩, y', eu, ny⟩ => ?_
 · subst ev
   obtain rfl : u = Value.ref y := rv
   cases eu
   obtain ⟨⟨tt, g1⟩, _⟩ := I2.hok y _ ey
   refine ⟨y, od, tt, rfl, I2.kIn _ _ lkC, g1, ?_⟩
   exact xe_made (inv_del I2 ey) ⟨_, _, g1, rfl, rfl, rfl, rfl⟩ (Xfj (show Un (frs outer) [] H₀ H1 s₀.heap s1.heap from I1.base) ny) del_same qe
end
end Stow
set_option Elab.async false
set_option linter.all false
set_option maxRecDepth 100000
set_option maxHeartbeats 4000000
namespace Stow
open PySem L2 PyProof.Rows
structure DefI (P : Program) (w : World) (K : PySem.W.Frag) (mg : Str → Option Value) (base : Heap) (x : Str) (C C0 : Addr) (j : Nat) (ps : List Str) (sp : Sp) : Prop where
 ex : ∃ (fI : Addr) (fd : FuncData), XIni K mg x C C0 fI ∧ FnOk P w K mg base (CXe P w) j fI fd ps sp ∧ Xdc K fd ps []
def spInit (C : Addr) (f : Str) : Sp := fun vs H Q _ => ∃ (y : Addr) (v : V), vs = [.ref y, v] ∧ H y = some (ExcN y C none) ∧ ∀ dx, H dx = none → Q .non (upd (upd H dx (.xd [(f, v)])) y (ExcN y C (some dx)))
section
variable {P : Program} {w : World} {K : PySem.W.Frag} {mg : Str → Option Value} {base : Heap} {N : List Str} {qual : Str} {scope : Scope} {f : Addr} {cd : Value} {A : Around} {outer : List Env} {s₀ : Shared} {H₀ : Hp} {EX : XK}
theorem ps_raiseD {x : Str} {C C0 : Addr} {ps : List Str} {sp : Sp} {j k : Nat} {np cpos pos : Pos} {e : Expr} {es : List Expr} {t : TA} (D : DefI P w K mg base x C C0 j ps sp)
   (hr : Room k (cxOf (CXe P w) P w K mg base N qual scope f cd A outer s₀ H₀ EX).A)
   (hg : Gl (cxOf (CXe P w) P w K mg base N qual scope f cd A outer s₀ H₀ EX) x) (ha : PA (cxOf (CXe P w) P w K mg base N qual scope f cd A outer s₀ H₀ EX) (e :: es) t) (hj : j + 1 ≤ k := by decide)
   (hdb : (x == ("__debug__" : Str)) = false := by decide) (he : starEach (e :: es) (cxOf (CXe P w) P w K mg base N qual scope f cd A outer s₀ H₀ EX).env = (false, eval e (cxOf (CXe P w) P w K mg base N qual scope f cd A outer s₀ H₀ EX).env) :: starEach es (cxOf (CXe P w) P w K mg base N qual scope f cd A outer s₀ H₀ EX).env := by rfl)
   (hpl : (backTo cpos (starEach es (cxOf (CXe P w) P w K mg base N qual scope f cd A outer s₀ H₀ EX).env)).any (·.1) = false := by rfl) :
   PS (cxOf (CXe P w) P w K mg base N qual scope f cd A outer s₀ H₀ EX) (.Raise (some (.Call (.Name x np) (e :: es) [] cpos)) none pos) (tRaiseI C sp EX t) := by
 obtain ⟨fI, fd, XI, F, hb⟩ := D.ex
 exact ps_raiseI XI F hb hr hg ha hj hdb he hpl
theorem Xen {x : Str} {j k : Nat} {ps : List Str} {sp : Sp} {p pos : Pos} {e : Expr} {es : List Expr} {t : TA} (D : Defx P w K mg base x j ps sp) (hr : Room k (cxOf (CXe P w) P w K mg base N qual scope f cd A outer s₀ H₀ EX).A)
   (hg : Gl (cxOf (CXe P w) P w K mg base N qual scope f cd A outer s₀ H₀ EX) x) (ha : PA (cxOf (CXe P w) P w K mg base N qual scope f cd A outer s₀ H₀ EX) (e :: es) t) (hk : j ≤ k := by decide)
   (hdb : (x == ("__debug__" : Str)) = false := by decide) (he : starEach (e :: es) (cxOf (CXe P w) P w K mg base N qual scope f cd A outer s₀ H₀ EX).env = (false, eval e (cxOf (CXe P w) P w K mg base N qual scope f cd A outer s₀ H₀ EX).env) :: starEach es (cxOf (CXe P w) P w K mg base N qual scope f cd A outer s₀ H₀ EX).env := by rfl)
   (hpl : (backTo pos (starEach es (cxOf (CXe P w) P w K mg base N qual scope f cd A outer s₀ H₀ EX).env)).any (·.1) = false := by rfl) :
   PE (cxOf (CXe P w) P w K mg base N qual scope f cd A outer s₀ H₀ EX) (.Call (.Name x p) (e :: es) [] pos) (tCall sp [] EX t) := by
 obtain ⟨f', fd, F, hm, kp, b⟩ := D.ex
 exact pe_call F (hr.mono hk) hg hm kp b .nil pass_x ha hdb he hpl
end
section
variable {K : PySem.W.Frag} {σ : L2.St} {H : Hp} {D : Ends}
theorem r_raise {C : Addr} {E : XK} {t : TA} (h : t σ H fun xs H1 => xs.length ≤ sizeLine ∧ E (.ref C) none H1) : tRaise C E t D σ H := h
theorem r_raiseI {C : Addr} {sp : Sp} {E : XK} {t : TA} (h : t σ H fun vs H1 => vs.length ≤ 1000 ∧ ∀ y, H1 y = none → sp (.ref y :: vs) (upd H1 y (ExcN y C none)) (fun v H2 => v = .non ∧ ∃ z, V.ref y = V.ref z ∧ ∃ od, H2 z = some (ExcN z C od) ∧ E (.ref C) od (del H2 z)) E0) :
   tRaiseI C sp E t D σ H := h
theorem r_made {C : Addr} {f : Str} {E : XK} {v : V} (q : ∀ dx, H dx = none → E (.ref C) (some dx) (upd H dx (.xd [(f, v)]))) :
   [v].length ≤ 1000 ∧ ∀ y, H y = none → spInit C f (.ref y :: [v]) (upd H y (ExcN y C none)) (fun v H2 => v = .non ∧ ∃ z, V.ref y = V.ref z ∧ ∃ od, H2 z = some (ExcN z C od) ∧ E (.ref C) od (del H2 z)) E0 := by
 refine ⟨by show 1 ≤ 1000; decide, fun y hy => ⟨y, v, rfl, upd_same, fun dx hd => ⟨rfl, y, rfl, some dx, upd_same, ?_⟩⟩⟩
 have ne : dx ≠ y := fun z => by rw [z, upd_same] at hd; cases hd
 have hd' : H dx = none := by rw [Xav ne] at hd; exact hd
 have e : del (upd (upd (upd H y (ExcN y C none)) dx (.xd [(f, v)])) y (ExcN y C (some dx))) y = upd H dx (.xd [(f, v)]) := by
   funext b
   by_cases hb : b = y
   · subst hb
     rw [del_same, Xav (Ne.symm ne)]
     exact hy.symm
   · rw [del_ne hb, Xav hb]
     by_cases hbd : b = dx
     · subst hbd
       rw [upd_same, upd_same]
     · rw [Xav hbd, Xav hb, Xav hbd]
 rw [e]
 exact q dx hd'
end
end Stow
namespace Stow
open PySem L2 PyProof.Rows
section
variable {X : Cx} {x : Str} {C : Addr} {p pos : Pos} {e : Expr} {es : List Expr} {t : TA}
end
section
variable {K : PySem.W.Frag} {σ : L2.St} {H : Hp} {Q : VK}
end
end Stow
namespace Stow
open PySem L2 PyProof.Rows
end Stow
namespace Stow
open PySem L2 PyProof.Rows
section
variable {X : Cx}
def PTs (X : Cx) (ifs : List Expr) (t : TT) : Prop := ∀ (pins : List (Addr × Obj)) (s : Shared) (σ : L2.St) (H : Hp) (Q : Bool → Hp → Prop), Inv X pins σ H s → t σ H Q →
 wpAny (model X.prog X.w) X.A (forIn ifs true fun c r => if r = true then do let ok ← isTrue c X.env (eval c X.env); pure (ForInStep.yield ok) else pure (ForInStep.yield r)) (TP X pins σ Q) X.xe s
theorem pts_nil : PTs X [] (fun _ H Q => Q true H) := fun pins s σ H Q I q => wpAny_tests_nil ⟨H, I, q⟩
theorem pts_one {c : Expr} {t : TT} (h : PT X c t) : PTs X [c] t := fun pins s σ H Q I q => wpAny_tests_one (h pins s σ H Q I q)
end
end Stow
namespace Stow
open PySem L2 PyProof.Rows
section
variable {K : PySem.W.Frag} {σ : L2.St} {H : Hp} {Q : VK} {D : Ends}
theorem r_next (h : D.nx σ H) : tNext D σ H := h
theorem r_seq {t u : TS} (h : t { D with nx := u D } σ H) : tSeq t u D σ H := h
theorem r_nx {f : L2.St → Hp → Prop} {r : VK} {b c : L2.St → Hp → Prop} (h : f σ H) : Ends.nx ⟨f, r, b, c⟩ σ H := h
theorem r_rt {f : L2.St → Hp → Prop} {r : VK} {b c : L2.St → Hp → Prop} {v : V} (h : r v H) : Ends.rt ⟨f, r, b, c⟩ v H := h
theorem r_drop {te : TE} (h : te σ H fun _ H1 => D.nx σ H1) : tDrop te D σ H := h
theorem r_ret {te : TE} (h : te σ H D.rt) : tRet te D σ H := h
theorem r_ifS {c : TT} {t u : TS} (h : c σ H fun b H1 => if b = true then t D σ H1 else u D σ H1) : tIfS c t u D σ H := h
theorem r_asg {te : TE} {g : TG} (h : te σ H fun x H1 => g x σ H1 D.nx) : tAsg te g D σ H := h
theorem r_gname {i : Nat} {v : V} {R : L2.St → Hp → Prop} (h : R (σ.set i (some v)) H) : gName i v σ H R := h
theorem r_gsub {to ti : TE} {t : TSet} {v : V} {R : L2.St → Hp → Prop} (h : to σ H fun o H1 => ti σ H1 fun i H2 => t o i v H2 fun H3 => R σ H3) : gSub to ti t v σ H R := h
theorem r_var {i : Nat} {v : V} (e : σ[i]? = some (some v)) (h : Q v H) : tVar i σ H Q := ⟨v, e, h⟩
theorem r_c {v : V} (h : Q v H) : tC v σ H Q := h
theorem r_op {r : R2} {ta tb : TE} (h : ta σ H fun x H1 => tb σ H1 fun y H2 => r x y H2 Q) : tOp r ta tb σ H Q := h
theorem r_un {r : V → Hp → VK → Prop} {ta : TE} (h : ta σ H fun x H1 => r x H1 Q) : tUn r ta σ H Q := h
theorem r_rI0 {g : Int → Int → V} {i j : Int} (h : Q (g i j) H) : rI0 g (.int i) (.int j) H Q := ⟨i, j, rfl, rfl, h⟩
theorem r_rI {C : Int → Int → Prop} {g : Int → Int → V} {i j : Int} (c : C i j) (h : Q (g i j) H) : rI C g (.int i) (.int j) H Q := ⟨i, j, rfl, rfl, c, h⟩
theorem r_rU {g : Int → V} {i : Int} (h : Q (g i) H) : rU g (.int i) H Q := ⟨i, rfl, h⟩
theorem decV {i j : Int} : decide (V.int i = V.int j) = decide (i = j) := by rw [dec_int]; exact Bool.beq_eq_decide_eq i j
theorem r_eqI {i j : Int} (h : Q (.bl (decide (i = j))) H) : rEq (.int i) (.int j) H Q := ⟨rfl, by rw [decV]; exact h⟩
theorem r_neI {i j : Int} (h : Q (.bl (!decide (i = j))) H) : rNe (.int i) (.int j) H Q := ⟨rfl, by rw [decV]; exact h⟩
theorem r_isN {P : Prop} (h : P) : V.non = V.non ∧ P := ⟨rfl, h⟩
theorem r_bl {b : Bool} {P : Bool → Prop} (h : P b) : ∃ k, V.bl b = V.bl k ∧ P k := ⟨b, rfl, h⟩
theorem r_int {i : Int} {P : Int → Prop} (h : P i) : ∃ k, V.int i = V.int k ∧ P k := ⟨i, rfl, h⟩
theorem r_test {t : TE} {R : Bool → Hp → Prop} (h : t σ H fun x H' => ∃ k, x = .bl k ∧ R k H') : tTest t σ H R := h
theorem r_tB {t : TE} {R : Bool → Hp → Prop} (h : t σ H fun x H' => ∃ k, x = .bl k ∧ R k H') : tB t σ H R := h
theorem r_and {t u : TT} {R : Bool → Hp → Prop} (h : t σ H fun c H1 => if c = true then u σ H1 R else R false H1) : tAnd t u σ H R := h
theorem r_or {t u : TT} {R : Bool → Hp → Prop} (h : t σ H fun c H1 => if c = true then R true H1 else u σ H1 R) : tOr t u σ H R := h
theorem r_not {t : TT} {R : Bool → Hp → Prop} (h : t σ H fun c H1 => R (!c) H1) : tNot t σ H R := h
theorem r_andV {ta tb : TE} (h : ta σ H fun x H1 => ∃ c, x = .bl c ∧ if c = true then tb σ H1 Q else Q (.bl false) H1) : tAndV ta tb σ H Q := h
theorem r_orV {ta tb : TE} (h : ta σ H fun x H1 => ∃ c, x = .bl c ∧ if c = true then Q (.bl true) H1 else tb σ H1 Q) : tOrV ta tb σ H Q := h
theorem r_notV {ta : TE} (h : ta σ H fun x H1 => ∃ c, x = .bl c ∧ Q (.bl (!c)) H1) : tNotV ta σ H Q := h
theorem r_ifE {t : TT} {ta tb : TE} (h : t σ H fun c H1 => if c = true then ta σ H1 Q else tb σ H1 Q) : tIf t ta tb σ H Q := h
theorem r_cons {ta : TE} {tr : TA} {R : List V → Hp → Prop} (h : ta σ H fun x H1 => tr σ H1 fun xs H2 => R (x :: xs) H2) : tCons ta tr σ H R := h
theorem r_nil {R : List V → Hp → Prop} (h : R [] H) : tNil σ H R := h
theorem r_tup {t : TA} (h : t σ H fun xs H1 => xs.length ≤ sizeLine ∧ ∀ p, H1 p = none → Q (.ref p) (upd H1 p (.tup xs))) : tTup t σ H Q := h
theorem r_lst {t : TA} (h : t σ H fun xs H1 => xs.length ≤ sizeLine ∧ ∀ p, H1 p = none → Q (.ref p) (upd H1 p (.lst xs))) : tLst t σ H Q := h
theorem r_call {sp : Sp} {E : XK} {t : TA} (h : t σ H fun vs H1 => sp vs H1 Q E) : tCall sp [] E t σ H Q := by
 have e : (fun (vs : List V) H1 => sp (vs ++ []) H1 Q E) = fun vs H1 => sp vs H1 Q E := by funext vs H1; rw [List.append_nil]
 show t σ H fun vs H1 => sp (vs ++ []) H1 Q E
 rw [e]
 exact h
theorem r_cb {r : List V → Hp → VK → Prop} {t : TA} (h : t σ H fun vs H1 => r vs H1 Q) : tCB r t σ H Q := h
theorem r_sl {r : V → Option Int → Option Int → Hp → VK → Prop} {te : TE} {tl th : TO} (h : te σ H fun x H1 => tl σ H1 fun l H2 => th σ H2 fun u H3 => r x l u H3 Q) : tSl r te tl th σ H Q := h
theorem r_nopart {R : Option Int → Hp → Prop} (h : R none H) : tNoPart σ H R := h
theorem r_part {t : TE} {R : Option Int → Hp → Prop} (h : t σ H fun x H1 => ∃ i, x = .int i ∧ R (some i) H1) : tPart t σ H R := h
theorem r_bm {T : String} {r : V → List V → Hp → VK → Prop} {to : TE} {t : TA} (h : to σ H fun x H1 => tyV K T x H1 ∧ t σ H1 fun xs H2 => r x xs H2 Q) : tBM K T r to t σ H Q := h
theorem r_tyL {p : Addr} {xs : List V} {P : Prop} (h : H p = some (.lst xs)) (q : P) : tyV K "list" (.ref p) H ∧ P := ⟨.inl ⟨rfl, xs, SqL.of h⟩, q⟩
theorem r_append {l : Addr} {xs : List V} {y : V} (h : H l = some (.lst xs)) (hz : xs.length < sizeLine) (q : Q .non (upd H l (.lst (xs ++ [y])))) : rAppend (.ref l) [y] H Q := ⟨l, xs, y, rfl, rfl, h, hz, q⟩
theorem r_ixL {p : Addr} {xs : List V} {i : Int} {v : V} (h : SqL K H p xs) (e : atI xs i = some v) (q : Q v H) : rIxL K (.ref p) (.int i) H Q := ⟨p, xs, i, v, rfl, rfl, h, e, q⟩
theorem r_ixT {p : Addr} {xs : List V} {i : Int} {v : V} (h : H p = some (.tup xs)) (e : atI xs i = some v) (q : Q v H) : rIxT K (.ref p) (.int i) H Q := ⟨p, xs, i, v, rfl, rfl, SqT.of h, e, q⟩
theorem r_ixI {p : Addr} {ns : List Int} {k : Int} (h : SqL K H p (ns.map V.int)) (h0 : 0 ≤ k) (h1 : k < ns.length) (q : Q (.int (ns.getD k.toNat 0)) H) : rIxL K (.ref p) (.int k) H Q := ⟨p, _, k, _, rfl, rfl, h, atI_map ns k h0 h1, q⟩
theorem ixN_at {n : Nat} {k : Int} (h0 : 0 ≤ k) (h : k < n) : ixN n k = some k.toNat := by
 unfold ixN
 rw [if_pos h0, if_pos h]
theorem r_setI {p : Addr} {ns : List Int} {k x : Int} {R : Hp → Prop} (h : H p = some (.lst (ns.map V.int))) (h0 : 0 ≤ k) (h1 : k < ns.length) (q : R (upd H p (.lst ((ns.set k.toNat x).map V.int)))) : rSetL (.ref p) (.int k) (.int x) H R := by
 refine ⟨p, _, k, k.toNat, rfl, rfl, h, ixN_at h0 (by rw [List.length_map]; exact h1), ?_⟩
 rw [List.map_set] at q
 exact q
theorem r_lenI {p : Addr} {ns : List Int} {P : List V → Prop} (h : SqL K H p (ns.map V.int)) (q : P (ns.map V.int)) : ∃ p' ys, [V.ref p] = [V.ref p'] ∧ (SqL K H p' ys ∨ SqT K H p' ys) ∧ P ys := ⟨p, _, rfl, .inl h, q⟩
theorem r_lenL {p : Addr} {xs : List V} {P : List V → Prop} (h : H p = some (.lst xs)) (q : P xs) : ∃ p' ys, [V.ref p] = [V.ref p'] ∧ (SqL K H p' ys ∨ SqT K H p' ys) ∧ P ys := ⟨p, _, rfl, .inl (SqL.of h), q⟩
theorem r_isi {x : V} {n : String} {t : Value} {b : Bool} {P : Bool → Prop} (ty : TyOf K H x t) (e : PySem.W.kitOne K t (.type n) = some b) (q : P b) : ∃ x' n' t' b', [x, V.ty n] = [x', V.ty n'] ∧ TyOf K H x' t' ∧ PySem.W.kitOne K t' (.type n') = some b' ∧ P b' := ⟨x, n, t, b, rfl, ty, e, q⟩
theorem r_max {i j : Int} {P : Int → Int → Prop} (q : P i j) : ∃ i' j', [V.int i, V.int j] = [V.int i', V.int j'] ∧ P i' j' := ⟨i, j, rfl, q⟩
theorem r_new {xs : List V} {P : Prop} (h : xs.length ≤ 1000) (q : P) : xs.length ≤ sizeLine ∧ P := ⟨Nat.le_of_lt (small1000 h), q⟩
theorem r_truB {b : Bool} {P : Bool → Prop} (q : P b) : ∃ k, TruV K (.bl b) H k ∧ P k := ⟨b, rfl, q⟩
theorem r_truL {p : Addr} {xs : List V} {P : Bool → Prop} (h : SqL K H p xs) (q : P (!xs.isEmpty)) : ∃ k, TruV K (.ref p) H k ∧ P k := ⟨_, .inl ⟨xs, h, rfl⟩, q⟩
theorem r_for {wi : TI} {g : TG} {tb : TS} (h : wi σ H fun J H1 => ∃ W : Nat → Nat → L2.St → Hp → Prop, (∃ m, W 0 m σ H1) ∧ ∀ i m σ H, W i m σ H →
   (J.stop i H ∧ D.nx σ H) ∨ (J.go i H ∧ ∃ N : L2.St → Hp → Prop, (∀ σ' H', N σ' H' → ∃ m', m' < m ∧ W (i + 1) m' σ' H') ∧ ∀ x H', J.yld i H x H' → g x σ H' fun σ2 H2 => tb { D with nx := N, ct := N, bk := D.nx } σ2 H2)) : tFor wi g tb D σ H := h
theorem r_iL {tl : TE} {R : It → Hp → Prop} (h : tl σ H fun x H1 => ∃ a, x = .ref a ∧ (∃ xs, SqL K H1 a xs) ∧ R (Itl K a) H1) : iList K tl σ H R := h
theorem r_seqM {t u : TS} {M : L2.St → Hp → Prop} (hM : ∀ σ' H', M σ' H' → u D σ' H') (h : ∀ nx : L2.St → Hp → Prop, (∀ σ' H', M σ' H' → nx σ' H') → t { D with nx := nx } σ H) : tSeq t u D σ H := h (u D) hM
theorem r_isIf {c : TT} {t u v : TS} (h : tSeq (tIfS c t u) v D σ H) : tSeq (tIfS c t u) v D σ H := h
end
theorem r_ifN {b : Bool} {A B : Prop} (h : if b = true then B else A) : if (!b) = true then A else B := by cases b <;> exact h
theorem Xce {c A B : Prop} [Decidable c] (h1 : c → A) (h2 : ¬ c → B) : if decide c = true then A else B := by
 by_cases h : c
 · rw [decide_eq_true h]
   exact iteT (h1 h)
 · rw [decide_eq_false h]
   exact iteF (h2 h)
theorem r_ifdT {c A B : Prop} [Decidable c] (h : c) (h1 : A) : if decide c = true then A else B := Xce (fun _ => h1) fun z => absurd h z
theorem r_ifdF {c A B : Prop} [Decidable c] (h : ¬ c) (h1 : B) : if decide c = true then A else B := Xce (fun z => absurd z h) fun _ => h1
theorem Xdy {b : Bool} {A B : Prop} (h1 : b = true → A) (h2 : b = false → B) : if b = true then A else B := by
 cases b with
 | true => exact iteT (h1 rfl)
 | false => exact iteF (h2 rfl)
theorem look_put {H : Hp} {p d : Addr} {o v : HO} (hp : H p = none) (h : H d = some v) : upd H p o d = some v := (Xav (Xaw h hp)).trans h
theorem look_ne {H : Hp} {p d : Addr} {o v : HO} (hp : d ≠ p) (h : H d = some v) : upd H p o d = some v := (Xav hp).trans h
theorem look_tup {H : Hp} {p d : Addr} {o : HO} {xs ys : List V} (hp : H p = some (.lst ys)) (h : H d = some (.tup xs)) : upd H p o d = some (.tup xs) := look_ne (fun z => by rw [z, hp] at h; cases h) h
end Stow
namespace Stow
open PySem L2 PyProof.Rows
abbrev TX := L2.St → Hp → VK → XK → Prop
def PX (X : Cx) (e : Expr) (t : TX) : Prop := ∀ (pins : List (Addr × Obj)) (s : Shared) (σ : L2.St) (H : Hp) (QV : VK) (EX : XK) (Qp W : Value → Shared → Prop), Inv X pins σ H s → t σ H QV EX → (∀ u s', EP X pins σ QV u s' → Qp u s') →
 (∀ H1 s1 y s', Inv X pins σ H1 s1 → CXe X.prog X.w X.stack H1 s1 EX y s' → W y s') → wpAny (model X.prog X.w) X.A (eval e X.env) Qp W s
def xMeth (C : Addr) (m : Str) (sp : Sp) (dvs : List V) (to : TE) (ta : TA) : TX := fun σ H QV EX => to σ H fun x H1 => ∃ a dx fs, x = .ref a ∧ H1 a = some (.ins C dx fs) ∧ fs.lookup m = none ∧ ta σ H1 fun vs H2 => sp (x :: (vs ++ dvs)) H2 QV EX
section
variable {X : Cx} {k : Nat} {f C : Addr} {fd : FuncData} {ps : List Str} {sp : Sp} {dvs : List V} {ds : List Value} {fx m : Str} {p pos apos : Pos} {e o : Expr} {es : List Expr} {to : TE} {ta : TA}
theorem run_x {pins : List (Addr × Obj)} {σ : L2.St} {H : Hp} {s : Shared} {us : List Value} {vs : List V} {QV : VK} {EX : XK} {Qp W : Value → Shared → Prop} (F : FnOk X.prog X.w X.K X.mg X.base (CXe X.prog X.w) k f fd ps sp) (hr : Room k X.A) (hb : Xdc X.K fd ps ds) (hd : Vals dvs ds)
   (I : Inv X pins σ H s) (r : Vals vs us) (h : sp (vs ++ dvs) H QV EX) (hv : ∀ u s', EP X pins σ QV u s' → Qp u s') (hx : ∀ y s', CXe X.prog X.w X.stack H s EX y s' → W y s') : wpAny (model X.prog X.w) X.A (call (.ref f) us) Qp W s := by
 have r2 : Vals (vs ++ dvs) (us ++ ds) := r.append hd
 have hl : (us ++ ds).length = ps.length := by rw [← r2.length]; exact F.len _ _ _ _ h
 refine wpAny_call (codeAny_mono (F.run X.A X.stack s H ⟨us, []⟩ (us ++ ds) (vs ++ dvs) QV EX hr I.env0 (hb s us I.kIn hl) r2 h) fun r s' hq => ?_)
 cases r with
 | error y => exact hx y s' hq
 | ok fl =>
   cases fl with
   | ret u => exact hv u s' (I.after hq)
   | next => exact False.elim hq
   | brk => exact False.elim hq
   | cont => exact False.elim hq
theorem px_meth {pl : Sem Bool} (ho : PE X.nox o to) (c : Cls X.K C) (hm : Meth X.K C m f) (F : FnOk X.prog X.w X.K X.mg X.base (CXe X.prog X.w) k f fd ps sp) (hr : Room k X.A) (hb : Xdc X.K fd ps ds) (hd : Vals dvs ds) (ha : PA X.nox (e :: es) ta)
   (hst : starEach (e :: es) X.env = (false, eval e X.env) :: starEach es X.env := by rfl) (hpl : (backTo pos (starEach es X.env)).any (·.1) = false := by rfl)
   (ht : eval (.Call (.Attribute o m apos) (e :: es) [] pos) X.env = (do
     let ov ← eval o X.env
     standAt apos.atName
     let (f, first) ← holding [ov] (getMethod ov m pl)
     callWith pos f first (backTo pos (starEach (e :: es) X.env)) (backToKw pos (keywordEach [] X.env))) := by rfl) :
   PX X (.Call (.Attribute o m apos) (e :: es) [] pos) (xMeth C m sp dvs to ta) := by
 intro pins s σ H QV EX Qp W I h hv hx
 refine PySem.W.methodCall_KW (pl := pl) (wpAny_mono (ho pins s σ H _ (I.wish _) h) (fun u s1 ⟨x, H1, I1', rx, a, dx, fs, ex, ea, l, q⟩ => ?_) (fun _ _ z => z.elim)) ht
 have I1 := I1'.unwish
 subst ex
 obtain rfl : u = Value.ref a := rx
 refine Xfb I1 ea c hm l ?_
 refine PySem.W.callWith_K (first := [.ref a]) (h₀ := X.base) I.ok.mod.kin hm.kp (wpAny_mono (ha pos pins s1 σ H1 _ (I1.wish _) q) (fun us s2 ⟨vs, H2, I2', r, q2⟩ => ?_) (fun _ _ z => z.elim)) hst hpl
 have I2 := I2'.unwish
 exact ⟨I2.kIn, run_x (us := .ref a :: us) (vs := .ref a :: vs) F hr hb hd I2 (.cons rfl r) q2 hv fun y s' hq => hx H2 s2 y s' I2 hq⟩
end
def Fits (K : PySem.W.Frag) (C C0 : Addr) (b : Bool) : Prop := ∃ (bm bm0 : List Value), ECls K C bm ∧ ECls K C0 bm0 ∧ (Value.ref C0 :: bm0).contains (.type "BaseException") = true ∧ (Value.ref C :: bm).contains (.ref C0) = b
theorem fits_ok {M : Model} {A : Around} {E : Value → Shared → Prop} {K : PySem.W.Frag} {C C0 x : Addr} {ox : Obj} {s : Shared} {b : Bool} {Q : Bool → Shared → Prop} (F : Fits K C C0 b) (KX : K.In s.heap) (hx : s.heap.get? x = some ox) (hc : ox.cls = .ref C) (k : Q b s) :
   wpAny M A (excMatches (.ref x) (.ref C0)) Q E s := by
 obtain ⟨bm, bm0, ⟨nm, qn, N, bs, hd, sn, sub, ab, col, dd, k0, k1, k2, k3, k5, newId, lk⟩, ⟨nm', qn', N', bs', hd', sn', sub', ab', col', dd', j0, j1, j2, j3, j5, new', lk0⟩, hb, hm⟩ := F
 have hC := KX _ _ lk
 have hC0 := KX _ _ lk0
 obtain ⟨hh, g, d, t, os⟩ := s
 exact match_own hC hC0 hx hc hb hm k
abbrev TH := Addr → Addr → TS
def PH (X : Cx) (hs : List ExceptHandler) (th : TH) : Prop := ∀ (pins : List (Addr × Obj)) (s : Shared) (σ : L2.St) (H : Hp) (D : Ends) (x C T : Addr) (od : Option Addr), X.Ok → Inv X pins σ H s → Exc s.heap x (.ref C) od T .none →
 (∀ h3, Upto (frs X.stack) [T] s.heap h3 → Exc h3 x (.ref C) od T .none → Inv X pins σ H { s with heap := h3 }) → th x C D σ H → wpAny (model X.prog X.w) X.A (handleBy (.ref x) X.env hs) (SP X pins D) X.xe s
section
variable {X : Cx} {C0 : Addr} {cx : Str} {np hpos pos epos : Pos} {b0 : Stmt} {suite : List Stmt} {ts : Addr → TS} {hs : List ExceptHandler} {th : TH} {e : Expr} {t : TX}
theorem ph_nil : PH X [] (fun _ _ _ _ _ => False) := fun _ _ _ _ _ _ _ _ _ _ _ _ _ h => h.elim
theorem ph_cons (hgc : Gl X cx) (hc0 : X.mg cx = some (.ref C0)) (hss : ∀ x, PSs (Cx.suite X x) (b0 :: suite) (ts x)) (hr : PH X hs th) (hdc : (cx == ("__debug__" : Str)) = false := by decide) :
   PH X (.ExceptHandler (some (.Name cx np)) none (b0 :: suite) hpos :: hs) (fun x C D σ H => (Fits X.K C C0 true ∧ ts x D σ H) ∨ (Fits X.K C C0 false ∧ th x C D σ H)) := by
 intro pins s σ H D x C T od ok J t2 again h
 obtain ⟨oe, vs, oT, tts, ne, ee, hcl, _⟩ := id t2
 rcases h with ⟨fit, q⟩ | ⟨fit, q⟩
 · refine wpAny_handleBy_cons (codeAny_handlers_test (Xek (X := Cx.suite X x) (inv_suite J x) hgc hc0 (fits_ok fit J.kIn ee hcl ?_) hdc)) (by intro z; cases z)
   refine codeAny_handlers_suite ?_
   refine flight_x (fr := frs X.stack) t2 fun h3 u3 t3 => ?_
   exact wpAny_mono (hss x pins _ σ _ D (inv_suite (again h3 u3 t3) x) q) (fun fl s4 q4 => sp_unsuite ok q4) (fun _ _ z => z.elim)
 · refine wpAny_handleBy_cons (codeAny_handlers_test (Xek (X := Cx.suite X x) (inv_suite J x) hgc hc0 (fits_ok fit J.kIn ee hcl ?_) hdc)) (by intro z; cases z)
   exact hr pins s σ H D x C T od ok J t2 again q
theorem Upto.refl (fr ex : List Addr) (h : Heap) : Upto fr ex h h := ⟨fun _ _ _ _ q => q, fun b o _ q => ⟨o.slots, q⟩⟩
end
section
variable {K : PySem.W.Frag} {σ : L2.St} {H : Hp} {D : Ends}
end
end Stow
namespace Stow
open PySem L2 PyProof.Rows
structure FunD (K : PySem.W.Frag) (x qual : Str) (st : Stmt) (dV : Value) (f : Addr) (fd : FuncData) : Prop where
 ex : ∃ (oc : Value) (od : Option Addr) (kV doc pm : Value) (an : Option Addr) (cdv ct : Value) (osl : Array (Option Value)),
   fd = PySem.W.fnOf x qual (Xaf st) (Xae st) (Xab st) dV kV doc pm an cdv ct ∧ K.lookup f = some ⟨oc, od, .func fd, osl⟩ ∧ PySem.W.codeIn K cdv qual = true
 kp : PySem.W.keepIn K (.ref f) = true
theorem funD_mk {K : PySem.W.Frag} {x qual : Str} {st : Stmt} {f : Addr} {oc : Value} {od an : Option Addr} {osl : Array (Option Value)} {dV kV doc pm cdv ct : Value} (l : K.lookup f = some ⟨oc, od, .func (PySem.W.fnOf x qual (Xaf st) (Xae st) (Xab st) dV kV doc pm an cdv ct), osl⟩)
   (c : PySem.W.codeIn K cdv qual = true) (k : PySem.W.keepIn K (.ref f) = true) : FunD K x qual st dV f (PySem.W.fnOf x qual (Xaf st) (Xae st) (Xab st) dV kV doc pm an cdv ct) := ⟨⟨oc, od, kV, doc, pm, an, cdv, ct, osl, rfl, l, c⟩, k⟩
section
variable {P : Program} {w : World} {K : PySem.W.Frag} {mg : Str → Option Value} {base : Heap}
theorem funD_okx {x qual : Str} {st : Stmt} {dV : Value} {f : Addr} {fd : FuncData} {N ps : List Str} {k : Nat} {sp : Sp} (F : FunD K x qual st dV f fd) (S : FnScope N ps (Xab st)) (len : ∀ vs H Q E, sp vs H Q E → vs.length = ps.length)
   (hbody : ∀ (cdv : Value) (A : Around) (outer : List Env) (s : Shared) (H : Hp) (vs : List V) (Q : VK) (E : XK), Room k (A.deeper (envOfC qual (Xab st) s.heap.objs.size f cdv)) → sp vs H Q E →
     ∃ t, PSs (cxOf (CXe P w) P w K mg base N qual (Xab st) f cdv A outer s H E) (Xae st) t ∧ t { nx := fun _ H' => Q .non H', rt := Q } (start N vs) H) : FnOk P w K mg base (CXe P w) (k + 1) f fd ps sp := by
 obtain ⟨oc, od, kV, doc, pm, an, cdv, ct, osl, rfl, lk, hcd⟩ := F.ex
 exact fn_of lk hcd S len fun A outer s H vs Q E hr hsp => hbody cdv A outer s H vs Q E hr hsp
theorem FunD.binds {x qual : Str} {st : Stmt} {dV : Value} {f : Addr} {fd : FuncData} {ps : List Str} (F : FunD K x qual st dV f fd)
   (h : ∀ (kV doc pm : Value) (an : Option Addr) (cdv ct : Value) (us : List Value), us.length = ps.length → bindArgs (PySem.W.fnOf x qual (Xaf st) (Xae st) (Xab st) dV kV doc pm an cdv ct) ⟨us, []⟩ = pure (ps.zip us)) : Xdc K fd ps [] := by
 obtain ⟨oc, od, kV, doc, pm, an, cdv, ct, osl, rfl, lk, hcd⟩ := F.ex
 exact .all (h kV doc pm an cdv ct)
theorem FunD.bindsD {x qual : Str} {st : Stmt} {T : Addr} {f : Addr} {fd : FuncData} {ps : List Str} {ds : List Value} {tc : Value} {td : Option Addr} {tn : Nat} {tsl : Array (Option Value)} (F : FunD K x qual st (.ref T) f fd)
   (lt : K.lookup T = some ⟨tc, td, .seq ds.toArray tn, tsl⟩)
   (h : ∀ (kV doc pm : Value) (an : Option Addr) (cdv ct : Value) (us : List Value), (us ++ ds).length = ps.length → ∃ k : Option (Array Value) → Sem (List (Str × Value)),
     bindArgs (PySem.W.fnOf x qual (Xaf st) (Xae st) (Xab st) (.ref T) kV doc pm an cdv ct) ⟨us, []⟩ = seqItems? (.ref T) >>= k ∧ k (some ds.toArray) = pure (ps.zip (us ++ ds))) : Xdc K fd ps ds := by
 obtain ⟨oc, od, kV, doc, pm, an, cdv, ct, osl, rfl, lk, hcd⟩ := F.ex
 intro s us X hl
 obtain ⟨k, h1, h2⟩ := h kV doc pm an cdv ct us hl
 exact .of_defaults rfl (X _ _ lt) rfl h1 h2
end
structure Methx (P : Program) (w : World) (K : PySem.W.Frag) (mg : Str → Option Value) (base : Heap) (C : Addr) (m : Str) (j : Nat) (ps : List Str) (dvs : List V) (sp : Sp) : Prop where
 ex : ∃ (f : Addr) (fd : FuncData) (ds : List Value), FnOk P w K mg base (CXe P w) j f fd ps sp ∧ Meth K C m f ∧ Xdc K fd ps ds ∧ Vals dvs ds
 cl : Cls K C
structure Makex (P : Program) (w : World) (K : PySem.W.Frag) (mg : Str → Option Value) (base : Heap) (x : Str) (C : Addr) (j : Nat) (ps : List Str) (dvs : List V) (sp : Sp) : Prop where
 ex : ∃ (f : Addr) (fd : FuncData) (ds : List Value), FnOk P w K mg base (CXe P w) j f fd ps sp ∧ Mk K C f ∧ Xdc K fd ps ds ∧ Vals dvs ds
 bound : mg x = some (.ref C)
structure ClsM (K : PySem.W.Frag) (C : Addr) (m : Str) (f : Addr) : Prop where
 sp : PySem.W.specialIn K (.ref C) "__getattribute__" = some (some (.builtin "type.__getattribute__"))
 rd : PySem.W.readsIn K C (.type "type") = true
 fc : PySem.W.findCls K (.ref C) (.type "type") m = some (.val (.ref f))
 kp : PySem.W.keepIn K (.ref f) = true
structure Basex (P : Program) (w : World) (K : PySem.W.Frag) (mg : Str → Option Value) (base : Heap) (x : Str) (m : Str) (j : Nat) (ps : List Str) (sp : Sp) : Prop where
 ex : ∃ (C f : Addr) (fd : FuncData), FnOk P w K mg base (CXe P w) j f fd ps sp ∧ ClsM K C m f ∧ Xdc K fd ps [] ∧ mg x = some (.ref C)
section
variable {X : Cx} {j k : Nat} {C : Addr} {ps : List Str} {sp : Sp} {dvs : List V} {x m : Str} {p pos apos : Pos} {e o : Expr} {es : List Expr} {to : TE} {t : TA} {EX : XK}
theorem Xbr {pl : Sem Bool} (D : Methx X.prog X.w X.K X.mg X.base C m j ps dvs sp) (hp : Xef (CXe X.prog X.w) X EX) (hr : Room k X.A) (ho : PE X o to) (ha : PA X (e :: es) t) (hk : j ≤ k := by decide)
   (hst : starEach (e :: es) X.env = (false, eval e X.env) :: starEach es X.env := by rfl) (hpl : (backTo pos (starEach es X.env)).any (·.1) = false := by rfl)
   (ht : eval (.Call (.Attribute o m apos) (e :: es) [] pos) X.env = (do
     let ov ← eval o X.env
     standAt apos.atName
     let (f, first) ← holding [ov] (getMethod ov m pl)
     callWith pos f first (backTo pos (starEach (e :: es) X.env)) (backToKw pos (keywordEach [] X.env))) := by rfl) : PE X (.Call (.Attribute o m apos) (e :: es) [] pos) (tMeth C m sp dvs EX to t) := by
 obtain ⟨f, fd, ds, F, hm, hb, hd⟩ := D.ex
 exact pe_meth (pl := pl) ho D.cl hm F (hr.mono hk) hb hd hp ha hst hpl ht
theorem Xcs {pl : Sem Bool} (D : Methx X.prog X.w X.K X.mg X.base C m j ps dvs sp) (hp : Xef (CXe X.prog X.w) X EX) (hr : Room k X.A) (ho : PE X o to) (hk : j ≤ k := by decide)
   (ht : eval (.Call (.Attribute o m apos) [] [] pos) X.env = (do
     let ov ← eval o X.env
     standAt apos.atName
     let (f, first) ← holding [ov] (getMethod ov m pl)
     callWith pos f first (backTo pos (starEach [] X.env)) (backToKw pos (keywordEach [] X.env))) := by rfl) : PE X (.Call (.Attribute o m apos) [] [] pos) (tMeth C m sp dvs EX to tNil) := by
 obtain ⟨f, fd, ds, F, hm, hb, hd⟩ := D.ex
 exact pe_meth0 (pl := pl) ho D.cl hm F (hr.mono hk) hb hd hp ht
theorem Xfa {pl : Sem Bool} (D : Methx X.prog X.w X.K X.mg X.base C m j ps dvs sp) (hr : Room k X.A) (ho : PE X.nox o to) (ha : PA X.nox (e :: es) t) (hk : j ≤ k := by decide)
   (hst : starEach (e :: es) X.env = (false, eval e X.env) :: starEach es X.env := by rfl) (hpl : (backTo pos (starEach es X.env)).any (·.1) = false := by rfl)
   (ht : eval (.Call (.Attribute o m apos) (e :: es) [] pos) X.env = (do
     let ov ← eval o X.env
     standAt apos.atName
     let (f, first) ← holding [ov] (getMethod ov m pl)
     callWith pos f first (backTo pos (starEach (e :: es) X.env)) (backToKw pos (keywordEach [] X.env))) := by rfl) : PX X (.Call (.Attribute o m apos) (e :: es) [] pos) (xMeth C m sp dvs to t) := by
 obtain ⟨f, fd, ds, F, hm, hb, hd⟩ := D.ex
 exact px_meth (pl := pl) ho D.cl hm F (hr.mono hk) hb hd ha hst hpl ht
theorem pe_makep (D : Makex X.prog X.w X.K X.mg X.base x C j ps dvs sp) (hp : Xef (CXe X.prog X.w) X EX) (hr : Room k X.A) (hg : Gl X x) (ha : PA X (e :: es) t) (hk : j + 1 ≤ k := by decide)
   (hdb : (x == ("__debug__" : Str)) = false := by decide) (he : starEach (e :: es) X.env = (false, eval e X.env) :: starEach es X.env := by rfl) (hpl : (backTo pos (starEach es X.env)).any (·.1) = false := by rfl) : PE X (.Call (.Name x p) (e :: es) [] pos) (tMake C sp dvs EX t) := by
 obtain ⟨f, fd, ds, F, M, hb, hd⟩ := D.ex
 exact pe_make M F (hr.mono hk) hg D.bound hb hd hp ha hdb he hpl
theorem pe_basep {pl : Sem Bool} {p' : Pos} (D : Basex X.prog X.w X.K X.mg X.base x m j ps sp) (hp : Xef (CXe X.prog X.w) X EX) (hr : Room k X.A) (hg : Gl X x) (ha : PA X (e :: es) t) (hk : j ≤ k := by decide) (hdb : (x == ("__debug__" : Str)) = false := by decide)
   (hst : starEach (e :: es) X.env = (false, eval e X.env) :: starEach es X.env := by rfl) (hpl : (backTo pos (starEach es X.env)).any (·.1) = false := by rfl)
   (ht : eval (.Call (.Attribute (.Name x p') m apos) (e :: es) [] pos) X.env = (do
     let ov ← eval (.Name x p') X.env
     standAt apos.atName
     let (f, first) ← holding [ov] (getMethod ov m pl)
     callWith pos f first (backTo pos (starEach (e :: es) X.env)) (backToKw pos (keywordEach [] X.env))) := by rfl) : PE X (.Call (.Attribute (.Name x p') m apos) (e :: es) [] pos) (tCall sp [] EX t) := by
 obtain ⟨C, f, fd, F, M, hb, hm⟩ := D.ex
 intro pins s σ H Q I h
 refine PySem.W.methodCall_KW (pl := pl) (Xek I hg hm ?_ hdb) ht
 refine PySem.W.method_cls I.kIn M.sp (PySem.W.cls_value I.kIn M.rd M.fc rfl ?_)
 have I' := I.tok (s.toks + 1)
 refine PySem.W.callWith_K (h₀ := X.base) I.ok.mod.kin M.kp (thn (ha pos pins _ σ H _ I' h) fun us s1 ⟨vs, H1, I1, r, q⟩ => ⟨I1.kIn, ?_⟩) hst hpl
 exact run_fn F (hr.mono hk) hb .nil hp I1 r q
end
section
variable {K : PySem.W.Frag} {σ : L2.St} {H : Hp} {Q : VK} {D : Ends}
theorem r_fld {f : Str} {ta : TE} (h : ta σ H fun x H1 => ∃ a C dx fs v, x = .ref a ∧ H1 a = some (.ins C dx fs) ∧ Cls K C ∧ Xdp K C f ∧ fs.lookup f = some v ∧ Q v H1) : tFld K ta f σ H Q := h
theorem r_at {a C dx : Addr} {fs : List (Str × V)} {f : Str} {v : V} {P : V → Prop} (h : H a = some (.ins C dx fs)) (c : Cls K C) (n : Xdp K C f) (l : fs.lookup f = some v) (q : P v) :
   ∃ a' C' dx' fs' v', V.ref a = V.ref a' ∧ H a' = some (.ins C' dx' fs') ∧ Cls K C' ∧ Xdp K C' f ∧ fs'.lookup f = some v' ∧ P v' := ⟨a, C, dx, fs, v, rfl, h, c, n, l, q⟩
theorem r_sfld {f : Str} {ta tv : TE} (h : tv σ H fun y H1 => ta σ H1 fun x H2 => ∃ a C dx fs, x = .ref a ∧ H2 a = some (.ins C dx fs) ∧ Cls K C ∧ Xdp K C f ∧ fs.length < 1000 ∧ D.nx σ (upd H2 a (.ins C dx (putF f y fs)))) : sFld K ta tv f D σ H := h
theorem r_meth {C : Addr} {m : Str} {sp : Sp} {E : XK} {ta : TE} {t : TA} (h : ta σ H fun x H1 => ∃ a dx fs, x = .ref a ∧ H1 a = some (.ins C dx fs) ∧ fs.lookup m = none ∧ t σ H1 fun vs H2 => sp (x :: vs) H2 Q E) : tMeth C m sp [] E ta t σ H Q := by
 unfold tMeth
 simp only [List.append_nil]
 exact h
theorem r_xMeth {C : Addr} {m : Str} {sp : Sp} {EX : XK} {ta : TE} {t : TA} (h : ta σ H fun x H1 => ∃ a dx fs, x = .ref a ∧ H1 a = some (.ins C dx fs) ∧ fs.lookup m = none ∧ t σ H1 fun vs H2 => sp (x :: vs) H2 Q EX) : xMeth C m sp [] ta t σ H Q EX := by
 unfold xMeth
 simp only [List.append_nil]
 exact h
end
end Stow
namespace Stow
open PySem L2 PyProof.Rows
section
variable {X : Cx}
end
section
variable {a x : Option V} {v : V} {l r : L2.St} {k : Nat} {n : Str} {ns : List Str} {vs : List V}
theorem set0_c : (a :: l).set 0 x = x :: l := rfl
theorem start_c : L2.start (n :: ns) (v :: vs) = some v :: L2.start ns vs := by
 unfold L2.start
 rw [List.length_cons, List.length_cons, Nat.add_sub_add_right]
 rfl
theorem set0_0 : (L2.start (n :: ns) []).set 0 x = x :: L2.start ns [] := rfl
theorem setS_c (h : l.set k x = r) : (a :: l).set (k + 1) x = a :: r := h ▸ rfl
theorem setS_1 (h : (L2.start ns vs).set k x = r) : (L2.start (n :: ns) (v :: vs)).set (k + 1) x = some v :: r := by
 rw [start_c, ← h]
 rfl
theorem r_gnameN {σ σ' : L2.St} {H : Hp} {i : Nat} {R : L2.St → Hp → Prop} (e : σ.set i (some v) = σ') (h : R σ' H) : gName i v σ H R := by
 subst e
 exact h
end
def cutI (ns : List Int) (l u : Option Int) : List Int := (ns.drop (HT.sIx ns.length 0 l)).take (HT.sIx ns.length ns.length u - HT.sIx ns.length 0 l)
theorem cut_map (ns : List Int) (l u : Option Int) : cutV (ns.map V.int) l u = (cutI ns l u).map V.int := by
 unfold cutV cutI
 rw [List.map_take, List.map_drop, List.length_map]
theorem cutI_len (ns : List Int) (l u : Option Int) : (cutI ns l u).length ≤ ns.length := by
 unfold cutI
 rw [List.length_take, List.length_drop]
 omega
section
variable {K : PySem.W.Frag} {σ : L2.St} {H : Hp} {D : Ends} {Q : VK}
theorem r_sllG {a : Addr} {ns : List Int} {lo hi : Option Int} (h : SqL K H a (ns.map V.int)) (q : ∀ p H', H p = none → Same H H' → H' p = some (.lst ((cutI ns lo hi).map V.int)) → Q (.ref p) H') : rSlL K (.ref a) lo hi H Q :=
 ⟨a, _, rfl, h, fun p hp => by rw [cut_map]; exact q p _ hp (Same.new hp) upd_same⟩
theorem r_catG {l b : Addr} {xs zs : List Int} (h : H l = some (.lst (xs.map V.int))) (h2 : H b = some (.lst (zs.map V.int))) (hz : xs.length + zs.length ≤ 4000) (q : ∀ p H', H p = none → Same H H' → H' p = some (.lst ((xs ++ zs).map V.int)) → Q (.ref p) H') : rCat (.ref l) (.ref b) H Q :=
 ⟨l, b, _, _, rfl, rfl, h, h2, by rw [List.length_map, List.length_map]; exact Nat.le_of_lt (small4000 hz), fun p hp => by rw [← List.map_append]; exact q p _ hp (Same.new hp) upd_same⟩
theorem r_isSeq {t u : TS} (h : tSeq t u D σ H) : tSeq t u D σ H := h
theorem r_isAnd {ta tb : TE} (h : tAndV ta tb σ H Q) : tAndV ta tb σ H Q := h
theorem r_isOr {ta tb : TE} (h : tOrV ta tb σ H Q) : tOrV ta tb σ H Q := h
end
end Stow
namespace Stow
open PySem L2 PyProof.Rows
section
variable {K : PySem.W.Frag} {σ : L2.St} {H : Hp} {Q : VK}
theorem r_gtup {a : Addr} {xs : List V} {n : Nat} {t : TGs} {R : L2.St → Hp → Prop} (h : H a = some (.tup xs)) (hl : xs.length = n) (q : t xs σ H R) : gTup K n t (.ref a) σ H R := ⟨a, xs, rfl, SqT.of h, hl, q⟩
theorem r_gcons {v : V} {r : List V} {t : TG} {u : TGs} {R : L2.St → Hp → Prop} (h : t v σ H fun σ' H' => u r σ' H' R) : gCons t u (v :: r) σ H R := ⟨v, r, rfl, h⟩
theorem r_gnil {R : L2.St → Hp → Prop} (h : R σ H) : gNil [] σ H R := ⟨rfl, h⟩
theorem Xdb {p : Addr} {xs : List V} {v : V} (h : SqL K H p (xs ++ [v])) (q : Q v H) : rIxL K (.ref p) (.int (-1)) H Q := r_ixL h (atI_last xs v) q
theorem r_setLast {p : Addr} {xs : List V} {v w : V} {R : Hp → Prop} (h : H p = some (.lst (xs ++ [v]))) (q : R (upd H p (.lst (xs ++ [w])))) : rSetL (.ref p) (.int (-1)) w H R := by
 refine ⟨p, _, -1, xs.length, rfl, rfl, h, ?_, ?_⟩
 · unfold ixN
   rw [if_neg (by decide), List.length_append, List.length_singleton, if_pos (by omega)]
   congr 1
   omega
 · rw [List.set_append_right _ _ (Nat.le_refl _), Nat.sub_self]
   exact q
end
end Stow
namespace Stow
def fpl (a b : Int) : Int := a + (b - 1 - a % b)
def fp (a n L b : Int) : Option Int := if fpl a b + L ≤ a + n then some (fpl a b) else none
end Stow
namespace Stow
open PySem L2 PyProof.Rows
def Xas (H : Hp) (us : List V) (ps : List Pc) : Prop := us.length = ps.length ∧ ∀ (i : Nat) (p : Pc), ps[i]? = some p → ∃ a, us[i]? = some (.ref a) ∧ H a = some (.tup [.int p.a, .int p.l, .bl p.v])
theorem Xas.nil {H : Hp} : Xas H [] [] := ⟨rfl, fun i p h => by simp at h⟩
theorem Xas.mono {H H' : Hp} {us : List V} {ps : List Pc} (h : Xas H us ps) (k : ∀ b xs, H b = some (.tup xs) → H' b = some (.tup xs)) : Xas H' us ps :=
 ⟨h.1, fun i p e => let ⟨a, h1, h2⟩ := h.2 i p e; ⟨a, h1, k _ _ h2⟩⟩
theorem Xas.same {H H' : Hp} {us : List V} {ps : List Pc} (h : Xas H us ps) (k : Same H H') : Xas H' us ps := h.mono fun b xs e => k b _ e
theorem Xas.snoc {H : Hp} {us : List V} {ps : List Pc} {p : Pc} {a : Addr} (h : Xas H us ps) (ha : H a = some (.tup [.int p.a, .int p.l, .bl p.v])) : Xas H (us ++ [.ref a]) (ps ++ [p]) := by
 refine ⟨by simp [h.1], fun i q e => ?_⟩
 have hl := h.1
 by_cases hi : i < ps.length
 · rw [List.getElem?_append_left hi] at e
   obtain ⟨b, h1, h2⟩ := h.2 i q e
   exact ⟨b, by rw [List.getElem?_append_left (by omega)]; exact h1, h2⟩
 · have hlt : i < (ps ++ [p]).length := (List.getElem?_eq_some_iff.mp e).1
   have hi2 : i = ps.length := by simp at hlt; omega
   subst hi2
   rw [List.getElem?_append_right (Nat.le_refl _)] at e
   have e' : p = q := by simpa using e
   subst e'
   exact ⟨a, by rw [← hl, List.getElem?_append_right (Nat.le_refl _)]; simp, ha⟩
theorem Xeh {H : Hp} {p : Addr} {o : HO} (hp : H p = none ∨ ∃ xs, H p = some (.lst xs)) : ∀ b xs, H b = some (.tup xs) → upd H p o b = some (.tup xs) := fun b xs e => by
 have hne : b ≠ p := fun z => by
   subst z
   rcases hp with h | ⟨ys, h⟩
   · rw [h] at e; cases e
   · rw [h] at e; cases e
 rw [Xav hne]
 exact e
theorem Xas.push {H : Hp} {us : List V} {ps : List Pc} {p t : Addr} {z : Pc} (h : Xas H us ps) (hp : H p = some (.lst us)) (ht : H t = none) :
   upd (upd H t (.tup [.int z.a, .int z.l, .bl z.v])) p (.lst (us ++ [.ref t])) p = some (.lst (us ++ [.ref t])) ∧
   Xas (upd (upd H t (.tup [.int z.a, .int z.l, .bl z.v])) p (.lst (us ++ [.ref t]))) (us ++ [.ref t]) (ps ++ [z]) := by
 have hpt : p ≠ t := Xaw hp ht
 have hp2 : upd H t (.tup [.int z.a, .int z.l, .bl z.v]) p = some (.lst us) := by rw [Xav hpt]; exact hp
 refine ⟨upd_same, ?_⟩
 refine Xas.snoc ?_ ?_
 · exact (h.mono (Xeh (.inl ht))).mono (Xeh (.inr ⟨_, hp2⟩))
 · exact Xeh (.inr ⟨_, hp2⟩) _ _ upd_same
theorem Xas.at {H : Hp} {us : List V} {ps : List Pc} (h : Xas H us ps) {k : Int} (h0 : 0 ≤ k) (h1 : k < us.length) : ∃ t z, atI us k = some (.ref t) ∧ ps[k.toNat]? = some z ∧ H t = some (.tup [.int z.a, .int z.l, .bl z.v]) := by
 have hl := h.1
 have hk : k.toNat < ps.length := by omega
 obtain ⟨t, e1, e2⟩ := h.2 k.toNat ps[k.toNat] (by simp [hk])
 refine ⟨t, _, ?_, by simp [hk], e2⟩
 have := atI_nat e1
 rwa [Int.toNat_of_nonneg h0] at this
def Xcj (H : Hp) (us : List V) (xs : List (List V)) : Prop := us.length = xs.length ∧ ∀ (i : Nat) (x : List V), xs[i]? = some x → ∃ a, us[i]? = some (.ref a) ∧ H a = some (.tup x)
theorem Xcj.nil {H : Hp} : Xcj H [] [] := ⟨rfl, fun i p h => by simp at h⟩
theorem Xcj.mono {H H' : Hp} {us : List V} {xs : List (List V)} (h : Xcj H us xs) (k : ∀ b ys, H b = some (.tup ys) → H' b = some (.tup ys)) : Xcj H' us xs :=
 ⟨h.1, fun i p e => let ⟨a, h1, h2⟩ := h.2 i p e; ⟨a, h1, k _ _ h2⟩⟩
theorem Xcj.same {H H' : Hp} {us : List V} {xs : List (List V)} (h : Xcj H us xs) (k : Same H H') : Xcj H' us xs := h.mono fun b ys e => k b _ e
theorem Xcj.push {H : Hp} {us : List V} {xs : List (List V)} {p t : Addr} {z : List V} (h : Xcj H us xs) (hp : H p = some (.lst us)) (ht : H t = none) :
   Xcj (upd (upd H t (.tup z)) p (.lst (us ++ [.ref t]))) (us ++ [.ref t]) (xs ++ [z]) := by
 have hpt : p ≠ t := Xaw hp ht
 have hp2 : upd H t (.tup z) p = some (.lst us) := by rw [Xav hpt]; exact hp
 have h2 := (h.mono (Xeh (o := .tup z) (.inl ht))).mono (Xeh (o := .lst (us ++ [.ref t])) (.inr ⟨_, hp2⟩))
 have hz : upd (upd H t (.tup z)) p (.lst (us ++ [.ref t])) t = some (.tup z) := Xeh (.inr ⟨_, hp2⟩) _ _ upd_same
 refine ⟨by simp [h.1], fun i q e => ?_⟩
 have hl := h.1
 by_cases hi : i < xs.length
 · rw [List.getElem?_append_left hi] at e
   obtain ⟨b, h1, h3⟩ := h2.2 i q e
   exact ⟨b, by rw [List.getElem?_append_left (by omega)]; exact h1, h3⟩
 · have hlt : i < (xs ++ [z]).length := (List.getElem?_eq_some_iff.mp e).1
   have hi2 : i = xs.length := by simp at hlt; omega
   subst hi2
   rw [List.getElem?_append_right (Nat.le_refl _)] at e
   have e' : z = q := by simpa using e
   subst e'
   exact ⟨t, by rw [← hl, List.getElem?_append_right (Nat.le_refl _)]; simp, hz⟩
theorem Xcj.at {H : Hp} {us : List V} {xs : List (List V)} (h : Xcj H us xs) {i : Nat} (h1 : i < us.length) : ∃ t z, atI us (0 + (i : Int)) = some (.ref t) ∧ xs[i]? = some z ∧ H t = some (.tup z) := by
 have hl := h.1
 have hk : i < xs.length := by omega
 obtain ⟨t, e1, e2⟩ := h.2 i xs[i] (by simp [hk])
 exact ⟨t, _, by rw [Int.zero_add]; exact atI_nat e1, by simp [hk], e2⟩
@[reducible] def optV : Option Int → V
 | none => .non
 | some b => .int b
def spLong : Sp := fun vs H Q _ => ∃ n : Int, vs = [.int n] ∧ Q (.int (n / 2)) H
def spLive : Sp := fun vs H Q _ => ∃ n : Int, vs = [.int n] ∧ Q (.bl (decide (n % 2 = 1))) H
def spCan (K : PySem.W.Frag) : Sp := fun vs H Q _ => ∃ (a : Addr) (ns : List Int) (k : Int), vs = [.ref a, .int k] ∧ SqL K H a (ns.map V.int) ∧ 0 ≤ k ∧ k < ns.length ∧ Q (.bl (Xbu ns k)) H
def spBad (K : PySem.W.Frag) : Sp := fun vs H Q _ => ∃ (a : Addr) (ns : List Int) (k : Int), vs = [.ref a, .int k] ∧ SqL K H a (ns.map V.int) ∧ 0 ≤ k ∧ k < ns.length ∧ Q (optV (Xdj ns k)) H
def Xed (K : PySem.W.Frag) (C : Addr) : Sp := fun vs H Q E => ∃ (a : Addr) (ns : List Int), vs = [.ref a] ∧ SqL K H a (ns.map V.int) ∧ ns.length ≤ 4000 ∧
 (∀ b, (Xck ns 0).2 = some b → ∀ (dx : Addr) (H' : Hp), Same H H' → H' dx = some (.xd [("cell", .int b)]) → E (.ref C) (some dx) H') ∧
 ((Xck ns 0).2 = none → ∀ (p : Addr) (us : List V) (H' : Hp), H p = none → Same H H' → H' p = some (.lst us) → Xas H' us (Xck ns 0).1 → Q (.ref p) H')
def spCell (K : PySem.W.Frag) : Sp := fun vs H Q _ => ∃ (a : Addr) (ns : List Int) (k : Int), vs = [.ref a, .int k] ∧ SqL K H a (ns.map V.int) ∧ 0 ≤ k ∧ Q (.int (ns.getD k.toNat 0)) H
def Xfz : Sp := fun vs H Q _ => ∃ n : Int, vs = [.int n] ∧ Q (.bl true) H
def spLaw (K : PySem.W.Frag) : Sp := fun vs H Q _ => ∃ (a : Addr) (ns : List Int), vs = [.ref a] ∧ SqL K H a (ns.map V.int) ∧ ns.length ≤ 63 ∧ ∀ H', Q (.bl true) H'
section
variable {K : PySem.W.Frag} {H : Hp} {Q : VK} {E : XK}
theorem i_long {n : Int} (q : Q (.int (n / 2)) H) : spLong [.int n] H Q E := ⟨n, rfl, q⟩
theorem i_live {n : Int} (q : Q (.bl (decide (n % 2 = 1))) H) : spLive [.int n] H Q E := ⟨n, rfl, q⟩
theorem i_can {a : Addr} {ns : List Int} {k : Int} (h : SqL K H a (ns.map V.int)) (h0 : 0 ≤ k) (h1 : k < ns.length) (q : Q (.bl (Xbu ns k)) H) : spCan K [.ref a, .int k] H Q E := ⟨a, ns, k, rfl, h, h0, h1, q⟩
theorem i_bad {a : Addr} {ns : List Int} {k : Int} (h : SqL K H a (ns.map V.int)) (h0 : 0 ≤ k) (h1 : k < ns.length) (q : Q (optV (Xdj ns k)) H) : spBad K [.ref a, .int k] H Q E := ⟨a, ns, k, rfl, h, h0, h1, q⟩
theorem i_cell {a : Addr} {ns : List Int} {k : Int} (h : SqL K H a (ns.map V.int)) (h0 : 0 ≤ k) (q : Q (.int (ns.getD k.toNat 0)) H) : spCell K [.ref a, .int k] H Q E := ⟨a, ns, k, rfl, h, h0, q⟩
theorem i_whole {n : Int} (q : Q (.bl true) H) : Xfz [.int n] H Q E := ⟨n, rfl, q⟩
theorem live_eq2 (n : Int) : decide (Builtin.bitAnd n 1 = 1) = decide (n % 2 = 1) := by rw [← live_eq, decV]
end
end Stow
namespace Stow
def Xbw (cs : List Int) (k l : Int) (v : Bool) : List Int := (cs.set k.toNat (l * 2 + if v then 1 else 0)).set (k + l - 1).toNat (l * 2 + if v then 1 else 0)
theorem Xbg (cs : List Int) (k l : Int) (v : Bool) : (Xbw cs k l v).length = cs.length := by
 unfold Xbw
 rw [List.length_set, List.length_set]
theorem Xei {cs : List Int} {k l : Int} {v : Bool} {j : Nat} (h0 : 0 ≤ k) (h1 : 1 ≤ l) (h : (j : Int) < k ∨ k + l ≤ j) : (Xbw cs k l v)[j]? = cs[j]? := by
 unfold Xbw
 rw [List.getElem?_set_ne (by omega), List.getElem?_set_ne (by omega)]
theorem laidI_first {cs : List Int} {k l : Int} {v : Bool} (h0 : 0 ≤ k) (h1 : 1 ≤ l) (h : k + l ≤ cs.length) : (Xbw cs k l v)[k.toNat]? = some (mkOf l v) := by
 unfold Xbw mkOf
 by_cases e : (k + l - 1).toNat = k.toNat
 · rw [e, List.getElem?_set_self (by rw [List.length_set]; omega)]
 · rw [List.getElem?_set_ne e, List.getElem?_set_self (by omega)]
theorem laidI_last {cs : List Int} {k l : Int} {v : Bool} (h0 : 0 ≤ k) (h1 : 1 ≤ l) (h : k + l ≤ cs.length) : (Xbw cs k l v)[(k + l - 1).toNat]? = some (mkOf l v) := by
 unfold Xbw mkOf
 rw [List.getElem?_set_self (by rw [List.length_set]; omega)]
def Xfe (ds : List Pc) (k : Int) : Prop := ∀ p ∈ ds, 0 ≤ p.a ∧ 1 ≤ p.l ∧ p.a + p.l ≤ k
def FromOn (rs : List Pc) (e : Int) : Prop := ∀ p ∈ rs, e ≤ p.a ∧ 1 ≤ p.l
theorem Xam.endBy {ds : List Pc} {s e : Int} (h : Xam s ds e) (h0 : 0 ≤ s) : Xfe ds e := fun p hp => by
 obtain ⟨h1, h2, _, h3⟩ := h.mem p hp
 omega
theorem Xam.fromOn {ds : List Pc} {s e : Int} (h : Xam s ds e) : FromOn ds s := fun p hp => by
 obtain ⟨h1, h2, _, _⟩ := h.mem p hp
 omega
theorem Xfe.mono {ds : List Pc} {k k' : Int} (h : Xfe ds k) (e : k ≤ k') : Xfe ds k' := fun p hp => by have := h p hp; omega
theorem Xfe.app {ds es : List Pc} {k : Int} (h : Xfe ds k) (g : Xfe es k) : Xfe (ds ++ es) k := fun p hp => (List.mem_append.mp hp).elim (h p) (g p)
theorem Xbc.sub {cs : List Int} {ps qs : List Pc} (m : Xbc cs ps) (h : ∀ p ∈ qs, p ∈ ps) : Xbc cs qs := fun p hp => m p (h p hp)
theorem Xbc.lay {cs : List Int} {ds rs : List Pc} {k l : Int} {v : Bool} (h0 : 0 ≤ k) (h1 : 1 ≤ l) (hl : k + l ≤ cs.length) (hd : Xfe ds k) (hr : FromOn rs (k + l)) (m : Xbc cs (ds ++ rs)) :
   Xbc (Xbw cs k l v) (ds ++ ⟨k, l, v⟩ :: rs) := by
 intro p hp
 rcases List.mem_append.mp hp with h | h
 · obtain ⟨a0, a1, a2⟩ := hd p h
   obtain ⟨m1, m2⟩ := m p (List.mem_append_left _ h)
   exact ⟨by rw [Xei h0 h1 (by omega)]; exact m1, by rw [Xei h0 h1 (by omega)]; exact m2⟩
 · rcases List.mem_cons.mp h with h | h
   · subst h
     exact ⟨laidI_first h0 h1 hl, laidI_last h0 h1 hl⟩
   · obtain ⟨a0, a1⟩ := hr p h
     obtain ⟨m1, m2⟩ := m p (List.mem_append_right _ h)
     exact ⟨by rw [Xei h0 h1 (by omega)]; exact m1, by rw [Xei h0 h1 (by omega)]; exact m2⟩
def lfI (cs : List Int) (b e : Int) : List Int := if b = e then cs else Xbw cs b (e - b) false
def fr (b e : Int) : List Pc := if b = e then [] else [⟨b, e - b, false⟩]
theorem Xco (cs : List Int) (b e : Int) : (lfI cs b e).length = cs.length := by
 unfold lfI
 split
 · rfl
 · exact Xbg _ _ _ _
theorem lfI_out {cs : List Int} {b e : Int} {j : Nat} (h0 : 0 ≤ b) (h1 : b ≤ e) (h : (j : Int) < b ∨ e ≤ j) : (lfI cs b e)[j]? = cs[j]? := by
 unfold lfI
 split
 · rfl
 · exact Xei h0 (by omega) (by omega)
theorem fr_chain {b e : Int} (h : b ≤ e) : Xam b (fr b e) e := by
 unfold fr
 split
 · assumption
 · exact ⟨rfl, (by show 1 ≤ e - b; omega), (fun z => by cases z), (by show b + (e - b) = e; omega)⟩
theorem Xbc.layF {cs : List Int} {ds rs : List Pc} {b e : Int} (h0 : 0 ≤ b) (h1 : b ≤ e) (hl : e ≤ cs.length) (hd : Xfe ds b) (hr : FromOn rs e) (m : Xbc cs (ds ++ rs)) : Xbc (lfI cs b e) (ds ++ (fr b e ++ rs)) := by
 unfold lfI fr
 split
 · exact m
 · exact Xbc.lay h0 (by omega) (by omega) hd (by rw [show b + (e - b) = e by omega]; exact hr) m
def cutO (cs : List Int) (a l s L : Int) : List Int := lfI (Xbw (lfI cs a s) s L true) (s + L) (a + l)
theorem cutO_len (cs : List Int) (a l s L : Int) : (cutO cs a l s L).length = cs.length := by
 unfold cutO
 rw [Xco, Xbg, Xco]
def cutP (ds rs : List Pc) (a l s L : Int) : List Pc := ds ++ (fr a s ++ (⟨s, L, true⟩ :: (fr (s + L) (a + l) ++ rs)))
theorem cutP_marks {cs : List Int} {ds rs : List Pc} {z : Pc} {s L : Int} (h0 : 0 ≤ z.a) (hL : 1 ≤ L) (h1 : z.a ≤ s) (h2 : s + L ≤ z.a + z.l) (hl : z.a + z.l ≤ cs.length) (hd : Xfe ds z.a) (hr : FromOn rs (z.a + z.l)) (m : Xbc cs (ds ++ z :: rs)) :
   Xbc (cutO cs z.a z.l s L) (cutP ds rs z.a z.l s L) := by
 have m0 : Xbc cs (ds ++ rs) := m.sub fun p hp => by
   rcases List.mem_append.mp hp with h | h
   · exact List.mem_append_left _ h
   · exact List.mem_append_right _ (List.mem_cons_of_mem _ h)
 have m1 := Xbc.layF h0 h1 (by omega) hd (fun p hp => by have := hr p hp; omega) m0
 have d1 : Xfe (ds ++ fr z.a s) s := (hd.mono h1).app ((fr_chain h1).endBy h0)
 have m2 : Xbc (Xbw (lfI cs z.a s) s L true) ((ds ++ fr z.a s) ++ ⟨s, L, true⟩ :: rs) :=
   Xbc.lay (by omega) hL (by rw [Xco]; omega) d1 (fun p hp => by have := hr p hp; omega) (by rw [List.append_assoc]; exact m1)
 have d2 : Xfe ((ds ++ fr z.a s) ++ [⟨s, L, true⟩]) (s + L) := (d1.mono (by omega)).app fun p hp => by
   have : p = ⟨s, L, true⟩ := by simpa using hp
   subst this
   exact ⟨by show 0 ≤ s; omega, hL, Int.le_refl _⟩
 have m3 := Xbc.layF (cs := Xbw (lfI cs z.a s) s L true) (b := s + L) (e := z.a + z.l) (by omega) h2 (by rw [Xbg, Xco]; omega) d2 hr (by rw [List.append_assoc]; exact m2)
 unfold cutO cutP
 simpa only [List.append_assoc, List.singleton_append, List.cons_append, List.nil_append] using m3
theorem cutP_chain {ds rs : List Pc} {a l s L n : Int} (hL : 3 ≤ L) (h1 : a ≤ s) (h2 : s + L ≤ a + l) (hd : Xam 0 ds a) (hr : Xam (a + l) rs n) : Xam 0 (cutP ds rs a l s L) n :=
 hd.app ((fr_chain h1).app ⟨rfl, (by show 1 ≤ L; omega), (fun _ => hL), (fr_chain h2).app hr⟩)
theorem Xaz : ∀ {ps : List Pc} {s e : Int} {i : Nat} {z : Pc}, Xam s ps e → ps[i]? = some z → ∃ ds rs, ps = ds ++ z :: rs ∧ ds.length = i ∧ Xam s ds z.a ∧ Xam (z.a + z.l) rs e
 | [], s, e, i, z, _, h => by simp at h
 | p :: r, s, e, 0, z, c, h => by
   have e1 : p = z := by simpa using h
   subst e1
   obtain ⟨h0, h1, h2, h3⟩ := c
   exact ⟨[], r, rfl, rfl, h0.symm, by rw [h0]; exact h3⟩
 | p :: r, s, e, i + 1, z, c, h => by
   obtain ⟨h0, h1, h2, h3⟩ := c
   obtain ⟨ds, rs, e1, e2, c1, c2⟩ := Xaz h3 (show r[i]? = some z by simpa using h)
   exact ⟨p :: ds, rs, by rw [e1]; rfl, by rw [List.length_cons, e2], ⟨h0, h1, h2, c1⟩, c2⟩
theorem Xcl {ps : List Pc} {s e : Int} {i : Nat} {z y : Pc} (c : Xam s ps e) (h : ps[i]? = some z) (h' : ps[i + 1]? = some y) : y.a = z.a + z.l := by
 obtain ⟨ds, rs, rfl, rfl, _, c2⟩ := Xaz c h
 rw [List.getElem?_append_right (by omega)] at h'
 rw [show ds.length + 1 - ds.length = 1 by omega] at h'
 cases rs with
 | nil => simp at h'
 | cons p r =>
   have : p = y := by simpa using h'
   subst this
   exact c2.1
theorem chain_last {ps : List Pc} {s e : Int} {i : Nat} {z : Pc} (c : Xam s ps e) (h : ps[i]? = some z) (h' : ps.length = i + 1) : z.a + z.l = e := by
 obtain ⟨ds, rs, rfl, rfl, _, c2⟩ := Xaz c h
 rw [List.length_append, List.length_cons] at h'
 have : rs = [] := List.length_eq_zero_iff.mp (by omega)
 subst this
 exact c2
theorem chain_first {ps : List Pc} {s e : Int} {z : Pc} (c : Xam s ps e) (h : ps[0]? = some z) : z.a = s := by
 cases ps with
 | nil => simp at h
 | cons p r =>
   have : p = z := by simpa using h
   subst this
   exact c.1
theorem chain_pos {ps : List Pc} {s e : Int} {i : Nat} {z : Pc} (c : Xam s ps e) (h : ps[i]? = some z) : s + i ≤ z.a := by
 obtain ⟨ds, rs, rfl, rfl, c1, _⟩ := Xaz c h
 exact c1.le
theorem chain_apart {ps : List Pc} : ∀ {b e : Int}, Xam b ps e → ∀ (i j : Nat) (y z : Pc), ps[i]? = some y → ps[j]? = some z → y.a = z.a → y = z := by
 induction ps with
 | nil => intro b e _ i j y z hi; simp at hi
 | cons p r ih =>
   intro b e h i j y z hi hj ha
   obtain ⟨e1, h1, h3, c⟩ := h
   have up : ∀ (i : Nat) (y : Pc), r[i]? = some y → y.a > p.a := fun i y hy => by
     have := (c.mem y (List.mem_of_getElem? hy)).1
     omega
   cases i with
   | zero =>
     cases j with
     | zero => simp at hi hj; rw [← hi, ← hj]
     | succ j =>
       have e2 : p = y := by simpa using hi
       have := up j z (by simpa using hj)
       subst e2; omega
   | succ i =>
     cases j with
     | zero =>
       have e2 : p = z := by simpa using hj
       have := up i y (by simpa using hi)
       subst e2; omega
     | succ j => exact ih c i j y z (by simpa using hi) (by simpa using hj) ha
def fbeg (ps : List Pc) (i : Nat) (z : Pc) : Int := match i with
 | 0 => z.a
 | j + 1 => match ps[j]? with
   | some y => if y.v = true then z.a else y.a
   | none => z.a
def fend (ps : List Pc) (i : Nat) (z : Pc) : Int := match ps[i + 1]? with
 | some y => if y.v = true then z.a + z.l else y.a + y.l
 | none => z.a + z.l
theorem mark_ahead {cs : List Int} {ps : List Pc} {s e : Int} {j : Nat} {y z : Pc} (c : Xam s ps e) (m : Xbc cs ps) (h : ps[j]? = some y) (h' : ps[j + 1]? = some z) : cs.getD (z.a - 1).toNat 0 = y.mk' := by
 have e := Xcl c h h'
 obtain ⟨_, m2⟩ := m y (List.mem_of_getElem? h)
 rw [List.getD_eq_getElem?_getD, show z.a - 1 = y.a + y.l - 1 by omega, m2]
 rfl
theorem mark_behind {cs : List Int} {ps : List Pc} {s e : Int} {j : Nat} {y z : Pc} (c : Xam s ps e) (m : Xbc cs ps) (h : ps[j]? = some y) (h' : ps[j + 1]? = some z) : cs.getD (y.a + y.l).toNat 0 = z.mk' := by
 have e := Xcl c h h'
 obtain ⟨m1, _⟩ := m z (List.mem_of_getElem? h')
 rw [List.getD_eq_getElem?_getD, ← e, m1]
 rfl
theorem fbeg_le {ps : List Pc} {s e : Int} {i : Nat} {z : Pc} (c : Xam s ps e) (h : ps[i]? = some z) : s ≤ fbeg ps i z ∧ fbeg ps i z ≤ z.a := by
 have hz := chain_pos c h
 unfold fbeg
 split
 · omega
 · rename_i j
   split
   · rename_i y hy
     have hy' := chain_pos c hy
     have e1 := Xcl c hy h
     have := c.mem y (List.mem_of_getElem? hy)
     split <;> omega
   · omega
theorem fend_le {ps : List Pc} {s e : Int} {i : Nat} {z : Pc} (c : Xam s ps e) (h : ps[i]? = some z) : z.a + z.l ≤ fend ps i z ∧ fend ps i z ≤ e := by
 have hz := c.mem z (List.mem_of_getElem? h)
 unfold fend
 split
 · rename_i y hy
   have e1 := Xcl c h hy
   have := c.mem y (List.mem_of_getElem? hy)
   split <;> omega
 · omega
theorem Xfs {a b : Int} (hb : 1 ≤ b) : -(a + 1) % b = b - 1 - a % b := by
 have e := Int.emod_add_mul_ediv a b
 have h0 := Int.emod_nonneg a (show b ≠ 0 by omega)
 have h1 := Int.emod_lt_of_pos a (show 0 < b by omega)
 have eq : -(a + 1) = (b - 1 - a % b) + b * (-(a / b) - 1) := by
   rw [Int.mul_sub, Int.mul_neg]
   omega
 rw [eq, Int.add_mul_emod_self_left, Int.emod_eq_of_lt (by omega) (by omega)]
end Stow
namespace Stow
theorem Xdg {ps : List Pc} {s e : Int} {y z : Pc} (c : Xam s ps e) (hy : y ∈ ps) (hz : z ∈ ps) (h : y.a = z.a) : y = z := by
 obtain ⟨i, hi⟩ := List.getElem?_of_mem hy
 obtain ⟨j, hj⟩ := List.getElem?_of_mem hz
 exact chain_apart c i j y z hi hj h
end Stow
namespace Stow
theorem laidI_free (cs : List Int) (k l : Int) : Xbw cs k l false = (cs.set k.toNat (l * 2)).set (k + l - 1).toNat (l * 2) := by
 unfold Xbw
 rw [if_neg Bool.false_ne_true, Int.add_zero]
theorem Xfm {ps : List Pc} {j : Nat} {y z : Pc} (h : ps[j]? = some y) (hv : y.v = true) : fbeg ps (j + 1) z = z.a := by
 unfold fbeg
 simp only [h]
 exact if_pos hv
theorem Xfn {ps : List Pc} {j : Nat} {y z : Pc} (h : ps[j]? = some y) (hv : y.v = false) : fbeg ps (j + 1) z = y.a := by
 unfold fbeg
 simp only [h]
 exact if_neg (by rw [hv]; exact Bool.false_ne_true)
theorem Xeq {ps : List Pc} {j : Nat} {y z : Pc} (h : ps[j + 1]? = some y) (hv : y.v = true) : fend ps j z = z.a + z.l := by
 unfold fend
 rw [h]
 exact if_pos hv
theorem Xel {ps : List Pc} {j : Nat} {y z : Pc} (h : ps[j + 1]? = some y) (hv : y.v = false) : fend ps j z = y.a + y.l := by
 unfold fend
 rw [h]
 exact if_neg (by rw [hv]; exact Bool.false_ne_true)
theorem Xfk {ps : List Pc} {j : Nat} {z : Pc} (h : ps[j + 1]? = none) : fend ps j z = z.a + z.l := by
 unfold fend
 rw [h]
end Stow
namespace Stow
theorem Xfp {ps : List Pc} {s e : Int} {i j : Nat} {y z : Pc} (c : Xam s ps e) (hi : ps[i]? = some y) (hj : ps[j]? = some z) (h : y.a = z.a) : i = j := by
 rcases Nat.lt_trichotomy i j with g | g | g
 · exfalso
   obtain ⟨ds, rs, e1, e2, c1, c2⟩ := Xaz c hi
   subst e1 e2
   rw [List.getElem?_append_right (by omega)] at hj
   cases k : j - ds.length with
   | zero => omega
   | succ n =>
     rw [k] at hj
     have hm : z ∈ rs := List.mem_of_getElem? (show rs[n]? = some z from hj)
     have := (c2.mem z hm).1
     have := (c.mem y (List.mem_append_right _ List.mem_cons_self)).2.1
     omega
 · exact g
 · exfalso
   obtain ⟨ds, rs, e1, e2, c1, c2⟩ := Xaz c hj
   subst e1 e2
   rw [List.getElem?_append_right (by omega)] at hi
   cases k : i - ds.length with
   | zero => omega
   | succ n =>
     rw [k] at hi
     have hm : y ∈ rs := List.mem_of_getElem? (show rs[n]? = some y from hi)
     have := (c2.mem y hm).1
     have := (c.mem z (List.mem_append_right _ List.mem_cons_self)).2.1
     omega
end Stow
namespace Stow
def Xbj (acc : List Pc) (z : Pc) : List Pc := match acc.getLast? with
 | some y => if z.v = false ∧ y.v = false then acc.dropLast ++ [⟨y.a, y.l + z.l, false⟩] else acc ++ [z]
 | none => acc ++ [z]
def Xcf (ps : List Pc) : List Pc := ps.foldl Xbj []
theorem joinStep_nil (z : Pc) : Xbj [] z = [z] := rfl
theorem Xby {acc : List Pc} {z : Pc} (h : z.v = true) : Xbj acc z = acc ++ [z] := by
 unfold Xbj
 split
 · rw [if_neg (by rw [h]; simp)]
 · rfl
theorem Xbx {D : List Pc} {y z : Pc} (h : y.v = true) : Xbj (D ++ [y]) z = D ++ [y] ++ [z] := by
 unfold Xbj
 rw [List.getLast?_concat]
 simp only
 rw [if_neg (by rw [h]; simp)]
theorem Xbs {D : List Pc} {y z : Pc} (h : y.v = false) (hz : z.v = false) : Xbj (D ++ [y]) z = D ++ [⟨y.a, y.l + z.l, false⟩] := by
 unfold Xbj
 rw [List.getLast?_concat]
 simp only
 rw [if_pos ⟨hz, h⟩, List.dropLast_concat]
theorem Xds {ps : List Pc} {i : Nat} {z : Pc} (h : ps[i]? = some z) : Xcf (ps.take (i + 1)) = Xbj (Xcf (ps.take i)) z := by
 unfold Xcf
 rw [List.take_add_one, h, List.foldl_append]
 rfl
theorem Xbk (l : List Pc) : l = [] ∨ ∃ D y, l = D ++ [y] := by
 rcases List.eq_nil_or_concat l with h | ⟨D, y, h⟩
 · exact .inl h
 · exact .inr ⟨D, y, by rw [h, List.concat_eq_append]⟩
theorem Xam.take : ∀ {ps : List Pc} {s e : Int} {i : Nat}, Xam s ps e → i ≤ ps.length → ∃ m, Xam s (ps.take i) m ∧ Xam m (ps.drop i) e
 | ps, s, e, 0, c, _ => ⟨s, rfl, c⟩
 | [], s, e, i + 1, c, h => by simp at h
 | p :: r, s, e, i + 1, c, h => by
   obtain ⟨h0, h1, h2, h3⟩ := c
   obtain ⟨m, c1, c2⟩ := h3.take (i := i) (by simpa using h)
   exact ⟨m, ⟨h0, h1, h2, c1⟩, c2⟩
theorem Xam.unsnoc {D : List Pc} {y : Pc} {s e : Int} (c : Xam s (D ++ [y]) e) : Xam s D y.a ∧ 1 ≤ y.l ∧ (y.v = true → 3 ≤ y.l) ∧ y.a + y.l = e := by
 obtain ⟨ds, rs, e1, e2, c1, c2⟩ := Xaz (i := D.length) (z := y) c (by rw [List.getElem?_append_right (Nat.le_refl _), Nat.sub_self]; rfl)
 have hl := congrArg List.length e1
 rw [List.length_append, List.length_append, List.length_singleton, List.length_cons] at hl
 have er : rs = [] := List.length_eq_zero_iff.mp (by omega)
 subst er
 have := (List.append_inj e1 (by omega)).1
 subst this
 obtain ⟨h1, h2, h3, _⟩ := c.mem y (List.mem_append_right _ List.mem_cons_self)
 exact ⟨c1, h2, h3, c2⟩
theorem joinStep_chain {acc : List Pc} {z : Pc} {s : Int} (c : Xam s acc z.a) (h1 : 1 ≤ z.l) (h3 : z.v = true → 3 ≤ z.l) : Xam s (Xbj acc z) (z.a + z.l) := by
 rcases Xbk acc with h | ⟨D, y, h⟩
 · subst h
   exact Xam.snoc c h1 h3
 · subst h
   cases hy : y.v with
   | true => rw [Xbx hy]; exact Xam.snoc c h1 h3
   | false =>
     cases hz : z.v with
     | true => rw [Xby hz]; exact Xam.snoc c h1 h3
     | false =>
       rw [Xbs hy hz]
       obtain ⟨c1, y1, _, y2⟩ := c.unsnoc
       have := Xam.snoc (p := ⟨y.a, y.l + z.l, false⟩) c1 (by show 1 ≤ y.l + z.l; omega) (fun w => by cases w)
       rwa [show (⟨y.a, y.l + z.l, false⟩ : Pc).a + (⟨y.a, y.l + z.l, false⟩ : Pc).l = z.a + z.l by show y.a + (y.l + z.l) = z.a + z.l; omega] at this
theorem Xep : ∀ {ps acc : List Pc} {s m e : Int}, Xam s acc m → Xam m ps e → Xam s (ps.foldl Xbj acc) e
 | [], acc, s, m, e, c, d => by have d : m = e := d; subst d; exact c
 | p :: r, acc, s, m, e, c, d => by
   obtain ⟨h0, h1, h2, h3⟩ := d
   show Xam s (r.foldl Xbj (Xbj acc p)) e
   refine Xep (m := p.a + p.l) (joinStep_chain (by rw [h0]; exact c) h1 h2) (by rw [h0]; exact h3)
theorem joinF_chain {ps : List Pc} {s e : Int} (c : Xam s ps e) : Xam s (Xcf ps) e := Xep (acc := []) rfl c
def Xdh (cs : List Int) (ps : List Pc) : List Int := ps.foldl (fun c z => Xbw c z.a z.l z.v) cs
theorem layAll_snoc (cs : List Int) (ds : List Pc) (z : Pc) : Xdh cs (ds ++ [z]) = Xbw (Xdh cs ds) z.a z.l z.v := by
 unfold Xdh
 rw [List.foldl_append]
 rfl
theorem layAll_take {cs : List Int} {ps : List Pc} {i : Nat} {z : Pc} (h : ps[i]? = some z) : Xdh cs (ps.take (i + 1)) = Xbw (Xdh cs (ps.take i)) z.a z.l z.v := by
 rw [List.take_add_one, h]
 exact layAll_snoc _ _ _
theorem Xdf : ∀ (ps : List Pc) (cs : List Int), (Xdh cs ps).length = cs.length
 | [], cs => rfl
 | p :: r, cs => by
   show (Xdh (Xbw cs p.a p.l p.v) r).length = cs.length
   rw [Xdf r, Xbg]
theorem Xej : ∀ {rs ds : List Pc} {cs : List Int} {m : Int}, Xam 0 ds m → Xam m rs cs.length → Xbc cs ds → Xbc (Xdh cs rs) (ds ++ rs)
 | [], ds, cs, m, _, _, k => by rw [List.append_nil]; exact k
 | p :: r, ds, cs, m, c, d, k => by
   obtain ⟨e0, h1, h2, h3⟩ := d
   have l0 := c.le
   have l1 := h3.le
   have := Xej (rs := r) (ds := ds ++ [p]) (cs := Xbw cs p.a p.l p.v) (m := p.a + p.l) (Xam.snoc (by rw [e0]; exact c) h1 h2) (by rw [Xbg, e0]; exact h3)
     (Xbc.lay (rs := []) (by omega) h1 (by omega) (by rw [e0]; exact c.endBy (Int.le_refl 0)) (fun p hp => by cases hp) (by rw [List.append_nil]; exact k))
   rw [List.append_assoc, List.singleton_append] at this
   exact this
theorem Xet (ps : List Pc) : ∀ i, i ≤ ps.length → (Xcf (ps.take i)).length ≤ i
 | 0, _ => by simp [Xcf]
 | i + 1, h => by
   have ih := Xet ps i (by omega)
   have e : ps[i]? = some ps[i] := by simp [show i < ps.length by omega]
   rw [Xds e]
   generalize Xcf (ps.take i) = acc at ih
   generalize ps[i] = z
   rcases Xbk acc with e | ⟨D, w, e⟩
   · subst e; simp [joinStep_nil]
   · subst e
     rw [List.length_append, List.length_singleton] at ih
     cases hw : w.v with
     | true => rw [Xbx hw]; simp; omega
     | false =>
       cases hz : z.v with
       | true => rw [Xby hz]; simp; omega
       | false => rw [Xbs hw hz]; simp; omega
def Xbf (ps : List Pc) : Prop := ∀ j y z, ps[j]? = some y → ps[j + 1]? = some z → y.v = true ∨ z.v = true
theorem Xbf.snoc {D : List Pc} {w z : Pc} (h : Xbf (D ++ [w])) (hv : w.v = true ∨ z.v = true) : Xbf (D ++ [w] ++ [z]) := by
 intro j y x hy hx
 have hl : j + 1 < (D ++ [w] ++ [z]).length := (List.getElem?_eq_some_iff.mp hx).1
 rw [List.length_append, List.length_singleton] at hl
 rw [List.getElem?_append_left (by omega)] at hy
 by_cases e : j + 1 < (D ++ [w]).length
 · rw [List.getElem?_append_left e] at hx
   exact h j y x hy hx
 · rw [List.length_append, List.length_singleton] at e hl
   rw [List.getElem?_append_right (by rw [List.length_append, List.length_singleton]; omega), show j + 1 - (D ++ [w]).length = 0 by rw [List.length_append, List.length_singleton]; omega] at hx
   rw [show j = D.length by omega, List.getElem?_append_right (Nat.le_refl _), Nat.sub_self] at hy
   have e1 : w = y := by simpa using hy
   have e2 : z = x := by simpa using hx
   rw [← e1, ← e2]
   exact hv
theorem Xbf.last {D : List Pc} {w u : Pc} (h : Xbf (D ++ [w])) (hv : u.v = w.v) : Xbf (D ++ [u]) := by
 intro j y x hy hx
 have hl : j + 1 < (D ++ [u]).length := (List.getElem?_eq_some_iff.mp hx).1
 rw [List.length_append, List.length_singleton] at hl
 rw [List.getElem?_append_left (by omega)] at hy
 by_cases e : j + 1 < D.length
 · rw [List.getElem?_append_left e] at hx
   exact h j y x (by rw [List.getElem?_append_left (by omega)]; exact hy) (by rw [List.getElem?_append_left e]; exact hx)
 · rw [List.getElem?_append_right (by omega), show j + 1 - D.length = 0 by omega] at hx
   have e2 : u = x := by simpa using hx
   have := h j y w (by rw [List.getElem?_append_left (by omega)]; exact hy) (by rw [List.getElem?_append_right (by omega), show j + 1 - D.length = 0 by omega]; rfl)
   rw [← e2, hv]
   exact this
theorem joinStep_noAdj {acc : List Pc} {z : Pc} (h : Xbf acc) : Xbf (Xbj acc z) := by
 rcases Xbk acc with e | ⟨D, w, e⟩
 · subst e
   intro j y x _ hx
   have : j + 1 < [z].length := (List.getElem?_eq_some_iff.mp hx).1
   simp at this
 · subst e
   cases hw : w.v with
   | true => rw [Xbx hw]; exact h.snoc (.inl hw)
   | false =>
     cases hz : z.v with
     | true => rw [Xby hz]; exact h.snoc (.inr hz)
     | false => rw [Xbs hw hz]; exact h.last hw.symm
theorem Xex : ∀ (ps acc : List Pc), Xbf acc → Xbf (ps.foldl Xbj acc)
 | [], _, h => h
 | p :: r, acc, h => Xex r (Xbj acc p) (joinStep_noAdj h)
theorem joinF_noAdj (ps : List Pc) : Xbf (Xcf ps) := Xex ps [] fun j y x hy _ => by simp at hy
theorem joinF_id {ps : List Pc} (h : Xbf ps) : ∀ i, i ≤ ps.length → Xcf (ps.take i) = ps.take i
 | 0, _ => rfl
 | 1, hi => by
   have e : ps[0]? = some ps[0] := by simp
   rw [Xds e, List.take_add_one, e]
   rfl
 | i + 2, hi => by
   have ey : ps[i]? = some ps[i] := by simp [show i < ps.length by omega]
   have ez : ps[i + 1]? = some ps[i + 1] := by simp [show i + 1 < ps.length by omega]
   have ih := joinF_id h (i + 1) (by omega)
   rw [Xds ez, ih]
   have hv := h i _ _ ey ez
   have e1 : ps.take (i + 1) = ps.take i ++ [ps[i]] := by rw [List.take_add_one, ey]; rfl
   have e2 : ps.take (i + 2) = ps.take (i + 1) ++ [ps[i + 1]] := by rw [List.take_add_one, ez]; rfl
   rw [e2, e1]
   rcases hv with hv | hv
   · exact Xbx hv
   · exact Xby hv
end Stow
namespace Stow
theorem get_mid {α : Type} (ds rs : List α) (z : α) : (ds ++ z :: rs)[ds.length]? = some z := by
 rw [List.getElem?_append_right (Nat.le_refl _), Nat.sub_self]
 rfl
end Stow
namespace Stow
end Stow
namespace Stow
open PySem L2 PyProof.Rows
theorem Xas.unsnoc {H : Hp} {us : List V} {ps : List Pc} {y : Pc} (h : Xas H us (ps ++ [y])) : ∃ ui t, us = ui ++ [.ref t] ∧ Xas H ui ps ∧ H t = some (.tup [.int y.a, .int y.l, .bl y.v]) := by
 have hl := h.1
 rw [List.length_append, List.length_singleton] at hl
 obtain ⟨t, e1, e2⟩ := h.2 ps.length y (by rw [List.getElem?_append_right (Nat.le_refl _), Nat.sub_self]; rfl)
 have hd : us = us.take ps.length ++ [.ref t] := by
   have := List.take_append_drop ps.length us
   have e3 : us.drop ps.length = [.ref t] := by
     apply List.ext_getElem?
     intro i
     rw [List.getElem?_drop]
     cases i with
     | zero => exact e1
     | succ i => rw [List.getElem?_eq_none (by omega)]; rfl
   rw [e3] at this
   exact this.symm
 refine ⟨us.take ps.length, t, hd, ⟨by rw [List.length_take]; omega, fun i p e => ?_⟩, e2⟩
 have hi : i < ps.length := (List.getElem?_eq_some_iff.mp e).1
 obtain ⟨a, h1, h2⟩ := h.2 i p (by rw [List.getElem?_append_left hi]; exact e)
 exact ⟨a, by rw [List.getElem?_take_of_lt hi]; exact h1, h2⟩
theorem Xas.relast {H : Hp} {ui : List V} {ps : List Pc} {p t t0 : Addr} {z : Pc} (h : Xas H ui ps) (hp : H p = some (.lst (ui ++ [.ref t0]))) (ht : H t = none) :
   Xas (upd (upd H t (.tup [.int z.a, .int z.l, .bl z.v])) p (.lst (ui ++ [.ref t]))) (ui ++ [.ref t]) (ps ++ [z]) := by
 have hpt : p ≠ t := Xaw hp ht
 have hp2 : upd H t (.tup [.int z.a, .int z.l, .bl z.v]) p = some (.lst (ui ++ [.ref t0])) := by rw [Xav hpt]; exact hp
 refine Xas.snoc ?_ ?_
 · exact (h.mono (Xeh (.inl ht))).mono (Xeh (.inr ⟨_, hp2⟩))
 · exact Xeh (.inr ⟨_, hp2⟩) _ _ upd_same
section
variable {X : Cx}
end
end Stow
namespace Stow
open PySem L2 PyProof.Rows
def eqVs (xs ys : List V) : Bool := (List.range (min xs.length ys.length)).all (fun j => eqV (xs.getD j .non) (ys.getD j .non)) && xs.length == ys.length
section
variable {X : Cx} {pins : List (Addr × Obj)} {σ : L2.St} {H : Hp} {s : Shared} {A : Around}
theorem items_eq {a b : Addr} {xs ys : List V} (I : Inv X pins σ H s) (ha : SqT X.K H a xs) (hb : SqT X.K H b ys) (hf : xs.all flatV = true) (hg : ys.all flatV = true) :
   ∃ its its2 : List Value, s.heap.IsTuple a its.toArray ∧ s.heap.IsTuple b its2.toArray ∧ its.length = xs.length ∧ its2.length = ys.length ∧
     ∀ j (h1 : j < its.toArray.size) (h2 : j < its2.toArray.size), SeqAt.EqAt A s its.toArray[j] its2.toArray[j] (eqV (xs.getD j .non) (ys.getD j .non)) := by
 obtain ⟨its, r1, p1, _⟩ := I.tuple ha
 obtain ⟨its2, r2, p2, _⟩ := I.tuple hb
 have l1 := r1.length
 have l2 := r2.length
 refine ⟨its, its2, p1, p2, l1.symm, l2.symm, fun j h1 h2 => ?_⟩
 rw [List.size_toArray] at h1 h2
 have hj : j < xs.length := by omega
 have hk : j < ys.length := by omega
 obtain ⟨u1, e1, q1⟩ := r1.get (i := j) (x := xs[j]) (by simp [hj])
 obtain ⟨u2, e2, q2⟩ := r2.get (i := j) (x := ys[j]) (by simp [hk])
 obtain ⟨g1, f1⟩ := List.getElem?_eq_some_iff.mp e1
 obtain ⟨g2, f2⟩ := List.getElem?_eq_some_iff.mp e2
 have fl : flatV xs[j] = true := List.all_eq_true.mp hf _ (List.getElem_mem hj)
 have gl : flatV ys[j] = true := List.all_eq_true.mp hg _ (List.getElem_mem hk)
 have z := eqAt_V (A := A) (s := s) q1 q2 fl gl
 rw [← f1, ← f2] at z
 have ex : xs.getD j .non = xs[j] := by simp [hj]
 have ey : ys.getD j .non = ys[j] := by simp [hk]
 rw [ex, ey]
 simpa using z
theorem rc_tups {a b : Addr} {xs ys : List V} (hu : A.units < cLine) (I : Inv X pins σ H s) (ha : SqT X.K H a xs) (hb : SqT X.K H b ys) (hf : xs.all flatV = true) (hg : ys.all flatV = true) : SeqAt.RcAt A s (.ref a) (.ref b) (eqVs xs ys) := by
 obtain ⟨its, its2, p1, p2, l1, l2, he⟩ := items_eq (A := A.in1) I ha hb hf hg
 have key := SeqAt.RcAt.tuples p1 p2 hu he
 simp only [List.size_toArray, l1, l2] at key
 exact key
theorem eqVs_self {xs : List V} (hf : xs.all flatV = true) : eqVs xs xs = true := by
 unfold eqVs
 rw [Bool.and_eq_true]
 refine ⟨List.all_eq_true.mpr fun j hj => ?_, by simp⟩
 have hj : j < xs.length := by simpa using hj
 have ex : xs.getD j .non = xs[j] := by simp [hj]
 rw [ex]
 exact eqV_self (List.all_eq_true.mp hf _ (List.getElem_mem hj))
theorem eq_tup_same {a b : Addr} {xs : List V} (hu : A.units < cLine) (I : Inv X pins σ H s) (ha : SqT X.K H a xs) (hb : SqT X.K H b xs) (hf : xs.all flatV = true) : SeqAt.EqAt A s (.ref a) (.ref b) true := by
 by_cases e : a = b
 · subst e; exact SeqAt.EqAt.same _
 · refine SeqAt.EqAt.of_refs e ?_
   have := rc_tups hu I ha hb hf hf
   rwa [eqVs_self hf] at this
end
section
variable {X : Cx}
theorem op_neLP (hu : X.A.units + 64 < cLine) : OpR X (compareOp .NotEq) (fun x y H Q => ∃ a b us ws ps, x = .ref a ∧ y = .ref b ∧ H a = some (.lst us) ∧ H b = some (.lst ws) ∧ Xas H us ps ∧ Xas H ws ps ∧ Q (.bl false) H) := by
 intro pins s σ H x y v u Q I rx ry h
 obtain ⟨a, b, us, ws, ps, rfl, rfl, ha, hb, pu, pw, q⟩ := h
 cases rx
 cases ry
 obtain ⟨its, r1, p1, _⟩ := I.list (SqL.of ha)
 obtain ⟨its2, r2, p2, _⟩ := I.list (SqL.of hb)
 have l1 := r1.length
 have l2 := r2.length
 have m1 := pu.1
 have m2 := pw.1
 have key : SeqAt.RcNeAt X.A s (.ref a) (.ref b) (!((List.range its.toArray.size).all (fun _ => true))) := by
   refine SeqAt.RcNeAt.lists p1.isList p2.isList (by rw [List.size_toArray, List.size_toArray]; omega) (by omega) fun j h1 h2 => ?_
   rw [List.size_toArray] at h1 h2
   have hj : j < ps.length := by omega
   obtain ⟨t1, e1, f1⟩ := pu.2 j ps[j] (by simp [hj])
   obtain ⟨t2, e2, f2⟩ := pw.2 j ps[j] (by simp [hj])
   obtain ⟨u1, g1, q1⟩ := r1.get e1
   obtain ⟨u2, g2, q2⟩ := r2.get e2
   cases q1
   cases q2
   obtain ⟨_, k1⟩ := List.getElem?_eq_some_iff.mp g1
   obtain ⟨_, k2⟩ := List.getElem?_eq_some_iff.mp g2
   have z := eq_tup_same (A := X.A.in1) (by show X.A.units + 1 < cLine; omega) I (SqT.of f1) (SqT.of f2) rfl
   rw [← k1, ← k2] at z
   simpa using z
 have e : (!((List.range its.toArray.size).all (fun _ => true))) = false := by simp
 rw [e] at key
 exact key _ _ _ _ ⟨.bl false, H, I, rfl, q⟩
end
end Stow
set_option Elab.async false
set_option linter.all false
set_option maxRecDepth 100000
set_option maxHeartbeats 4000000
namespace L2
open PySem PySem.Spec PyProof.Rows
section
variable {κ : Type} [DecidableEq κ]
def valV (kvs : List (κ × V)) (k : κ) : Option V := (kvs.find? fun kv => decide (kv.1 = k)).map (·.2)
def putK (kvs : List (κ × V)) (k : κ) (v : V) : List (κ × V) :=
 if (kvs.any fun kv => decide (kv.1 = k)) = true then kvs.map (fun kv => if kv.1 = k then (kv.1, v) else kv) else kvs ++ [(k, v)]
def dropK (kvs : List (κ × V)) (k : κ) : List (κ × V) := kvs.filter fun kv => decide (kv.1 ≠ k)
theorem valV_pos {p : κ × V} {r : List (κ × V)} {k : κ} (e : p.1 = k) : valV (p :: r) k = some p.2 := by simp [valV, List.find?_cons, e]
theorem valV_neg {p : κ × V} {r : List (κ × V)} {k : κ} (e : ¬ p.1 = k) : valV (p :: r) k = valV r k := by simp [valV, List.find?_cons, e]
theorem valV_any (k : κ) : ∀ kvs : List (κ × V), (kvs.any fun kv => decide (kv.1 = k)) = (valV kvs k).isSome
 | [] => rfl
 | p :: r => by
   rw [List.any_cons]
   by_cases e : p.1 = k
   · simp only [valV_pos e, decide_eq_true e, Bool.true_or, Option.isSome_some]
   · rw [valV_neg e, decide_eq_false e, Bool.false_or]; exact valV_any k r
theorem RelO.isSome_eq {o : Option V} {u : Option Value} (r : RelO o u) : o.isSome = u.isSome := by
 cases o with
 | none => cases u with
   | none => rfl
   | some _ => exact (show False from r).elim
 | some _ => cases u with
   | none => exact (show False from r).elim
   | some _ => rfl
theorem RelO.getD {o : Option V} {u : Option Value} {d : V} {d' : Value} (r : RelO o u) (rd : RelV d d') : RelV (o.getD d) (u.getD d') := by
 cases o with
 | none => cases u with
   | none => exact rd
   | some _ => exact (show False from r).elim
 | some _ => cases u with
   | none => exact (show False from r).elim
   | some _ => exact r
theorem KV.val {kvs : List (κ × V)} {vs : List (κ × Value)} (r : KV kvs vs) (k : κ) : RelO (valV kvs k) (valueAt vs k) := by
 unfold KV at r
 induction r with
 | nil => exact True.intro
 | @cons p q ps qs h t ih =>
   obtain ⟨h1, h2⟩ := h
   by_cases e : p.1 = k
   · have e' : q.1 = k := h1.symm.trans e
     have b : valueAt (q :: qs) k = some q.2 := by simp [valueAt, List.find?_cons, e']
     rw [valV_pos e, b]; exact h2
   · have e' : ¬ q.1 = k := fun z => e (h1.trans z)
     have b : valueAt (q :: qs) k = valueAt qs k := by simp [valueAt, List.find?_cons, e']
     rw [valV_neg e, b]; exact ih
theorem KV.any {kvs : List (κ × V)} {vs : List (κ × Value)} (r : KV kvs vs) (k : κ) : (kvs.any fun kv => decide (kv.1 = k)) = vs.any fun kv => decide (kv.1 = k) := by
 unfold KV at r
 induction r with
 | nil => rfl
 | cons h t ih => rw [List.any_cons, List.any_cons, ih, h.1]
theorem KV.repl {kvs : List (κ × V)} {vs : List (κ × Value)} (r : KV kvs vs) (k : κ) {y : V} {u : Value} (ry : RelV y u) :
   KV (kvs.map fun kv => if kv.1 = k then (kv.1, y) else kv) (vs.map fun kv => if kv.1 = k then (kv.1, u) else kv) := by
 unfold KV at r ⊢
 induction r with
 | nil => exact .nil
 | @cons p q ps qs h t ih =>
   rw [List.map_cons, List.map_cons]
   refine .cons ?_ ih
   obtain ⟨h1, h2⟩ := h
   by_cases e : p.1 = k
   · rw [if_pos e, if_pos (h1.symm.trans e)]; exact ⟨h1, ry⟩
   · rw [if_neg e, if_neg (fun z => e (h1.trans z))]; exact ⟨h1, h2⟩
theorem KV.put {kvs : List (κ × V)} {vs : List (κ × Value)} (r : KV kvs vs) (k : κ) {y : V} {u : Value} (ry : RelV y u) : KV (putK kvs k y) (stored vs k u) := by
 unfold putK stored
 rw [r.any k]
 by_cases e : (vs.any fun kv => decide (kv.1 = k)) = true
 · rw [if_pos e, if_pos e]; exact r.repl k ry
 · rw [if_neg e, if_neg e]; exact Paired.snoc r ⟨rfl, ry⟩
theorem KV.drop {kvs : List (κ × V)} {vs : List (κ × Value)} (r : KV kvs vs) (k : κ) : KV (dropK kvs k) (without vs k) := by
 unfold KV at r ⊢
 unfold dropK without
 induction r with
 | nil => exact .nil
 | @cons p q ps qs h t ih =>
   obtain ⟨h1, h2⟩ := h
   rw [List.filter_cons, List.filter_cons]
   by_cases e : p.1 = k
   · have a : ¬ decide (p.1 ≠ k) = true := by simp [e]
     have b : ¬ decide (q.1 ≠ k) = true := by simp [h1.symm.trans e]
     rw [if_neg a, if_neg b]; exact ih
   · have e' : ¬ q.1 = k := fun z => e (h1.trans z)
     have a : decide (p.1 ≠ k) = true := by simp [e]
     have b : decide (q.1 ≠ k) = true := by simp [e']
     rw [if_pos a, if_pos b]; exact .cons ⟨h1, h2⟩ ih
theorem KV.length {kvs : List (κ × V)} {vs : List (κ × Value)} (r : KV kvs vs) : kvs.length = vs.length := Paired.length r
end
abbrev KT (H : Hp) : List (List Key × V) → List (List Key × Addr × Value) → Prop := Paired fun p q => p.1 = q.1 ∧ H q.2.1 = some (.tup (p.1.map kV)) ∧ RelV p.2 q.2.2
theorem KT.val {H : Hp} {kvs : List (List Key × V)} {xs : List (List Key × Addr × Value)} (r : KT H kvs xs) (k : List Key) : RelO (valV kvs k) ((atKey xs k).map (·.2)) := by
 induction r with
 | nil => exact True.intro
 | @cons p q ps qs h t ih =>
   obtain ⟨h1, _, h2⟩ := h
   by_cases e : p.1 = k
   · have e' : q.1 = k := h1.symm.trans e
     have b : atKey (q :: qs) k = some q.2 := by simp [atKey, List.find?_cons, e']
     rw [valV_pos e, b]; exact h2
   · have e' : ¬ q.1 = k := fun z => e (h1.trans z)
     have b : atKey (q :: qs) k = atKey qs k := by simp [atKey, List.find?_cons, e']
     rw [valV_neg e, b]; exact ih
theorem KT.repl {H : Hp} {kvs : List (List Key × V)} {xs : List (List Key × Addr × Value)} (r : KT H kvs xs) (k : List Key) {y : V} {u : Value} (ry : RelV y u) :
   KT H (kvs.map fun kv => if kv.1 = k then (kv.1, y) else kv) (xs.map (putAt k u)) := by
 induction r with
 | nil => exact .nil
 | @cons p q ps qs h t ih =>
   rw [List.map_cons, List.map_cons]
   refine .cons ?_ ih
   obtain ⟨h1, h2, h3⟩ := h
   unfold putAt
   by_cases e : p.1 = k
   · rw [if_pos e, if_pos (h1.symm.trans e)]; exact ⟨h1, h2, ry⟩
   · rw [if_neg e, if_neg (fun z => e (h1.trans z))]; exact ⟨h1, h2, h3⟩
theorem KT.put {H : Hp} {kvs : List (List Key × V)} {xs : List (List Key × Addr × Value)} (r : KT H kvs xs) (k : List Key) {b : Addr} {y : V} {u : Value} (hb : H b = some (.tup (k.map kV))) (ry : RelV y u) :
   KT H (putK kvs k y) (storedH xs k b u) := by
 have e : (kvs.any fun kv => decide (kv.1 = k)) = (atKey xs k).isSome := by
   rw [valV_any, (r.val k).isSome_eq, Option.isSome_map]
 unfold putK storedH
 rw [e]
 by_cases q : (atKey xs k).isSome = true
 · rw [if_pos q, if_pos q]; exact r.repl k ry
 · rw [if_neg q, if_neg q]; exact Paired.snoc r ⟨rfl, hb, ry⟩
theorem KT.keeps {H H' : Hp} {kvs : List (List Key × V)} {xs : List (List Key × Addr × Value)} (r : KT H kvs xs) (ht : ∀ b ys, H b = some (.tup ys) → H' b = some (.tup ys)) : KT H' kvs xs :=
 Paired.mapP r fun _ _ z => ⟨z.1, ht _ _ z.2.1, z.2.2⟩
section
variable {P : Program} {w : World} {H : Hp} {h : Heap} {a : Addr}
end
def DGet (H : Hp) (a : Addr) (y : V) (r : Option V) : Prop :=
 (∃ kvs k, Rd H a (.dK kvs) ∧ y = kV k ∧ r = valV kvs k) ∨ ∃ kvs k b, Rd H a (.dT kvs) ∧ y = .ref b ∧ H b = some (.tup (k.map kV)) ∧ r = valV kvs k
def DPut (H : Hp) (a : Addr) (y v : V) (H' : Hp) : Prop :=
 (∃ kvs k, H a = some (.dK kvs) ∧ y = kV k ∧ kvs.length < sizeLine ∧ H' = upd H a (.dK (putK kvs k v))) ∨
 ∃ kvs k b, H a = some (.dT kvs) ∧ y = .ref b ∧ H b = some (.tup (k.map kV)) ∧ kvs.length < sizeLine ∧ H' = upd H a (.dT (putK kvs k v))
theorem DGet.k {H : Hp} {a : Addr} {kvs : List (Key × V)} {k : Key} (e : H a = some (.dK kvs)) : DGet H a (kV k) (valV kvs k) := .inl ⟨kvs, k, .inl e, rfl, rfl⟩
theorem DGet.t {H : Hp} {a b : Addr} {kvs : List (List Key × V)} {k : List Key} (e : H a = some (.dT kvs)) (eb : H b = some (.tup (k.map kV))) : DGet H a (.ref b) (valV kvs k) := .inr ⟨kvs, k, b, .inl e, rfl, eb, rfl⟩
theorem DPut.k {H : Hp} {a : Addr} {kvs : List (Key × V)} {k : Key} {v : V} (e : H a = some (.dK kvs)) (hl : kvs.length < sizeLine) : DPut H a (kV k) v (upd H a (.dK (putK kvs k v))) := .inl ⟨kvs, k, e, rfl, hl, rfl⟩
theorem DPut.t {H : Hp} {a b : Addr} {kvs : List (List Key × V)} {k : List Key} {v : V} (e : H a = some (.dT kvs)) (eb : H b = some (.tup (k.map kV))) (hl : kvs.length < sizeLine) :
   DPut H a (.ref b) v (upd H a (.dT (putK kvs k v))) := .inr ⟨kvs, k, b, e, rfl, eb, hl, rfl⟩
section
variable {X : Cx} {pins : List (Addr × Obj)} {σ : St} {H : Hp} {s : Shared} {a : Addr} {y v : V} {u r : Value} {o : Option V} {A : Around} {E : Value → Shared → Prop}
end
section
variable {X : Cx} {pins : List (Addr × Obj)} {σ : St} {H : Hp} {s : Shared} {a : Addr} {kvs : List (Key × V)} {k : Key} {u : Value} {A : Around} {E : Value → Shared → Prop}
end
section
variable {X : Cx} {o i e value : Expr} {pos pos' tpos : Pos} {td ty tv : TE}
end
section
variable {X : Cx} {pos : Pos}
end
structure M1 (X : Cx) (o : Expr) (m : Str) (apos : Pos) (e : Expr) (cpos : Pos) : Prop where
 base : attributeBase o m X.env (eval o X.env) = eval o X.env
 few : ((backTo cpos (starEach [e] X.env)).all (fun x => !x.1) && (backToKw cpos (keywordEach [] X.env)).all (fun x => x.1.isSome)
   && decide (([e] : List Expr).length + ([] : List Keyword).length + (if ([] : List Keyword).isEmpty then 0 else 1) < 30)) = true
 line : (apos.endLine == cpos.line) = true
 trees : backTo cpos (starEach [e] X.env) = [(false, eval e X.env)]
structure M2 (X : Cx) (o : Expr) (m : Str) (apos : Pos) (e f : Expr) (cpos : Pos) : Prop where
 base : attributeBase o m X.env (eval o X.env) = eval o X.env
 few : ((backTo cpos (starEach [e, f] X.env)).all (fun x => !x.1) && (backToKw cpos (keywordEach [] X.env)).all (fun x => x.1.isSome)
   && decide (([e, f] : List Expr).length + ([] : List Keyword).length + (if ([] : List Keyword).isEmpty then 0 else 1) < 30)) = true
 line : (apos.endLine == cpos.line) = true
 trees : backTo cpos (starEach [e, f] X.env) = [(false, eval e X.env), (false, eval f X.env)]
section
variable {X : Cx} {pins : List (Addr × Obj)} {σ : St} {H : Hp} {s : Shared} {a : Addr} {y d : V} {u r : Value} {o : Option V} {A : Around} {E : Value → Shared → Prop}
end
section
variable {X : Cx} {o e f : Expr} {apos cpos : Pos} {td ty tx : TE}
end
section
variable {X : Cx} {pins : List (Addr × Obj)} {σ : St} {H : Hp} {s : Shared} {a : Addr} {kvs : List (Key × V)} {A : Around} {E : Value → Shared → Prop}
end
section
variable {X : Cx} {pins : List (Addr × Obj)} {σ : St} {H : Hp} {s : Shared} {a : Addr} {y : V} {u : Value} {A : Around} {E : Value → Shared → Prop}
end
end L2
namespace L2
open PySem PySem.Spec PyProof.Rows
section
variable {X : Cx}
end
section
variable {κ : Type} [DecidableEq κ]
end
end L2
set_option Elab.async false
set_option linter.all false
set_option maxRecDepth 100000
set_option maxHeartbeats 4000000
namespace Stow
open PySem L2 PyProof.Rows
def CShl (i j : Int) : Prop := 0 ≤ j ∧ j ≤ 1000 ∧ i.natAbs < 2 ^ 220
section
variable {X : Cx}
theorem op_shlB : OpR X (binaryOp .LShift) (rI CShl fun i j => .int (i * 2 ^ j.toNat)) := opI fun i j _ _ _ _ _ hc q =>
 lshift_int hc.1 (by
   obtain ⟨h0, h1, h2⟩ := hc
   have := PyProof.Rows.intBits_le h2
   omega) q
end
theorem bitOr_one (n : Int) : Builtin.bitOr (n * 2) 1 = n * 2 + 1 := by
 rw [PyProof.Rows.bitOr_and]
 have e : Builtin.bitAnd (n * 2) 1 = (n * 2) % 2 := by rw [bitAnd_m1]
 rw [e]
 omega
end Stow
set_option Elab.async false
set_option linter.all false
set_option maxRecDepth 100000
set_option maxHeartbeats 4000000
namespace Stow
open PySem L2 PyProof.Rows
section
variable {prog : Program} {w : World} {A : Around} {R : Result → Shared → Prop} {s : Shared}
theorem comp_turns {elt tgt src : Expr} {cs : List Expr} {sc : Scope} {ps : Pos} {itv accv : Value} {ev : Env} (J : Nat → Shared → Prop)
   (step : ∀ k t, J k t → wpAny (model prog w) A (pyNext itv) (fun r t1 => match r with
     | none => R (.ok .next) t1
     | some x => wpAny (model prog w) A (letOwnedTupleGo tgt itv x) (fun _ t2 => wpAny (model prog w) A (assign tgt ev x) (fun _ t3 =>
         wpAny (model prog w) A (forIn cs true fun c r => if r = true then do let ok ← isTrue c ev (eval c ev); pure (ForInStep.yield ok) else pure (ForInStep.yield r)) (fun good t4 =>
           if good = true then wpAny (model prog w) A (eval elt ev) (fun y t5 => wpAny (model prog w) A (call (.builtin "list.append") [accv, y]) (fun _ t6 => ∃ j, j < k ∧ J j t6) (notedBy (model prog w) A ev fun e t' => R (.error e) t') t5) (notedBy (model prog w) A ev fun e t' => R (.error e) t') t4
           else ∃ j, j < k ∧ J j t4) (notedBy (model prog w) A ev fun e t' => R (.error e) t') t3) (notedBy (model prog w) A ev fun e t' => R (.error e) t') t2) (notedBy (model prog w) A ev fun e t' => R (.error e) t') t1) (notedBy (model prog w) A ev fun e t' => R (.error e) t') t)
   (k0 : Nat) (j0 : J k0 s) : codeAny (model prog w) A (.compLoop (.ListComp elt [⟨tgt, src, cs, 0⟩] sc ps) 0 itv accv ev) R s := by
 refine codeAny_loop rfl J (fun k t hJ => ?_) k0 j0
 show wpAny _ A ((compTurn (.ListComp elt [⟨tgt, src, cs, 0⟩] sc ps) 0 itv accv ev).onRaise (fun x => do noteFrame x ev; theTreesLotGoes x)) _ _ t
 refine wpAny_noted ?_
 rw [compTurn_list]
 refine wpAny_bind (wpAny_standAt (wpAny_bind (wpAny_mono (step k t hJ) (fun r t1 g1 => ?_) fun _ _ z => z)))
 cases r with
 | none => exact wpAny_pure g1
 | some x =>
   refine wpAny_bind (wpAny_mono g1 (fun _ t2 g2 => ?_) fun _ _ z => z)
   refine wpAny_bind (wpAny_mono g2 (fun _ t3 g3 => ?_) fun _ _ z => z)
   refine wpAny_bind (wpAny_mono g3 (fun good t4 g4 => ?_) fun _ _ z => z)
   cases good with
   | false => exact wpAny_pure ⟨rfl, g4⟩
   | true => exact wpAny_bind (wpAny_bind (wpAny_mono g4 (fun y t5 g5 => wpAny_bind (wpAny_mono g5 (fun _ t6 g6 => wpAny_pure (wpAny_pure ⟨rfl, g6⟩)) fun _ _ z => z)) fun _ _ z => z))
end
theorem Xfx {env : Env} : ∀ (names : List (Str × NameKind)) (acc : List (Str × Addr)), (∀ y ∈ names, y.2 = .free → ∃ c, env.cells.lookup y.1 = some c) → (∀ x c, acc.lookup x = some c → env.cells.lookup x = some c) →
   ∃ cl, (forIn names acc fun x r => (do let (name, kind) := x; if (kind == NameKind.free) = true then do let c ← cellOf env name; pure (ForInStep.yield ((name, c) :: r)) else pure (ForInStep.yield r)) : Sem (List (Str × Addr))) = pure cl ∧
     (∀ x c, cl.lookup x = some c → env.cells.lookup x = some c) ∧ (∀ y ∈ names, y.2 = .free → ∃ c, cl.lookup y.1 = some c) ∧ (∀ x c, acc.lookup x = some c → ∃ c', cl.lookup x = some c')
 | [], acc, _, ha => ⟨acc, by simp, ha, fun y hy => by simp at hy, fun x c e => ⟨c, e⟩⟩
 | (n, k) :: r, acc, h, ha => by
   by_cases hk : k = .free
   · obtain ⟨c, hc⟩ := h (n, k) List.mem_cons_self hk
     obtain ⟨cl, e1, e2, e3, e4⟩ := Xfx r ((n, c) :: acc) (fun y hy => h y (List.mem_cons_of_mem _ hy)) (fun x d e => by
       by_cases hx : x = n
       · subst hx
         rw [List.lookup_cons_self] at e
         cases e
         exact hc
       · rw [List.lookup_cons, show (x == n) = false by simpa using hx] at e
         exact ha x d e)
     refine ⟨cl, ?_, e2, fun y hy hf => ?_, fun x d e => ?_⟩
     · rw [List.forIn_cons]
       subst hk
       have ec : cellOf env n = pure c := by unfold cellOf; rw [hc]
       simp only [beq_self_eq_true, if_true, ec, pure_bind]
       exact e1
     · rcases List.mem_cons.mp hy with z | z
       · subst z
         exact e4 n c (by rw [List.lookup_cons_self])
       · exact e3 y z hf
     · by_cases hx : x = n
       · subst hx
         exact e4 x c (by rw [List.lookup_cons_self])
       · exact e4 x d (by rw [List.lookup_cons, show (x == n) = false by simpa using hx]; exact e)
   · obtain ⟨cl, e1, e2, e3, e4⟩ := Xfx r acc (fun y hy => h y (List.mem_cons_of_mem _ hy)) ha
     refine ⟨cl, ?_, e2, fun y hy hf => ?_, e4⟩
     · rw [List.forIn_cons]
       have : (k == NameKind.free) = false := by simpa using hk
       simp only [this, Bool.false_eq_true, if_false, pure_bind]
       exact e1
     · rcases List.mem_cons.mp hy with z | z
       · subst z
         exact absurd hf hk
       · exact e3 y z hf
theorem closure_ok {scope : Scope} {env : Env} (h : ∀ y ∈ scope.names, y.2 = .free → ∃ c, env.cells.lookup y.1 = some c) :
   ∃ cl, closureFor scope env = pure cl ∧ (∀ x c, cl.lookup x = some c → env.cells.lookup x = some c) ∧ (∀ y ∈ scope.names, y.2 = .free → ∃ c, cl.lookup y.1 = some c) := by
 obtain ⟨cl, e1, e2, e3, _⟩ := Xfx scope.names [] h (fun x c e => by simp at e)
 refine ⟨cl, ?_, e2, e3⟩
 unfold closureFor
 simp only [bind_pure] at *
 exact e1
section
variable {X : Cx}
abbrev Cx.blockG (X : Cx) (scope : Scope) (cl : List (Str × Addr)) (C : Addr) (N : List Str) (s₀ : Shared) (H₀ : Hp) (ex : List Addr) : Cx :=
 { X with N := N, s₀ := s₀, H₀ := H₀, env := compEnvC scope cl C X.env, outer := X.stack, stack := X.stack, ex := ex, fn := fun _ => false, pn := [], xe := fun _ _ => False }
theorem blockG_cx {pins : List (Addr × Obj)} {σ : L2.St} {H : Hp} {s : Shared} {scope : Scope} {cl : List (Str × Addr)} {C : Addr} {N : List Str} {fp : List Addr} (I : Inv X pins σ H s) (hk : scope.kind = .function) (hC : s.heap.objs.size ≤ C)
   (hcl : ∀ x c, cl.lookup x = some c → X.env.cells.lookup x = some c) (hhas : ∀ y, (relabel scope X.env).names.lookup y = some .cell ∨ (relabel scope X.env).names.lookup y = some .free → ∃ c, cl.lookup y = some c)
   (ho : ∀ b ∈ fp, ∃ o, s.heap.get? b = some o ∧ ∀ v, o.data ≠ .cell v) (hf : ∀ b ∈ fp, FpOk X pins H b) :
   (Cx.blockG X scope cl C N s H fp).Ok where
 mod := I.ok.mod
 kind := hk
 glob := I.ok.glob
 blt := I.ok.blt
 above := hC
 inj := fun x y c e1 e2 => I.ok.inj x y c (hcl x c e1) (hcl y c e2)
 has := fun y e => hhas y e
 cab := fun _ _ e => nomatch e
 hd := I.ok.hd
 frames := I.ok.frames
 stk := .inl rfl
 exf := fun b hb => ⟨fun z => by
   obtain ⟨o, e, _⟩ := ho b hb
   have := Nat.lt_of_lt_of_le (Heap.lt_size e) hC
   rw [z] at this
   exact Nat.lt_irrefl _ this, fun x c e => (hf b hb).2.2.2.2.1 x c (hcl x c e)⟩
 bs := I.bs
 bsz := Nat.le_trans I.ok.bsz I.sz
 noex := fun b o e hb => by
   rcases (hf b hb).2.2.2.1 with z | z
   · exact I.ok.noex b o e z
   · exact absurd (Nat.lt_of_lt_of_le (Heap.lt_size (I.ok.bs b o e).1) z) (Nat.lt_irrefl _)
 exfs := fun b hb z => by
   rcases List.mem_cons.mp (I.stkSub b z) with e | e
   · exact (hf b hb).2.1 e
   · exact (hf b hb).2.2.1 e
 funs := I.stack
 frf := I.stkFree
def CompH (n : Nat) (fs : L2.St) (J : It) (g : TG) (tt : TT) (te : TE) (Q : VK) (H1 : Hp) : Prop := ∀ D, H1 D = none → ∃ W : Nat → Nat → List V → Hp → Prop, (∃ m, W 0 m [] (upd H1 D (.lst []))) ∧ ∀ i m ys H2, W i m ys H2 →
 (J.stop i H2 ∧ Q (.ref D) H2) ∨ (J.go i H2 ∧ ∀ x H3, J.yld i H2 x H3 → ∀ τ : L2.St, τ.length = n → g x (τ ++ fs) H3 fun σ1 H4 => (∃ τ' : L2.St, τ'.length = n ∧ σ1 = τ' ++ fs) ∧ tt σ1 H4 fun b H5 =>
   if b = true then te σ1 H5 fun y H6 => H6 D = some (.lst ys) ∧ ys.length < sizeLine ∧ ∃ m', m' < m ∧ W (i + 1) m' (ys ++ [y]) (upd H6 D (.lst (ys ++ [y]))) else ∃ m', m' < m ∧ W (i + 1) m' ys H5)
def tCompG (n : Nat) (is : List Nat) (wi : TI) (g : TG) (tt : TT) (te : TE) : TE := fun σ H Q => wi σ H fun J H1 => CompH n (is.map fun k => σ.getD k none) J g tt te Q H1
def Caught (X : Cx) (scope : Scope) (F : List Str) (is : List Nat) : Prop := F.length = is.length ∧ ∀ (j : Nat) (y : Str) (k : Nat), F[j]? = some y → is[j]? = some k → X.N[k]? = some y ∧ X.env.kindOf y = some .cell ∧ (relabel scope X.env).names.lookup y = some .cell
theorem comp_blockG {elt iter tg : Expr} {pos : Pos} {ifs : List Expr} {scope : Scope} {O F : List Str} {is : List Nat} {cl : List (Str × Addr)} {g : TG} {tt : TT} {te : TE} {pins : List (Addr × Obj)} {σ : L2.St} {s2 : Shared} {H2 : Hp} {it : Addr} {fp : List Addr} {tn : Nat → Heap → Prop} {J : It} {Q : VK} {RR : Value → Addr → Result → Shared → Prop}
   (hc : X.calm = true) (hkind : scope.kind = .function) (hcell : ∀ y ∈ scope.names, y.2 ≠ .cell)
   (hcl : ∀ x c, cl.lookup x = some c → X.env.cells.lookup x = some c) (hhas : ∀ y, (relabel scope X.env).names.lookup y = some .cell ∨ (relabel scope X.env).names.lookup y = some .free → ∃ c, cl.lookup y = some c) (hF : Caught X scope F is)
   (hG : ∀ cl C s₀ H₀ ex, PG (Cx.blockG X scope cl C (O ++ F) s₀ H₀ ex) tg g) (hT : ∀ cl C s₀ H₀ ex, PTs (Cx.blockG X scope cl C (O ++ F) s₀ H₀ ex) ifs tt) (hE : ∀ cl C s₀ H₀ ex, PE (Cx.blockG X scope cl C (O ++ F) s₀ H₀ ex) elt te)
   (I2 : Inv X pins σ H2 s2) (T : Turn X.prog X.w X.K tg J fp it tn) (st2 : tn 0 s2.heap) (f2 : ∀ b ∈ fp, FpOk X pins H2 b)
   (h : CompH O.length (is.map fun k => σ.getD k none) J g tt te Q H2)
   (hRR : ∀ D C H' s', Inv X pins σ H' s' → FpOk X pins H' C → (∃ m, s'.heap.Ns C m) → Q (.ref D) H' → RR (.ref D) C (.ok .next) s') :
   wpAny (model X.prog X.w) X.A (newList []) (fun acc s₃ => wpAny (model X.prog X.w) X.A (newFunctionEnv scope X.env.globals cl [] X.env.qual none .none (some X.env)) (fun cenv s₄ =>
     codeAny (model X.prog X.w) X.A (.compStart (.ListComp elt [⟨tg, iter, ifs, 0⟩] scope pos) 0 (.ref it) acc { cenv with scope := relabel scope X.env }) (RR acc cenv.locals) s₄) X.xe s₃) X.xe s2 := by
 refine wpAny_newObj_type (wpAny_newFunctionEnv hcell (by intro y hy; simp at hy) (fun h₁ hns₁ hsb₁ => ?_) hkind)
 dsimp only at hns₁ hsb₁ ⊢
 generalize hG0 : s2.heap.push { cls := .type "list", dict := none, data := .seq ([] : List Value).toArray } = G at hns₁ hsb₁ ⊢
 have hCs : G.objs.size = s2.heap.objs.size + 1 := by rw [← hG0, Heap.size_push]
 have hDC : s2.heap.objs.size ≠ G.objs.size := by rw [hCs]; exact Nat.ne_of_lt (Nat.lt_succ_self _)
 have hCle : s2.heap.objs.size ≤ G.objs.size := by rw [hCs]; exact Nat.le_succ _
 have old : ∀ b o, s2.heap.get? b = some o → h₁.get? b = some o := fun b o e => hsb₁.extBut b o (by rw [hCs]; exact Nat.ne_of_lt (Nat.lt_succ_of_lt (Heap.lt_size e))) (Heap.get?_push_of_some _ (hG0 ▸ Heap.get?_push_of_some _ e))
 have eD : h₁.get? s2.heap.objs.size = some { cls := .type "list", dict := none, data := .seq ([] : List Value).toArray } := hsb₁.extBut _ _ hDC (Heap.get?_push_of_some _ (hG0 ▸ Heap.get?_push_size _ rfl))
 have nD : H2 s2.heap.objs.size = none := I2.hok.fresh (Nat.le_refl _)
 have nC : H2 G.objs.size = none := I2.hok.fresh hCle
 obtain ⟨W, ⟨m0, w0⟩, turn⟩ := h s2.heap.objs.size nD
 generalize efs : (is.map fun k => σ.getD k none) = fs at turn
 have fre : ∀ b ∈ fp, upd H2 s2.heap.objs.size (.lst []) b = none := fun b hb => by
   obtain ⟨o, e, _⟩ := T.obj _ _ st2 b hb
   rw [Xav (Nat.ne_of_lt (Heap.lt_size e))]
   exact (f2 b hb).1
 have loop : ∀ s4 : Shared, s4 = { s2 with heap := h₁, toks := s2.toks + ([] : List (Str × Value)).length } →
     codeAny (model X.prog X.w) X.A (.compLoop (.ListComp elt [⟨tg, iter, ifs, 0⟩] scope pos) 0 (.ref it) (.ref s2.heap.objs.size) (compEnvC scope cl G.objs.size X.env)) (RR (.ref s2.heap.objs.size) G.objs.size) s4 := by
   rintro s4 rfl
   have ok := blockG_cx (N := O ++ F) I2 hkind hCle hcl hhas (T.obj _ _ st2) f2
   have IB : Inv (Cx.blockG X scope cl G.objs.size (O ++ F) s2 H2 fp) [] (List.replicate O.length none ++ fs) (upd H2 s2.heap.objs.size (.lst [])) { s2 with heap := h₁, toks := s2.toks + ([] : List (Str × Value)).length } := by
     refine ⟨ok, rfl, I2.bare, Un.laid old (Nat.le_refl _) nD, ⟨_, hns₁, fun i y v e1 e2 _ => ?_⟩, (fun x c e => ?_), ?_, (fun x c e => ?_), (fun p hp => nomatch hp), I2.hok.laid old (Nat.le_refl _) ⟨Nat.zero_le _, [], 0, .nil, eD⟩, ?_⟩
     · have e1 : (O ++ F)[i]? = some y := e1
       by_cases hi : i < O.length
       · rw [List.getElem?_append_left (by rw [List.length_replicate]; exact hi), List.getElem?_replicate, if_pos hi] at e2
         cases e2
       · rw [List.getElem?_append_right (by omega)] at e1
         rw [List.getElem?_append_right (by rw [List.length_replicate]; omega), List.length_replicate, ← efs, List.getElem?_map] at e2
         obtain ⟨k, ek, ev⟩ := Option.map_eq_some_iff.mp e2
         obtain ⟨g1, g2, g3⟩ := hF.2 _ _ _ e1 ek
         have es : σ[k]? = some (some v) := by
           rw [List.getD_eq_getElem?_getD] at ev
           cases q : σ[k]? with
           | none => rw [q] at ev; cases ev
           | some z => rw [q] at ev; exact congrArg some ev
         obtain ⟨m, hm, hl⟩ := I2.loc
         obtain ⟨u, ru, lk⟩ := hl k y v g1 es (.inr (.inl g2))
         refine ⟨u, ru, .inr ⟨.inl g3, ?_⟩⟩
         rcases lk with ⟨z, _⟩ | ⟨_, c, c1, o, c2, c3⟩
         · rw [g2] at z; cases z
         · obtain ⟨c', e'⟩ := hhas y (.inl g3)
           have := hcl y c' e'
           rw [c1] at this
           cases this
           exact ⟨c, e', o, old c o c2, c3⟩
     · obtain ⟨v, o, c2, c3⟩ := I2.cell x c (hcl x c e)
       exact ⟨v, o, old c o c2, c3⟩
     · show upd H2 s2.heap.objs.size (.lst []) G.objs.size = none
       rw [Xav (Ne.symm hDC)]
       exact nC
     · obtain ⟨v, o, c2, c3⟩ := I2.cell x c (hcl x c e)
       show upd H2 s2.heap.objs.size (.lst []) c = none
       rw [Xav (Nat.ne_of_lt (Heap.lt_size c2))]
       exact I2.freeC x c (hcl x c e)
     · show (List.replicate O.length none ++ fs).length = (O ++ F).length
       rw [List.length_append, List.length_append, List.length_replicate, ← efs, List.length_map, hF.1]
   have stat : ∀ {H' : Hp}, (∀ b ∈ fp, H' b = none) → ∀ b ∈ fp, FpOk (Cx.blockG X scope cl G.objs.size (O ++ F) s2 H2 fp) [] H' b := fun hn b hb =>
     ⟨hn b hb, (ok.exf b hb).1, ok.exfs b hb, .inl hb, (ok.exf b hb).2, (fun p hp => nomatch hp)⟩
   refine comp_turns (fun n s' => ∃ i ys τ H', Inv (Cx.blockG X scope cl G.objs.size (O ++ F) s2 H2 fp) [] (τ ++ fs) H' s' ∧ τ.length = O.length ∧ tn i s'.heap ∧ (∀ b ∈ fp, H' b = none) ∧ W i n ys H') ?_ m0
     ⟨0, [], _, _, IB, List.length_replicate, T.keep _ _ _ st2 fun b _ o e => old b o e, fre, w0⟩
   rintro n s3 ⟨i, ys, τ, H3, I3, hτ, st3, fr3, w3⟩
   rcases turn i n ys H3 w3 with ⟨stop, q⟩ | ⟨go, step⟩
   · refine wpAny_mono (T.done (Cx.blockG X scope cl G.objs.size (O ++ F) s2 H2 fp) rfl rfl rfl hc i [] s3 (τ ++ fs) H3 (fun _ _ => False) I3 (stat fr3) st3 stop) (fun r s4 ⟨hr, I4⟩ => ?_) (fun _ _ z => z.elim)
     subst hr
     obtain ⟨m, hn, _⟩ := I4.loc
     refine hRR _ G.objs.size H3 s4 (I2.call' (ch := fp) I4.os I4.base I4.hok I4.bare fun b hb => ?_) (I2.fpOk hCle I4.free) ⟨m, hn⟩ q
     obtain ⟨g0, g1, g2, g3, g4, g5⟩ := f2 b hb
     exact ⟨g3, g1, g4, g5⟩
   · refine wpAny_mono (T.item (Cx.blockG X scope cl G.objs.size (O ++ F) s2 H2 fp) rfl rfl rfl hc i [] s3 (τ ++ fs) H3 (fun _ _ => False) I3 (stat fr3) st3 go) (fun r s4 ⟨u, hr, h4⟩ => ?_) (fun _ _ z => z.elim)
     subst hr
     refine wpAny_mono h4 (fun _ s5 ⟨v, H5, I5, r5, y5, st5, fr5⟩ => ?_) (fun _ _ z => z.elim)
     have I5' := I5.pinned (stat fr5) (T.obj _ _ st5)
     refine wpAny_mono (hG _ _ _ _ _ _ s5 (τ ++ fs) H5 v u _ I5' r5 (step v H5 y5 τ hτ)) (fun _ s6 ⟨σ6, H6, I6, ⟨τ', hτ', e6⟩, q6⟩ => ?_) (fun _ _ z => z.elim)
     subst e6
     have again : ∀ {s7 : Shared} {H7 : Hp} {ys' : List V} {m' : Nat}, Inv (Cx.blockG X scope cl G.objs.size (O ++ F) s2 H2 fp) ([] ++ pinsAt fp s5.heap) (τ' ++ fs) H7 s7 → m' < n → W (i + 1) m' ys' H7 →
         ∃ m, m < n ∧ ∃ i ys τ H', Inv (Cx.blockG X scope cl G.objs.size (O ++ F) s2 H2 fp) [] (τ ++ fs) H' s7 ∧ τ.length = O.length ∧ tn i s7.heap ∧ (∀ b ∈ fp, H' b = none) ∧ W i m ys H' := fun {s7 H7 ys' m'} I7 hm w7 => by
       refine ⟨m', hm, i + 1, ys', τ', H7, I7.unpinned, hτ', T.keep _ _ _ st5 fun b hb o e => (I7.pin (b, o) (List.mem_append_right _ (List.mem_append_right _ (Xez hb e)))).1, fun b hb => ?_, w7⟩
       obtain ⟨o, e, _⟩ := T.obj _ _ st5 b hb
       exact (I7.pin (b, o) (List.mem_append_right _ (List.mem_append_right _ (Xez hb e)))).2.1
     refine wpAny_mono (hT _ _ _ _ _ _ s6 (τ' ++ fs) H6 _ I6 q6) (fun b s7 ⟨H7, I7, q7⟩ => ?_) (fun _ _ z => z.elim)
     cases b with
     | false =>
       obtain ⟨m', hm, w7⟩ := q7
       exact again I7 hm w7
     | true =>
       rw [if_pos rfl]
       refine wpAny_mono (hE _ _ _ _ _ _ s7 (τ' ++ fs) H7 _ I7 q7) (fun y' s8 ⟨y, H8, I8, ry, hD, hz, m', hm, w8⟩ => ?_) (fun _ _ z => z.elim)
       refine wpAny_mono (Xcb (X := Cx.blockG X scope cl G.objs.size (O ++ F) s2 H2 fp) _ s8 (τ' ++ fs) H8 (.ref s2.heap.objs.size) [y] (.ref s2.heap.objs.size) [y'] (fun _ H9 => H9 = upd H8 s2.heap.objs.size (.lst (ys ++ [y]))) I8 rfl (.cons ry .nil) ⟨s2.heap.objs.size, ys, y, rfl, rfl, hD, hz, rfl⟩) (fun _ s9 ⟨_, H9, I9, _, e9⟩ => ?_) (fun _ _ z => z.elim)
       subst e9
       exact again I9 hm w8
 exact codeAny_compStart_list (loop _ rfl) (T.self _ 0 _ _ _ (T.keep _ _ _ st2 fun b _ o e => old b o e) (loop _ rfl))
theorem pe_compG {elt iter tg : Expr} {pos : Pos} {ifs : List Expr} {scope : Scope} {wi : TI} {g : TG} {tt : TT} {te : TE} (O F : List Str) (is : List Nat) (hc : X.calm = true) (hi : PI X tg iter wi)
   (hG : ∀ cl C s₀ H₀ ex, PG (Cx.blockG X scope cl C (O ++ F) s₀ H₀ ex) tg g) (hT : ∀ cl C s₀ H₀ ex, PTs (Cx.blockG X scope cl C (O ++ F) s₀ H₀ ex) ifs tt) (hE : ∀ cl C s₀ H₀ ex, PE (Cx.blockG X scope cl C (O ++ F) s₀ H₀ ex) elt te)
   (hF : Caught X scope F is) (hfc : ∀ y ∈ scope.names, y.2 = .free → X.env.kindOf y.1 = some .cell) (hrl : ∀ y, (relabel scope X.env).names.lookup y = some .cell ∨ (relabel scope X.env).names.lookup y = some .free → ∃ z ∈ scope.names, z.1 = y ∧ z.2 = .free)
   (hkind : scope.kind = .function := by rfl) (hcell : ∀ y ∈ scope.names, y.2 ≠ .cell := by decide +kernel)
   (hnames : ∀ y ∈ scope.names, y.2 = .local → scope.names.lookup y.1 = some .local := by decide +kernel) (hs : ∀ y, foldedSetIterable iter X.env y = pure y := by intro _; rfl) :
   PE X (.ListComp elt [⟨tg, iter, ifs, 0⟩] scope pos) (tCompG O.length is wi g tt te) := by
 intro pins s σ H Q I h
 rw [eval_ListComp]
 obtain ⟨cl, hcf, hcl, hca⟩ := closure_ok (scope := scope) (env := X.env) fun y hy hf => I.ok.has y.1 (.inl (hfc y hy hf))
 refine wpAny_comprehension_free (use := none) (cl := cl) rfl hs hcf hkind hnames (wpAny_mono (hi pins s σ H _ I h) (fun v s1 h1 => wpAny_mono h1 (fun itv s2 h2 => ?_) fun _ _ e => e) fun _ _ e => e)
 obtain ⟨it, fp, tn, J, H2, e, I2, T, st2, f2, R2⟩ := h2
 subst e
 refine comp_blockG (O := O) (F := F) (is := is) (Q := Q) (RR := fun acc C => compPost (model X.prog X.w) X.A X.xe none (EP X pins σ Q) acc C) hc hkind hcell hcl (fun y hy => ?_) hF hG hT hE I2 T st2 f2 R2 ?_
 · obtain ⟨z, hz, e1, e2⟩ := hrl y hy
   subst e1
   exact hca z hz e2
 · rintro D C H' s' I' f' ⟨m, hn⟩ q
   obtain ⟨f0, f1, f2', f3, f4, f5⟩ := f'
   refine ⟨m, hn, fun h' sb => ⟨.ref D, H', I'.turned (t' := s'.toks) (fun b o hb e => (sb.2 b hb).trans e) f0 f1 f3 f4 f5, rfl, q⟩⟩
theorem ps_setCompG {elt iter tg : Expr} {y : Str} {py pos spos : Pos} {ifs : List Expr} {scope : Scope} {wi : TI} {g : TG} {tt : TT} {te : TE} {i : Nat} (O F : List Str) (is : List Nat) (hN : X.N.Nodup) (hi0 : X.N[i]? = some y) (hy : Loc X.env.scope y) (hc : X.calm = true) (hi : PI X tg iter wi)
   (hG : ∀ cl C s₀ H₀ ex, PG (Cx.blockG X scope cl C (O ++ F) s₀ H₀ ex) tg g) (hT : ∀ cl C s₀ H₀ ex, PTs (Cx.blockG X scope cl C (O ++ F) s₀ H₀ ex) ifs tt) (hE : ∀ cl C s₀ H₀ ex, PE (Cx.blockG X scope cl C (O ++ F) s₀ H₀ ex) elt te)
   (hF : Caught X scope F is) (hfc : ∀ y ∈ scope.names, y.2 = .free → X.env.kindOf y.1 = some .cell) (hrl : ∀ y, (relabel scope X.env).names.lookup y = some .cell ∨ (relabel scope X.env).names.lookup y = some .free → ∃ z ∈ scope.names, z.1 = y ∧ z.2 = .free)
   (hsw : swapsWith (.ListComp elt [⟨tg, iter, ifs, 0⟩] scope pos) (some (.Name y py)) spos.line X.env = pure true := by rfl)
   (hkind : scope.kind = .function := by rfl) (hcell : ∀ y ∈ scope.names, y.2 ≠ .cell := by decide +kernel)
   (hnames : ∀ y ∈ scope.names, y.2 = .local → scope.names.lookup y.1 = some .local := by decide +kernel) (hs : ∀ y, foldedSetIterable iter X.env y = pure y := by intro _; rfl)
   (hf : X.fn y = true ∨ X.env.scope.names.lookup y = some .local := by first | exact .inl rfl | exact .inr rfl | assumption) :
   PS X (.Assign [.Name y py] (.ListComp elt [⟨tg, iter, ifs, 0⟩] scope pos) spos) (tAsg (tCompG O.length is wi g tt te) (gName i)) := by
 intro pins s σ H D I h
 rw [exec_Assign_Name_used _ _ _ _ hsw]
 obtain ⟨cl, hcf, hcl, hca⟩ := closure_ok (scope := scope) (env := X.env) fun y hy hf => I.ok.has y.1 (.inl (hfc y hy hf))
 refine wpAny_bind (wpAny_standAt (wpAny_bind ?_))
 show wpAny _ X.A (do let _ ← comprehension (.ListComp elt [⟨tg, iter, ifs, 0⟩] scope pos) scope X.env _ (newList []) false (eval iter X.env) (some (assign (.Name y py) X.env))) _ _ s
 refine wpAny_bind (wpAny_mono (wpAny_comprehension_free (use := some (assign (.Name y py) X.env)) (cl := cl) (Q := fun _ s' => SP X pins D .next s') rfl hs hcf hkind hnames
   (wpAny_mono (hi pins s σ H _ I h) (fun v s1 h1 => wpAny_mono h1 (fun itv s2 h2 => ?_) fun _ _ e => e) fun _ _ e => e)) (fun _ s' hq => wpAny_pure (wpAny_pure hq)) fun _ _ e => e)
 obtain ⟨it, fp, tn, J, H2, e, I2, T, st2, f2, R2⟩ := h2
 subst e
 refine comp_blockG (O := O) (F := F) (is := is) (Q := fun v H1 => gName i v σ H1 D.nx) (RR := fun acc C => compPost (model X.prog X.w) X.A X.xe (some (assign (.Name y py) X.env)) (fun _ s' => SP X pins D .next s') acc C) hc hkind hcell hcl (fun y hy => ?_) hF hG hT hE I2 T st2 f2 R2 ?_
 · obtain ⟨z, hz, e1, e2⟩ := hrl y hy
   subst e1
   exact hca z hz e2
 · rintro D' C H' s' I' f' ⟨m, hn⟩ q
   obtain ⟨f0, f1, f2', f3, f4, f5⟩ := f'
   show wpAny _ X.A (assign (.Name y py) X.env (.ref D')) _ _ _
   refine wpAny_assign_Name (store_ok2 I' hN hi0 hy (v := .ref D') rfl (fun s'' I'' ⟨a, sb, ha⟩ => ?_) hf)
   have ne : C ≠ a := by
     rcases ha with e | e
     · rw [e]; exact f1
     · exact fun z => f4 _ _ e z.symm
   exact ⟨m, hn.sameBut sb ne, fun h' sb' => ⟨_, H', I''.turned (t' := s''.toks) (fun b o hb e => (sb'.2 b hb).trans e) f0 f1 f3 f4 f5, q⟩⟩
theorem Xes {K : PySem.W.Frag} (hK : X.K = K) : IxR X (rIxT K) := hK ▸ Xap
theorem pg_tupK {K : PySem.W.Frag} {es : List Expr} {k : Nat} {t : TGs} {n : Nat} {pos : Pos} (hK : X.K = K) (hc : X.calm = true) (h : PGs X es t)
   (hn : (assignEach es X.env).length = n := by rfl) (hst : (assignEach es X.env).findIdx? (·.1) = none := by rfl) : PG X (.Tuple es k pos) (gTup K n t) := hK ▸ pg_tup hc h hn hst
theorem pt_truthK {K : PySem.W.Frag} {a : Expr} {ta : TE} (hK : X.K = K) (ha : PE X a ta) (he : ∀ whole, isTrue a X.env whole = (do let v ← whole; standAt a.pos; holding [v] (truthy v))) : PT X a (fun σ H Q => ta σ H fun x H' => ∃ k, TruV K x H' k ∧ Q k H') := by
 subst hK
 exact Xbm ha he
theorem Xdl {scope : Scope} {env : Env} {y : Str} (hcell : ∀ z ∈ scope.names, z.2 ≠ .cell) (h : (relabel scope env).names.lookup y = some .cell ∨ (relabel scope env).names.lookup y = some .free) : ∃ z ∈ scope.names, z.1 = y ∧ z.2 = .free := by
 have key : ∀ (l : List (Str × NameKind)) (k : NameKind), l.lookup y = some k → (y, k) ∈ l := by
   intro l k
   induction l with
   | nil => intro e; cases e
   | cons p r ih =>
     intro e
     obtain ⟨n, k'⟩ := p
     rw [List.lookup_cons] at e
     cases hb : y == n with
     | true =>
       rw [hb] at e
       cases e
       rw [eq_of_beq hb]
       exact List.mem_cons_self
     | false => rw [hb] at e; exact List.mem_cons_of_mem _ (ih e)
 have fin : ∀ k, (relabel scope env).names.lookup y = some k → k = .cell ∨ k = .free → ∃ z ∈ scope.names, z.1 = y ∧ z.2 = .free := fun k e hk => by
   obtain ⟨z, hz, ez⟩ := List.mem_map.mp (key _ _ e)
   obtain ⟨n, k0⟩ := z
   dsimp only at ez
   split at ez
   · rename_i hc
     simp only [Bool.and_eq_true, beq_iff_eq] at hc
     cases ez
     exact ⟨(y, k0), hz, rfl, hc.1.1⟩
   · cases ez
     rcases hk with rfl | rfl
     · exact absurd rfl (hcell _ hz)
     · exact ⟨_, hz, rfl, rfl⟩
 rcases h with h | h
 · exact fin _ h (.inl rfl)
 · exact fin _ h (.inr rfl)
theorem caught_nil {scope : Scope} : Caught X scope [] [] := ⟨rfl, fun j y k e => by simp at e⟩
theorem Xfy {scope : Scope} {y : Str} {k : Nat} (h1 : X.N[k]? = some y) (h2 : X.env.kindOf y = some .cell) (h3 : (relabel scope X.env).names.lookup y = some .cell) : Caught X scope [y] [k] := ⟨rfl, fun j z i e1 e2 => by
 cases j with
 | zero =>
   have g1 : y = z := by simpa using e1
   have g2 : k = i := by simpa using e2
   subst g1 g2
   exact ⟨h1, h2, h3⟩
 | succ j => simp at e1⟩
theorem free_one {scope : Scope} {n : Str} (h : ∀ y ∈ scope.names, y.2 = .free → y.1 = n) (k : X.env.kindOf n = some .cell) : ∀ y ∈ scope.names, y.2 = .free → X.env.kindOf y.1 = some .cell := fun y hy hf => by rw [h y hy hf]; exact k
theorem Xff {elt iter tg : Expr} {y : Str} {py pos spos : Pos} {ifs : List Expr} {scope : Scope} {wi : TI} {g : TG} {tt : TT} {te : TE} {i : Nat} (O : List Str) (hN : X.N.Nodup) (hi0 : X.N[i]? = some y) (hy : Loc X.env.scope y) (hc : X.calm = true) (hi : PI X tg iter wi)
   (hG : ∀ cl C s₀ H₀ ex, PG (Cx.blockG X scope cl C (O ++ []) s₀ H₀ ex) tg g) (hT : ∀ cl C s₀ H₀ ex, PTs (Cx.blockG X scope cl C (O ++ []) s₀ H₀ ex) ifs tt) (hE : ∀ cl C s₀ H₀ ex, PE (Cx.blockG X scope cl C (O ++ []) s₀ H₀ ex) elt te)
   (hsw : swapsWith (.ListComp elt [⟨tg, iter, ifs, 0⟩] scope pos) (some (.Name y py)) spos.line X.env = pure true := by rfl)
   (hfree : ∀ y ∈ scope.names, y.2 ≠ .free := by decide +kernel) (hkind : scope.kind = .function := by rfl) (hcell : ∀ y ∈ scope.names, y.2 ≠ .cell := by decide +kernel)
   (hnames : ∀ y ∈ scope.names, y.2 = .local → scope.names.lookup y.1 = some .local := by decide +kernel) (hs : ∀ y, foldedSetIterable iter X.env y = pure y := by intro _; rfl)
   (hf : X.fn y = true ∨ X.env.scope.names.lookup y = some .local := by first | exact .inl rfl | exact .inr rfl | assumption) :
   PS X (.Assign [.Name y py] (.ListComp elt [⟨tg, iter, ifs, 0⟩] scope pos) spos) (tAsg (tCompG O.length [] wi g tt te) (gName i)) :=
 ps_setCompG O [] [] hN hi0 hy hc hi hG hT hE caught_nil (fun y hy hf => absurd hf (hfree y hy)) (fun y h => Xdl hcell h) hsw hkind hcell hnames hs hf
end
section
variable {K : PySem.W.Frag} {σ : L2.St} {H : Hp} {Q : VK}
theorem r_compG {n : Nat} {is : List Nat} {wi : TI} {g : TG} {tt : TT} {te : TE} (h : wi σ H fun J H1 => CompH n (is.map fun k => σ.getD k none) J g tt te Q H1) : tCompG n is wi g tt te σ H Q := h
def Nx (n : Nat) (Pv : Addr → Nat → List V → Hp → Prop) (D : Addr) (i : Nat) (ys : List V) (H2 : Hp) : Prop := ∃ m', m' < n - i ∧ m' = n - (i + 1) ∧ i + 1 ≤ n ∧ Pv D (i + 1) ys H2
theorem nx_mk {n : Nat} {Pv : Addr → Nat → List V → Hp → Prop} {D : Addr} {i : Nat} {ys : List V} {H2 : Hp} (hi : i < n) (p : Pv D (i + 1) ys H2) : Nx n Pv D i ys H2 := ⟨_, by omega, rfl, hi, p⟩
theorem Xde {a : Addr} {xs : List V} {n : Nat} {fs : L2.St} {g : TG} {tt : TT} {te : TE} (Pv : Addr → Nat → List V → Hp → Prop) (h0 : ∀ D, H D = none → Pv D 0 [] (upd H D (.lst [])))
   (hl : ∀ D i ys H2, i ≤ xs.length → Pv D i ys H2 → SqL K H2 a xs)
   (hs : ∀ D i x ys H2, H D = none → xs[i]? = some x → Pv D i ys H2 → ∀ τ : L2.St, τ.length = n → g x (τ ++ fs) H2 fun σ1 H4 => (∃ τ' : L2.St, τ'.length = n ∧ σ1 = τ' ++ fs) ∧ tt σ1 H4 fun b H5 =>
     if b = true then te σ1 H5 fun y H6 => H6 D = some (.lst ys) ∧ ys.length < sizeLine ∧ Nx xs.length Pv D i (ys ++ [y]) (upd H6 D (.lst (ys ++ [y]))) else Nx xs.length Pv D i ys H5)
   (hd : ∀ D ys H2, H D = none → Pv D xs.length ys H2 → Q (.ref D) H2) : CompH n fs (Itl K a) g tt te Q H := by
 intro D hD
 refine ⟨fun i m ys H2 => m = xs.length - i ∧ i ≤ xs.length ∧ Pv D i ys H2, ⟨_, rfl, Nat.zero_le _, h0 D hD⟩, ?_⟩
 rintro i m ys H2 ⟨rfl, hi, p⟩
 have q := hl D i ys H2 hi p
 by_cases hlt : i < xs.length
 · refine .inr ⟨⟨xs, xs[i], q, by simp [hlt]⟩, fun x H3 y τ hτ => ?_⟩
   obtain ⟨e, y⟩ := y
   subst e
   have ex := y xs q
   exact hs D i x ys _ hD ex p τ hτ
 · have e : i = xs.length := by omega
   subst e
   exact .inl ⟨⟨xs, q, Nat.le_refl _⟩, hd D ys H2 hD p⟩
end
end Stow
namespace Stow
open PySem L2 PyProof.Rows
section
variable {prog : Program} {w : World} {A : Around} {R : Result → Shared → Prop} {I : Addr} {fp wr : List Addr} {n : Nat} {P : Nat → Value → Prop} {St : Nat → Heap → Prop}
def CmpKp (prog : Program) (w : World) (A : Around) (Kp : Heap → Prop) (P : Nat → Value → Prop) (bt : Nat → Nat → Bool) : Prop :=
 ∀ i j x y (t : Shared) (Q : Value → Shared → Prop) (E : Value → Shared → Prop), Kp t.heap → P i x → P j y → Q (.bool (bt i j)) t → wpAny (model prog w) A (richCompare .Lt x y) Q E t
theorem min_turns (W : Walks prog w A.in1 I fp wr n P St) (bt : Nat → Nat → Bool) (Kp : Heap → Prop) (cmp : CmpKp prog w A.in1 Kp P bt) (S : Addr) (sf : S ∉ fp)
   (kpk : ∀ h h', Kp h → (∀ b o, b ∉ wr → b ≠ S → h.get? b = some o → h'.get? b = some o) → Kp h') :
   ∀ (k j : Nat) (t : Shared) (vb : Value) (c : Nat), n - (j + 1) = k → j + 1 ≤ n → St (j + 1) t.heap → Kp t.heap → P (argBest bt j) vb →
   t.heap.get? S = some { cls := .type "list", dict := none, data := .seq #[vb, vb] c, slots := #[] } →
   (∀ v h' tk, P (argBest bt (n - 1)) v → (∀ b o, b ∉ wr → b ≠ S → t.heap.get? b = some o → h'.get? b = some o) → R (.ok (.ret v)) { t with heap := h', toks := tk }) →
   codeAny (model prog w) A (.builtin "min.loop" ⟨[.ref I, .none, .ref S], []⟩) R t := by
 have sw : S ∉ wr := fun h => sf (W.sub _ h)
 have nm : (toString "min" ++ toString ".loop" : String) = "min.loop" := by decide
 intro k
 induction k with
 | zero =>
   intro j t vb c hk hj st kp pb hS fin
   have en : j + 1 = n := by omega
   refine codeAny_builtin F.entry_min_loop ?_
   rw [Around.under_plainId F.plain_min_loop _]
   show wpAny _ A.in1 (seqItems? (.ref S) >>= _) _ _ t
   refine wpAny_bind (wpAny_seqItems hS rfl ?_)
   show wpAny _ A.in1 (tryCatch (pyNext (.ref I)) _ >>= _) _ _ t
   refine wpAny_bind (wpAny_tryCatch (W.done t _ _ (en ▸ st) fun h' tk kk => ?_))
   have hS1 := kk S _ sw hS
   show wpAny _ A.in1 (updateSeq S (fun _ => #[]) >>= _) _ _ _
   refine wpAny_bind ?_
   refine wpAny_updateSeq hS1 rfl (wpAny_bind (wpAny_letGo (wpAny_pure ?_)))
   exact fin vb _ tk (by rw [← en]; exact pb) fun b o bw bS e => (Heap.get?_update_other _ _ (Ne.symm bS)).trans (kk b o bw e)
 | succ k ih =>
   intro j t vb c hk hj st kp pb hS fin
   have lt : j + 1 < n := by omega
   refine codeAny_builtin F.entry_min_loop ?_
   rw [Around.under_plainId F.plain_min_loop _]
   show wpAny _ A.in1 (seqItems? (.ref S) >>= _) _ _ t
   refine wpAny_bind (wpAny_seqItems hS rfl ?_)
   show wpAny _ A.in1 (tryCatch (pyNext (.ref I)) _ >>= _) _ _ t
   refine wpAny_bind (wpAny_tryCatch (W.item (j + 1) t _ _ lt st fun v h' tk pv st1 kk => ?_))
   have hS1 := kk S _ sw hS
   have kp1 : Kp h' := kpk _ _ kp fun b o bw _ e => kk b o bw e
   show wpAny _ A.in1 (tryCatch (holding [v, v] (richCompare .Lt v vb >>= _)) _ >>= _) _ _ _
   refine wpAny_bind (wpAny_tryCatch (wpAny_holding (wpAny_bind (cmp (j + 1) (argBest bt j) v vb _ _ _ kp1 pv pb ?_))))
   refine wpAny_bind (wpAny_holding (wpAny_truthy_bool ?_))
   refine wpAny_bind (wpAny_letGo (wpAny_pure ?_))
   cases hb : bt (j + 1) (argBest bt j) with
   | true =>
     simp only [if_true]
     refine wpAny_bind ?_
     refine wpAny_updateSeq hS1 rfl (wpAny_bind (wpAny_letGo ?_))
     rw [nm]
     refine wpAny_pure ⟨plainId_quiet F.plain_min_loop _, ih (j + 1) _ v _ (by omega) lt (W.frame _ _ _ st1 fun b bf o e => ?_) (kpk _ _ kp1 fun b o _ bS e => (Heap.get?_update_other _ _ (Ne.symm bS)).trans e) (by simp only [argBest, hb, if_true]; exact pv) (Heap.get?_update_self _ hS1 rfl)
       fun v' h2 tk2 pv2 kk2 => ?_⟩
     · exact (Heap.get?_update_other _ _ (fun z : S = b => sf (by rw [z]; exact bf))).trans e
     · exact fin v' h2 tk2 pv2 fun b o bw bS e => kk2 b o bw bS ((Heap.get?_update_other _ _ (Ne.symm bS)).trans (kk b o bw e))
   | false =>
     simp only [Bool.false_eq_true, if_false]
     refine wpAny_bind (wpAny_letGo ?_)
     rw [nm]
     refine wpAny_pure ⟨plainId_quiet F.plain_min_loop _, ih (j + 1) _ vb c (by omega) lt st1 kp1 (by simp only [argBest, hb, Bool.false_eq_true, if_false]; exact pb) hS1 fun v' h2 tk2 pv2 kk2 => ?_⟩
     exact fin v' h2 tk2 pv2 fun b o bw bS e => kk2 b o bw bS (kk b o bw e)
theorem min_first (W : Walks prog w A.in1 I fp wr n P St) (bt : Nat → Nat → Bool) (Kp : Heap → Prop) (cmp : CmpKp prog w A.in1 Kp P bt) (S : Addr) (sf : S ∉ fp)
   (kpk : ∀ h h', Kp h → (∀ b o, b ∉ wr → b ≠ S → h.get? b = some o → h'.get? b = some o) → Kp h') (hn : 0 < n) {t : Shared} {c : Nat} (st : St 0 t.heap) (kp : Kp t.heap)
   (hS : t.heap.get? S = some { cls := .type "list", dict := none, data := .seq #[] c, slots := #[] })
   (fin : ∀ v h' tk, P (argBest bt (n - 1)) v → (∀ b o, b ∉ wr → b ≠ S → t.heap.get? b = some o → h'.get? b = some o) → R (.ok (.ret v)) { t with heap := h', toks := tk }) :
   codeAny (model prog w) A (.builtin "min.loop" ⟨[.ref I, .none, .ref S], []⟩) R t := by
 have sw : S ∉ wr := fun h => sf (W.sub _ h)
 have nm : (toString "min" ++ toString ".loop" : String) = "min.loop" := by decide
 refine codeAny_builtin F.entry_min_loop ?_
 rw [Around.under_plainId F.plain_min_loop _]
 show wpAny _ A.in1 (seqItems? (.ref S) >>= _) _ _ t
 refine wpAny_bind (wpAny_seqItems hS rfl ?_)
 show wpAny _ A.in1 (tryCatch (pyNext (.ref I)) _ >>= _) _ _ t
 refine wpAny_bind (wpAny_tryCatch (W.item 0 t _ _ hn st fun v h' tk pv st1 kk => ?_))
 have hS1 := kk S _ sw hS
 have kp1 : Kp h' := kpk _ _ kp fun b o bw _ e => kk b o bw e
 show wpAny _ A.in1 (updateSeq S (fun _ => #[v, v]) >>= _) _ _ _
 refine wpAny_bind ?_
 refine wpAny_updateSeq hS1 rfl ?_
 rw [nm]
 refine wpAny_pure ⟨plainId_quiet F.plain_min_loop _, min_turns W bt Kp cmp S sf kpk _ 0 _ v _ rfl hn (W.frame _ _ _ st1 fun b bf o e => ?_) (kpk _ _ kp1 fun b o _ bS e => (Heap.get?_update_other _ _ (Ne.symm bS)).trans e) pv (Heap.get?_update_self _ hS1 rfl) fun v' h2 tk2 pv2 kk2 => ?_⟩
 · exact (Heap.get?_update_other _ _ (fun z : S = b => sf (by rw [z]; exact bf))).trans e
 · exact fin v' h2 tk2 pv2 fun b o bw bS e => kk2 b o bw bS ((Heap.get?_update_other _ _ (Ne.symm bS)).trans (kk b o bw e))
end
section
variable {prog : Program} {w : World} {A : Around} {E : Value → Shared → Prop} {s : Shared}
theorem call_minKp {x : Value} {Q : Value → Shared → Prop}
   (h : wpAny (model prog w) A.in1 (pyIter x) (fun itv t => ∃ I fp wr n P St bt Kp, itv = .ref I ∧ Walks prog w A.in1 I fp wr n P St ∧ St 0 t.heap ∧ Kp t.heap ∧ (∀ b ∈ fp, b < t.heap.objs.size) ∧ 0 < n ∧ CmpKp prog w A.in1 Kp P bt ∧
     (∀ h h', Kp h → (∀ b o, b ∉ wr → b ≠ t.heap.objs.size → h.get? b = some o → h'.get? b = some o) → Kp h') ∧
     ∀ v h' tk, P (argBest bt (n - 1)) v → (∀ b o, b ∉ wr → t.heap.get? b = some o → h'.get? b = some o) → Q v { t with heap := h', toks := tk }) E s) :
   wpAny (model prog w) A (call (.builtin "min") [x]) Q E s := by
 have nm : (toString "min" ++ toString ".loop" : String) = "min.loop" := by decide
 refine call_function_tree F.kind_min F.plain_min F.entry_min (F.args_min1 _) ?_
 show wpAny _ A.in1 (Builtin.Builtins.bindParams "min" ["key", "default"] 0 ⟨[], []⟩ >>= _) _ _ s
 refine wpAny_bind (wpAny_of_eq (show Builtin.Builtins.bindParams "min" ["key", "default"] 0 ⟨[], []⟩ = pure [none, none] from rfl) ?_)
 refine wpAny_bind (wpAny_pure ?_)
 refine wpAny_bind (wpAny_mono h (fun itv t ht => ?_) fun _ _ e => e)
 obtain ⟨I, fp, wr, n, P, St, bt, Kp, rfl, W, st, kp, hfp, hn, cmp, kpk, hQ⟩ := ht
 refine wpAny_bind (wpAny_newObj_type ?_)
 have sf : t.heap.objs.size ∉ fp := fun hm => Nat.lt_irrefl _ (hfp _ hm)
 rw [nm]
 refine wpAny_pure ⟨plainId_quiet F.plain_min_loop _, min_first W bt Kp cmp t.heap.objs.size sf kpk hn (W.frame _ _ _ st fun b _ o e => Heap.get?_push_of_some _ e) (kpk _ _ kp fun b o _ _ e => Heap.get?_push_of_some _ e) (Heap.get?_push_size _ rfl) fun v h' tk pv kk => ?_⟩
 exact hQ v h' tk pv fun b o bw e => kk b o bw (Nat.ne_of_lt (Heap.lt_size e)) (Heap.get?_push_of_some _ e)
end
def Xdx (xs : List (List Int)) : Nat → Nat
 | 0 => 0
 | k + 1 => if HT.lexLt (xs.getD (k + 1) []) (xs.getD (Xdx xs k) []) then k + 1 else Xdx xs k
theorem minAt_best (xs : List (List Int)) : ∀ k, argBest (fun i j => HT.lexLt (xs.getD i []) (xs.getD j [])) k = Xdx xs k
 | 0 => rfl
 | k + 1 => by
   unfold argBest Xdx
   rw [minAt_best xs k]
theorem Xfq (xs : List (List Int)) : ∀ k, Xdx xs k ≤ k
 | 0 => Nat.le_refl 0
 | k + 1 => by
   unfold Xdx
   have := Xfq xs k
   split <;> omega
section
variable {X : Cx}
theorem call_minT (hc : X.calm = true) (hu : X.A.units + 64 < cLine) : CallR X (.builtin "min") (fun vs H Q => ∃ p us, ∃ xs : List (List Int), vs = [.ref p] ∧ H p = some (.lst us) ∧ Xcj H us (xs.map fun x => x.map V.int) ∧ 0 < xs.length ∧
   ∀ t, us[Xdx xs (xs.length - 1)]? = some (.ref t) → H t = some (.tup ((xs.getD (Xdx xs (xs.length - 1)) []).map V.int)) → Q (.ref t) H) := by
 intro pins s σ H vs us' Q I r h
 obtain ⟨p, us, xs, rfl, hp, ta, hn, q⟩ := h
 obtain ⟨u, rfl, rx⟩ : ∃ u, us' = [u] ∧ RelV (.ref p) u := by
   cases r with
   | cons a b => cases b; exact ⟨_, rfl, a⟩
 cases rx
 obtain ⟨its, r1, p1, _⟩ := I.list (SqL.of hp)
 have l1 := r1.length
 have l2 := ta.1
 rw [List.length_map] at l2
 have tups : ∀ i, i < xs.length → ∃ t its2, its[i]? = some (.ref t) ∧ us[i]? = some (.ref t) ∧ H t = some (.tup ((xs.getD i []).map V.int)) ∧ s.heap.IsTuple t (List.toArray its2) ∧ IntsAre its2 (xs.getD i []) := fun i hi => by
   obtain ⟨t, e1, e2⟩ := ta.2 i ((xs[i]).map V.int) (by simp [hi])
   obtain ⟨u1, g1, q1⟩ := r1.get e1
   cases q1
   obtain ⟨its2, r2, p2, _⟩ := I.tuple (SqT.of e2)
   have ex : xs.getD i [] = xs[i] := by simp [hi]
   rw [ex]
   exact ⟨t, its2, g1, e1, e2, p2, intsAre_of r2⟩
 have lt : p < s.heap.objs.size := by obtain ⟨_, e, _⟩ := p1.isList; exact Heap.lt_size e
 refine call_minKp (wpAny_pyIter_list p1.isList ?_)
 refine ⟨s.heap.objs.size, [s.heap.objs.size, p], [s.heap.objs.size], its.toArray.size, fun i v => its.toArray[i]? = some v, _, fun i j => HT.lexLt (xs.getD i []) (xs.getD j []), fun (hh : Heap) => ∀ (i : Nat) (t : Addr) (its2 : List Value), its[i]? = some (Value.ref t) → s.heap.IsTuple t (List.toArray its2) → hh.IsTuple t (List.toArray its2), rfl, Walks.list (A := X.A.in1) (I.ok.hd hc) _ p (Nat.ne_of_lt lt) its.toArray,
   ⟨⟨_, Heap.get?_push_size _ rfl, rfl, rfl⟩, p1.isList.push _⟩, ?_, ?_, ?_, ?_, ?_, ?_⟩
 · intro i t its2 _ ht
   exact ht.push _
 · intro b hb
   show b < (s.heap.push _).objs.size
   rw [Heap.size_push]
   rcases List.mem_cons.mp hb with z | z
   · rw [z]; exact Nat.lt_succ_self _
   · have : b = p := by simpa using z
     rw [this]; exact Nat.lt_succ_of_lt lt
 · rw [List.size_toArray]; omega
 · intro i j x y t Q' E' kp pi pj hq
   rw [List.getElem?_toArray] at pi pj
   have hi : i < xs.length := by have := (List.getElem?_eq_some_iff.mp pi).1; omega
   have hj : j < xs.length := by have := (List.getElem?_eq_some_iff.mp pj).1; omega
   obtain ⟨t1, s1, a1, _, _, b1, c1⟩ := tups i hi
   obtain ⟨t2, s2, a2, _, _, b2, c2⟩ := tups j hj
   rw [a1] at pi
   rw [a2] at pj
   cases pi
   cases pj
   exact HT.lt_tupInts (kp i t1 s1 a1 b1) (kp j t2 s2 a2 b2) c1 c2 (by show X.A.units + 1 < cLine; omega) hq
 · intro h h' kp kk i t its2 g ht
   have e0 := kp i t its2 g ht
   obtain ⟨o, e, hcl, hd⟩ := ht
   obtain ⟨o', e', r'⟩ := e0
   have lt' := Heap.lt_size e
   refine ⟨o', kk t o' (fun z => ?_) (Nat.ne_of_lt ?_) e', r'⟩
   · have z' : t = s.heap.objs.size := by simpa using z
     rw [z'] at lt'
     exact Nat.lt_irrefl _ lt'
   · show t < (s.heap.push _).objs.size
     rw [Heap.size_push]
     exact Nat.lt_succ_of_lt lt'
 · intro v h' tk pv kk
   rw [List.size_toArray, ← l1, l2, minAt_best, List.getElem?_toArray] at pv
   have hm : Xdx xs (xs.length - 1) < xs.length := by have := Xfq xs (xs.length - 1); omega
   obtain ⟨t, its2, a1, a2, a3, _, _⟩ := tups _ hm
   rw [a1] at pv
   cases pv
   refine ⟨.ref t, H, ?_, rfl, q t a2 a3⟩
   refine I.kept (t' := tk) fun b o e => kk b o (fun z => ?_) (Heap.get?_push_of_some _ e)
   have := Heap.lt_size e
   have z' : b = s.heap.objs.size := by simpa using z
   rw [z'] at this
   exact Nat.lt_irrefl _ this
end
end Stow
namespace Stow
open PySem L2 PyProof.Rows
structure InsK (K : PySem.W.Frag) (C : Addr) : Prop where
 cl : Cls K C
 ha : PySem.W.findIn K (.ref C) "__class__" = some (some (.builtin "object.__class__"))
 hn : PySem.W.specialIn K (.builtin "object.__class__") "__get__" = some (some (.builtin "getset_descriptor.__get__"))
 htk : PySem.W.takesIn K (.builtin "object.__class__") = some true
 hm : PySem.W.mroIn K C (.type "object") = some true
section
variable {X : Cx}
end
section
variable {K : PySem.W.Frag} {σ : L2.St} {H : Hp} {Q : VK} {D : Ends}
theorem r_sat {a C dx : Addr} {fs : List (Str × V)} {f : Str} {R : Addr → Addr → Addr → List (Str × V) → Prop} (h : H a = some (.ins C dx fs)) (c : Cls K C) (n : Xdp K C f) (l : fs.length < 1000) (q : R a C dx fs) :
   ∃ a' C' dx' fs', V.ref a = V.ref a' ∧ H a' = some (.ins C' dx' fs') ∧ Cls K C' ∧ Xdp K C' f ∧ fs'.length < 1000 ∧ R a' C' dx' fs' := ⟨a, C, dx, fs, rfl, h, c, n, l, q⟩
theorem r_mat {a C dx : Addr} {fs : List (Str × V)} {m : Str} {P : Prop} (h : H a = some (.ins C dx fs)) (l : fs.lookup m = none) (q : P) :
   ∃ a' dx' fs', V.ref a = V.ref a' ∧ H a' = some (.ins C dx' fs') ∧ fs'.lookup m = none ∧ P := ⟨a, dx, fs, rfl, h, l, q⟩
theorem r_make {C : Addr} {sp : Sp} {E : XK} {t : TA} (h : t σ H fun vs H1 => ∀ x dx, H1 x = none → H1 dx = none → dx ≠ x → sp (.ref x :: vs) (upd (upd H1 dx (.own x)) x (.ins C dx [])) (fun v H2 => v = .non ∧ Q (.ref x) H2) E) : tMake C sp [] E t σ H Q := by
 unfold tMake
 simp only [List.append_nil]
 exact h
end
section
variable {X : Cx}
theorem op_eqLP (hu : X.A.units + 64 < cLine) : OpR X (compareOp .Eq) (fun x y H Q => ∃ a b us ws ps, x = .ref a ∧ y = .ref b ∧ H a = some (.lst us) ∧ H b = some (.lst ws) ∧ Xas H us ps ∧ Xas H ws ps ∧ Q (.bl true) H) := by
 intro pins s σ H x y v u Q I rx ry h
 obtain ⟨a, b, us, ws, ps, rfl, rfl, ha, hb, pu, pw, q⟩ := h
 cases rx
 cases ry
 obtain ⟨its, r1, p1, _⟩ := I.list (SqL.of ha)
 obtain ⟨its2, r2, p2, _⟩ := I.list (SqL.of hb)
 have l1 := r1.length
 have l2 := r2.length
 have m1 := pu.1
 have m2 := pw.1
 have key : SeqAt.RcAt X.A s (.ref a) (.ref b) ((List.range its.toArray.size).all (fun _ => true)) := by
   refine SeqAt.RcAt.lists p1.isList p2.isList (by rw [List.size_toArray, List.size_toArray]; omega) (by omega) fun j h1 h2 => ?_
   rw [List.size_toArray] at h1 h2
   have hj : j < ps.length := by omega
   obtain ⟨t1, e1, f1⟩ := pu.2 j ps[j] (by simp [hj])
   obtain ⟨t2, e2, f2⟩ := pw.2 j ps[j] (by simp [hj])
   obtain ⟨u1, g1, q1⟩ := r1.get e1
   obtain ⟨u2, g2, q2⟩ := r2.get e2
   cases q1
   cases q2
   obtain ⟨_, k1⟩ := List.getElem?_eq_some_iff.mp g1
   obtain ⟨_, k2⟩ := List.getElem?_eq_some_iff.mp g2
   have z := eq_tup_same (A := X.A.in1) (by show X.A.units + 1 < cLine; omega) I (SqT.of f1) (SqT.of f2) rfl
   rw [← k1, ← k2] at z
   simpa using z
 have e : ((List.range its.toArray.size).all (fun _ => true)) = true := by simp
 rw [e] at key
 exact key _ _ _ _ ⟨.bl true, H, I, rfl, q⟩
end
def Xay (x : Addr) (H H' : Hp) : Prop := ∀ b o, b ≠ x → H b = some o → H' b = some o
theorem Xay.refl {x : Addr} {H : Hp} : Xay x H H := fun _ _ _ h => h
theorem Xay.of {x : Addr} {H H' : Hp} (s : Same H H') : Xay x H H' := fun b o _ h => s b o h
theorem Xay.trans {x : Addr} {H H' H'' : Hp} (s : Xay x H H') (t : Xay x H' H'') : Xay x H H'' := fun b o n h => t b o n (s b o n h)
theorem Xay.put {x : Addr} {H H' : Hp} {o : HO} (s : Xay x H H') : Xay x H (upd H' x o) := fun b o' n h => look_ne n (s b o' n h)
end Stow
set_option Elab.async false
set_option linter.all false
set_option maxRecDepth 100000
set_option maxHeartbeats 4000000
namespace Stow
end Stow
namespace Stow
open PySem L2 PyProof.Rows
structure MethD (P : Program) (w : World) (K : PySem.W.Frag) (mg : Str → Option Value) (base : Heap) (C : Addr) (m : Str) (j : Nat) (ps : List Str) (dvs : List V) (sp : Sp) : Prop where
 all : Methx P w K mg base C m j ps [] sp
 less : Methx P w K mg base C m j ps dvs sp
theorem MethD.made {P : Program} {w : World} {K : PySem.W.Frag} {mg : Str → Option Value} {base : Heap} {C : Addr} {m : Str} {j : Nat} {ps : List Str} {dvs : List V} {sp : Sp} {f : Addr} {fd : FuncData} {ds : List Value}
   (F : FnOk P w K mg base (CXe P w) j f fd ps sp) (M : Meth K C m f) (b : Xdc K fd ps []) (b' : Xdc K fd ps ds) (v : Vals dvs ds) (c : Cls K C) : MethD P w K mg base C m j ps dvs sp :=
 ⟨⟨⟨f, fd, [], F, M, b, .nil⟩, c⟩, ⟨⟨f, fd, ds, F, M, b', v⟩, c⟩⟩
theorem FunD.bindsA {K : PySem.W.Frag} {x qual : Str} {st : Stmt} {T : Addr} {f : Addr} {fd : FuncData} {ps : List Str} {ds : List Value} {tc : Value} {td : Option Addr} {tn : Nat} {tsl : Array (Option Value)} (F : FunD K x qual st (.ref T) f fd)
   (lt : K.lookup T = some ⟨tc, td, .seq ds.toArray tn, tsl⟩)
   (h : ∀ (kV doc pm : Value) (an : Option Addr) (cdv ct : Value) (us : List Value), us.length = ps.length → ∃ k : Option (Array Value) → Sem (List (Str × Value)),
     bindArgs (PySem.W.fnOf x qual (Xaf st) (Xae st) (Xab st) (.ref T) kV doc pm an cdv ct) ⟨us, []⟩ = seqItems? (.ref T) >>= k ∧ k (some ds.toArray) = pure (ps.zip us)) : Xdc K fd ps [] := by
 obtain ⟨oc, od, kV, doc, pm, an, cdv, ct, osl, rfl, lk, hcd⟩ := F.ex
 intro s us X hl
 rw [List.append_nil] at hl ⊢
 obtain ⟨k, h1, h2⟩ := h kV doc pm an cdv ct us hl
 exact .of_defaults rfl (X _ _ lt) rfl h1 h2
abbrev TXS := Ends → XK → L2.St → Hp → Prop
def PXS (X : Cx) (ss : List Stmt) (t : TXS) : Prop := ∀ (pins : List (Addr × Obj)) (s : Shared) (σ : L2.St) (H : Hp) (D : Ends) (EX : XK) (Qp : Flow → Shared → Prop) (W : Value → Shared → Prop), Inv X pins σ H s → t D EX σ H → (∀ f s', SP X pins D f s' → Qp f s') →
 (∀ H1 s1 y s', Inv X pins σ H1 s1 → CXe X.prog X.w X.stack H1 s1 EX y s' → W y s') → wpAny (model X.prog X.w) X.A (execs ss X.env) Qp W s
def xSet (i : Nat) (t : TX) : TXS := fun D EX σ H => t σ H (fun v H2 => D.nx (σ.set i (some v)) H2) EX
def xIf (c : TT) (t u : TXS) : TXS := fun D EX σ H => c σ H fun b H1 => if b = true then t D EX σ H1 else u D EX σ H1
def tTryS (t : TXS) (th : TH) : TS := fun D σ H => t D (fun c od H2 => ∃ C, c = .ref C ∧ ∀ x, H2 x = none → th x C D σ (upd H2 x (ExcO x C od))) σ H
section
variable {X : Cx} {e c : Expr} {t : TX} {tc : TT} {ta tb ts : TXS} {a b ss : List Stmt} {pos epos : Pos} {hs : List ExceptHandler} {th : TH}
theorem pxs_set {i : Nat} {y : Str} {py : Pos} (hN : X.N.Nodup) (hi : X.N[i]? = some y) (hy : Loc X.env.scope y) (he : PX X e t) (hsw : swapsWith e (some (.Name y py)) epos.line X.env = pure false := by rfl)
   (hf : X.fn y = true ∨ X.env.scope.names.lookup y = some .local := by first | exact .inl rfl | exact .inr rfl | assumption) : PXS X [.Assign [.Name y py] e epos] (xSet i t) := by
 intro pins s σ H D EX Qp W I h hv hx
 exact wpAny_execs_cons (wpAny_Assign_Name (he pins s σ H _ _ _ _ I h (fun u s' ⟨v, H2, I2, r2, q2⟩ => store_ok I2 hN hi hy r2 (fun s3 I3 => wpAny_execs_nil (hv .next s3 ⟨_, H2, I3, q2⟩)) hf) hx) hsw)
theorem pxs_if (hc : PT X.nox c tc) (ha : PXS X a ta) (hb : PXS X b tb) : PXS X [.If c a b pos] (xIf tc ta tb) := by
 intro pins s σ H D EX Qp W I h hv hx
 refine wpAny_execs_cons (wpAny_If (wpAny_mono (hc pins s σ H _ (I.wish _) h) (fun d s1 ⟨H1, I1', q1⟩ => ?_) (fun _ _ z => z.elim)))
 have I1 := I1'.unwish
 have hv' : ∀ f s', SP X pins D f s' → (match f with | .next => wpAny (model X.prog X.w) X.A (execs [] X.env) Qp W s' | f => Qp f s') := fun f s' z => by
   cases f with
   | next => exact wpAny_execs_nil (hv .next s' z)
   | brk => exact hv .brk s' z
   | cont => exact hv .cont s' z
   | ret u => exact hv (.ret u) s' z
 cases d with
 | true => exact ha pins s1 σ H1 D EX _ W I1 q1 hv' hx
 | false => exact hb pins s1 σ H1 D EX _ W I1 q1 hv' hx
theorem ps_tryS {h₀ : ExceptHandler} (he : PXS X ss ts) (hst : X.stack = X.env :: X.outer ∧ X.env.frame = some X.env.locals) (hh : PH X (h₀ :: hs) th) : PS X (.Try ss (h₀ :: hs) [] [] pos) (tTryS ts th) := by
 intro pins s σ H D I h
 refine wpAny_Try_except (he pins s σ H D _ _ _ I h (fun f s' z => ?_) (fun H1 s1 y s' I1 hq => ?_))
 · cases f with
   | next => exact wpAny_execs_nil z
   | brk => exact z
   | cont => exact z
   | ret u => exact z
 · refine held_x I1 hst hq fun x C od T h2 H2 ex ⟨C', ec, q⟩ t2 J2 again => ?_
   subst ex
   cases ec
   exact hh pins _ σ _ D x C T od I.ok J2 t2 (fun h3 u3 t3 => (again h3 u3 t3).2) (q x (again h2 (Upto.refl _ _ _) t2).1)
end
section
variable {K : PySem.W.Frag} {σ : L2.St} {H : Hp} {Q : VK} {D : Ends} {EX : XK}
theorem r_tryS {t : TXS} {th : TH} (h : t D (fun c od H2 => ∃ C, c = .ref C ∧ ∀ x, H2 x = none → th x C D σ (upd H2 x (ExcO x C od))) σ H) : tTryS t th D σ H := h
theorem r_xSet {i : Nat} {t : TX} (h : t σ H (fun v H2 => D.nx (σ.set i (some v)) H2) EX) : xSet i t D EX σ H := h
theorem r_xIf {c : TT} {t u : TXS} (h : c σ H fun b H1 => if b = true then t D EX σ H1 else u D EX σ H1) : xIf c t u D EX σ H := h
theorem r_xMethD {C : Addr} {m : Str} {sp : Sp} {ta : TE} {t : TA} {dvs : List V} (h : ta σ H fun x H1 => ∃ a dx fs, x = .ref a ∧ H1 a = some (.ins C dx fs) ∧ fs.lookup m = none ∧ t σ H1 fun vs H2 => sp (x :: (vs ++ dvs)) H2 Q EX) : xMeth C m sp dvs ta t σ H Q EX := h
end
end Stow
set_option Elab.async false
set_option linter.all false
set_option maxRecDepth 100000
set_option maxHeartbeats 4000000
namespace Stow
theorem Xbc.app {cs ds : List Int} {ps qs : List Pc} (h0 : Xfe ps cs.length) (m : Xbc cs ps) (h1 : FromOn qs 0) (k : Xbc ds qs) :
   Xbc (cs ++ ds) (ps ++ qs.map fun q => ⟨q.a + cs.length, q.l, q.v⟩) := by
 intro p hp
 rcases List.mem_append.mp hp with h | h
 · obtain ⟨a0, a1, a2⟩ := h0 p h
   obtain ⟨m1, m2⟩ := m p h
   exact ⟨by rw [List.getElem?_append_left (by omega)]; exact m1, by rw [List.getElem?_append_left (by omega)]; exact m2⟩
 · obtain ⟨q, hq, rfl⟩ := List.mem_map.mp h
   obtain ⟨b0, b1⟩ := h1 q hq
   obtain ⟨m1, m2⟩ := k q hq
   constructor
   · show (cs ++ ds)[(q.a + cs.length).toNat]? = some (mkOf q.l q.v)
     rw [List.getElem?_append_right (by omega), show (q.a + cs.length).toNat - cs.length = q.a.toNat by omega]
     exact m1
   · show (cs ++ ds)[(q.a + cs.length + q.l - 1).toNat]? = some (mkOf q.l q.v)
     rw [List.getElem?_append_right (by omega), show (q.a + cs.length + q.l - 1).toNat - cs.length = (q.a + q.l - 1).toNat by omega]
     exact m2
end Stow
namespace Stow
open PySem L2 PyProof.Rows
section
variable {X : Cx}
end
section
variable {X : Cx} {tg : Expr}
end
end Stow
set_option Elab.async false
set_option linter.all false
set_option maxRecDepth 100000
set_option maxHeartbeats 4000000
namespace Stow
open PySem L2 PyProof.Rows
section
variable {prog : Program} {w : World} {A : Around} {R : Result → Shared → Prop} {I : Addr} {fp wr : List Addr} {n : Nat} {P : Nat → Value → Prop} {St : Nat → Heap → Prop} {kw : List (Str × Value)}
end
section
variable {prog : Program} {w : World} {A : Around} {E : Value → Shared → Prop} {s : Shared}
end
section
variable {X : Cx}
end
end Stow
namespace Stow
open PySem L2 PyProof.Rows
section
variable {K : PySem.W.Frag} {σ : L2.St} {H : Hp} {Q : VK}
theorem Xcz {us : List V} {ps : List Pc} (h : Xas H us ps) {i : Nat} {v : V} (hv : us[i]? = some v) : ∃ t z, v = .ref t ∧ ps[i]? = some z ∧ H t = some (.tup [.int z.a, .int z.l, .bl z.v]) := by
 have hi : i < ps.length := by rw [← h.1]; exact (List.getElem?_eq_some_iff.mp hv).1
 obtain ⟨t, e1, e2⟩ := h.2 i ps[i] (by simp [hi])
 exact ⟨t, ps[i], Option.some.inj (hv.symm.trans e1), by simp [hi], e2⟩
end
def planV (H : Hp) (v : V) (o : Option (List Int)) : Prop := match o with
 | none => v = .non
 | some x => ∃ t, v = .ref t ∧ H t = some (.tup (x.map V.int))
theorem planV.same {H H' : Hp} {v : V} {o : Option (List Int)} (h : planV H v o) (s : Same H H') : planV H' v o := by
 cases o with
 | none => exact h
 | some x => obtain ⟨t, e1, e2⟩ := h; exact ⟨t, e1, s t _ e2⟩
theorem planV.mono {H H' : Hp} {v : V} {o : Option (List Int)} (h : planV H v o) (k : ∀ b xs, H b = some (.tup xs) → H' b = some (.tup xs)) : planV H' v o := by
 cases o with
 | none => exact h
 | some x => obtain ⟨t, e1, e2⟩ := h; exact ⟨t, e1, k t _ e2⟩
end Stow
namespace Stow
open PySem L2 PyProof.Rows
theorem Xay.new {x t : Addr} {H H' : Hp} {o : HO} (s : Xay x H H') (ht : H' t = none) : Xay x H (upd H' t o) := fun b o' n h => look_put ht (s b o' n h)
theorem Xay.tups {x : Addr} {H H' : Hp} {l us : List V} {xs : List (List V)} (s : Xay x H H') (hx : H x = some (.lst l)) (h : Xcj H us xs) : Xcj H' us xs := h.mono fun b ys e => s b _ (fun z => by rw [z, hx] at e; cases e) e
end Stow
set_option Elab.async false
set_option linter.all false
set_option maxRecDepth 100000
set_option maxHeartbeats 4000000
namespace Stow
open PySem L2 PyProof.Rows
theorem r_pick {σ : L2.St} {H : Hp} {Q : VK} {t : TE} (P : Bool → Prop) (h : ∀ Q' : VK, (∀ B, P B → Q' (.bl B) H) → t σ H Q') (k : ∀ B, P B → Q (.bl B) H) : t σ H Q := h Q k
end Stow
namespace Stow
open PySem L2 PyProof.Rows
theorem Xbf.app {X Y : List Pc} (hX : Xbf X) (hY : Xbf Y) (hj : ∀ x y, X.getLast? = some x → Y[0]? = some y → x.v = true ∨ y.v = true) : Xbf (X ++ Y) := fun j y z h1 h2 => by
 by_cases e1 : j + 1 < X.length
 · rw [List.getElem?_append_left (by omega)] at h1
   rw [List.getElem?_append_left e1] at h2
   exact hX j y z h1 h2
 · by_cases e2 : j + 1 = X.length
   · rw [List.getElem?_append_left (by omega)] at h1
     rw [List.getElem?_append_right (by omega), show j + 1 - X.length = 0 by omega] at h2
     refine hj y z ?_ h2
     rw [List.getLast?_eq_getElem?, show X.length - 1 = j by omega]
     exact h1
   · rw [List.getElem?_append_right (by omega)] at h1 h2
     rw [show j + 1 - X.length = (j - X.length) + 1 by omega] at h2
     exact hY _ y z h1 h2
theorem Xbf.left {X Y : List Pc} (h : Xbf (X ++ Y)) : Xbf X := fun j y z h1 h2 => by
 have l1 := (List.getElem?_eq_some_iff.mp h1).1
 have l2 := (List.getElem?_eq_some_iff.mp h2).1
 exact h j y z (by rw [List.getElem?_append_left l1]; exact h1) (by rw [List.getElem?_append_left l2]; exact h2)
theorem Xbf.right {X Y : List Pc} (h : Xbf (X ++ Y)) : Xbf Y := fun j y z h1 h2 => h (X.length + j) y z (by rw [List.getElem?_append_right (by omega), show X.length + j - X.length = j by omega]; exact h1) (by rw [List.getElem?_append_right (by omega), show X.length + j + 1 - X.length = j + 1 by omega]; exact h2)
theorem Xbf.mid {X Y : List Pc} {x y : Pc} (h : Xbf (X ++ Y)) (hx : X.getLast? = some x) (hy : Y[0]? = some y) : x.v = true ∨ y.v = true := by
 rw [List.getLast?_eq_getElem?] at hx
 have l1 := (List.getElem?_eq_some_iff.mp hx).1
 refine h (X.length - 1) x y (by rw [List.getElem?_append_left l1]; exact hx) ?_
 rw [List.getElem?_append_right (by omega), show X.length - 1 + 1 - X.length = 0 by omega]
 exact hy
theorem Xct (z : Pc) : Xbf [z] := fun j y x h1 h2 => by
 have := (List.getElem?_eq_some_iff.mp h2).1
 simp at this
theorem noAdj_none : Xbf [] := fun j y x h1 h2 => by simp at h1
theorem Xeu : ∀ (R X : List Pc), Xbf (X ++ R) → R.foldl Xbj X = X ++ R
 | [], X, _ => by simp
 | w :: R, X, h => by
   rw [List.foldl_cons]
   have e : Xbj X w = X ++ [w] := by
     rcases Xbk X with e0 | ⟨D, y, e0⟩
     · subst e0; rfl
     · subst e0
       have := h.mid (x := y) (y := w) (by simp) (by simp)
       rcases this with hv | hv
       · exact Xbx hv
       · exact Xby hv
   rw [e, Xeu R (X ++ [w]) (by rw [List.append_assoc]; exact h), List.append_assoc]
   rfl
def Xft (ds : List Pc) : List Pc := match ds.getLast? with
 | some y => if y.v = true then ds else ds.dropLast
 | none => ds
def Xer : List Pc → List Pc
 | [] => []
 | w :: R => if w.v = true then w :: R else R
theorem Xdz {w : Pc} {R : List Pc} (h : w.v = true) : Xer (w :: R) = w :: R := by show (if w.v = true then w :: R else R) = _; rw [if_pos h]
theorem Xdw {w : Pc} {R : List Pc} (h : w.v = false) : Xer (w :: R) = R := by show (if w.v = true then w :: R else R) = _; rw [h, if_neg Bool.false_ne_true]
theorem Xdq {D : List Pc} {y : Pc} (h : y.v = true) : Xft (D ++ [y]) = D ++ [y] := by unfold Xft; rw [List.getLast?_concat]; simp only; rw [if_pos h]
theorem Xdv {D : List Pc} {y : Pc} (h : y.v = false) : Xft (D ++ [y]) = D := by unfold Xft; rw [List.getLast?_concat]; simp only; rw [h, if_neg Bool.false_ne_true, List.dropLast_concat]
theorem fbeg_split {ds rs : List Pc} {z : Pc} {s e : Int} (c : Xam s (ds ++ z :: rs) e) : Xam s (Xft ds) (fbeg (ds ++ z :: rs) ds.length z) ∧ fbeg (ds ++ z :: rs) ds.length z ≤ z.a ∧ s ≤ fbeg (ds ++ z :: rs) ds.length z := by
 obtain ⟨mm, c1, ⟨ea, h1, h3, c2⟩⟩ : ∃ mm, Xam s ds mm ∧ Xam mm (z :: rs) e := by
   have key : ∀ {A B : List Pc} {s e : Int}, Xam s (A ++ B) e → ∃ m, Xam s A m ∧ Xam m B e := by
     intro A
     induction A with
     | nil => intro B s e c; exact ⟨s, rfl, c⟩
     | cons y r ih =>
       rintro B s e ⟨g1, g2, g3, g4⟩
       obtain ⟨m, k1, k2⟩ := ih g4
       exact ⟨m, ⟨g1, g2, g3, k1⟩, k2⟩
   exact key c
 rw [← ea] at c1
 have hl := c1.le
 rcases Xbk ds with e0 | ⟨D, y, e0⟩
 · subst e0
   exact ⟨c1, Int.le_refl _, by show s ≤ z.a; rw [List.length_nil] at hl; omega⟩
 · subst e0
   obtain ⟨k1, k2, k3, k4⟩ := c1.unsnoc
   have hy : (D ++ [y] ++ z :: rs)[D.length]? = some y := by rw [List.append_assoc, List.getElem?_append_right (Nat.le_refl _), Nat.sub_self]; rfl
   rw [List.length_append, List.length_singleton]
   have kl := k1.le
   cases hv : y.v with
   | true => rw [Xfm hy hv, Xdq hv]; exact ⟨c1, Int.le_refl _, by omega⟩
   | false => rw [Xfn hy hv, Xdv hv]; exact ⟨k1, by omega, by omega⟩
theorem Xgc {ds rs : List Pc} {z : Pc} {s e : Int} (c : Xam s (ds ++ z :: rs) e) : Xam (fend (ds ++ z :: rs) ds.length z) (Xer rs) e ∧ z.a + z.l ≤ fend (ds ++ z :: rs) ds.length z ∧ fend (ds ++ z :: rs) ds.length z ≤ e := by
 have key : ∀ {A B : List Pc} {s e : Int}, Xam s (A ++ B) e → ∃ m, Xam s A m ∧ Xam m B e := by
   intro A
   induction A with
   | nil => intro B s e c; exact ⟨s, rfl, c⟩
   | cons y r ih =>
     rintro B s e ⟨g1, g2, g3, g4⟩
     obtain ⟨m, k1, k2⟩ := ih g4
     exact ⟨m, ⟨g1, g2, g3, k1⟩, k2⟩
 obtain ⟨mm, c1, ⟨ea, h1, h3, c2⟩⟩ := key c
 rw [← ea] at c2
 cases rs with
 | nil =>
   have hn : (ds ++ [z])[ds.length + 1]? = none := List.getElem?_eq_none (by simp)
   have c2 : z.a + z.l = e := c2
   rw [Xfk hn]
   exact ⟨c2, Int.le_refl _, by omega⟩
 | cons w R =>
   have hw : (ds ++ z :: w :: R)[ds.length + 1]? = some w := by rw [List.getElem?_append_right (by omega), show ds.length + 1 - ds.length = 1 by omega]; rfl
   have hl := c2.le
   rw [List.length_cons] at hl
   cases hv : w.v with
   | true =>
     rw [Xeq hw hv, Xdz hv]
     exact ⟨c2, Int.le_refl _, by omega⟩
   | false =>
     rw [Xel hw hv, Xdw hv]
     obtain ⟨g1, g2, g3, g4⟩ := c2
     have hl2 := g4.le
     refine ⟨?_, by omega, by omega⟩
     rw [g1]
     exact g4
theorem freeL_mem {ds : List Pc} {p : Pc} (h : p ∈ Xft ds) : p ∈ ds := by
 rcases Xbk ds with e0 | ⟨D, y, e0⟩
 · subst e0; exact h
 · subst e0
   cases hv : y.v with
   | true => rw [Xdq hv] at h; exact h
   | false => rw [Xdv hv] at h; exact List.mem_append.mpr (.inl h)
theorem freeR_mem {rs : List Pc} {p : Pc} (h : p ∈ Xer rs) : p ∈ rs := by
 cases rs with
 | nil => cases h
 | cons w R =>
   cases hv : w.v with
   | true => rw [Xdz hv] at h; exact h
   | false => rw [Xdw hv] at h; exact List.mem_cons_of_mem _ h
def modF (ps : List Pc) (k : Int) : List Pc := ps.map fun p => (⟨p.a, p.l, p.v && !decide (p.a = k)⟩ : Pc)
theorem modF_split {ds rs : List Pc} {z : Pc} {s e : Int} (c : Xam s (ds ++ z :: rs) e) : modF (ds ++ z :: rs) z.a = ds ++ ⟨z.a, z.l, false⟩ :: rs := by
 have hid : ∀ p ∈ ds ++ rs, (⟨p.a, p.l, p.v && !decide (p.a = z.a)⟩ : Pc) = p := fun p hp => by
   have hne : p.a ≠ z.a := fun h => by
     have hp2 : p ∈ ds ++ z :: rs := by
       rcases List.mem_append.mp hp with g | g
       · exact List.mem_append.mpr (.inl g)
       · exact List.mem_append.mpr (.inr (List.mem_cons_of_mem _ g))
     obtain ⟨i, hi⟩ := List.getElem?_of_mem hp2
     have hz : (ds ++ z :: rs)[ds.length]? = some z := by rw [List.getElem?_append_right (Nat.le_refl _), Nat.sub_self]; rfl
     have := Xfp c hi hz h
     subst this
     -- p stands where z stands, so p is not elsewhere
     rcases List.mem_append.mp hp with g | g
     · obtain ⟨j, hj⟩ := List.getElem?_of_mem g
       have hjl := (List.getElem?_eq_some_iff.mp hj).1
       have := Xfp c (show (ds ++ z :: rs)[j]? = some p by rw [List.getElem?_append_left hjl]; exact hj) hz h
       omega
     · obtain ⟨j, hj⟩ := List.getElem?_of_mem g
       have := Xfp c (show (ds ++ z :: rs)[ds.length + 1 + j]? = some p by rw [List.getElem?_append_right (by omega), show ds.length + 1 + j - ds.length = j + 1 by omega, List.getElem?_cons_succ]; exact hj) hz h
       omega
   rw [decide_eq_false hne]
   simp
 unfold modF
 rw [List.map_append, List.map_cons]
 have e1 : ds.map (fun p => (⟨p.a, p.l, p.v && !decide (p.a = z.a)⟩ : Pc)) = ds := by
   have : ds.map (fun p => (⟨p.a, p.l, p.v && !decide (p.a = z.a)⟩ : Pc)) = ds.map id := List.map_congr_left fun p hp => hid p (List.mem_append.mpr (.inl hp))
   rw [this, List.map_id]
 have e2 : rs.map (fun p => (⟨p.a, p.l, p.v && !decide (p.a = z.a)⟩ : Pc)) = rs := by
   have : rs.map (fun p => (⟨p.a, p.l, p.v && !decide (p.a = z.a)⟩ : Pc)) = rs.map id := List.map_congr_left fun p hp => hid p (List.mem_append.mpr (.inr hp))
   rw [this, List.map_id]
 rw [e1, e2]
 simp
theorem freeR_noAdj {w : List Pc} (h : Xbf w) : Xbf (Xer w) ∧ ∀ y, (Xer w)[0]? = some y → y.v = true := by
 cases w with
 | nil => exact ⟨h, fun y hy => by simp [Xer] at hy⟩
 | cons z R =>
   cases hv : z.v with
   | true =>
     rw [Xdz hv]
     refine ⟨h, fun y hy => ?_⟩
     have ey : y = z := by simpa using hy.symm
     rw [ey]
     exact hv
   | false =>
     rw [Xdw hv]
     refine ⟨Xbf.right (X := [z]) h, fun y hy => ?_⟩
     have := Xbf.mid (X := [z]) (Y := R) (x := z) (y := y) h rfl hy
     exact this.resolve_left (by rw [hv]; exact Bool.false_ne_true)
theorem given_is {cs : List Int} {ds rs : List Pc} {z : Pc} (c : Xam 0 (ds ++ z :: rs) cs.length) (m : Xbc cs (ds ++ z :: rs)) (na : Xbf (ds ++ z :: rs)) (hv : z.v = true) :
   Xam 0 (Xcf (modF (ds ++ z :: rs) z.a)) cs.length ∧ Xbf (Xcf (modF (ds ++ z :: rs) z.a)) ∧ Xbc (lfI cs (fbeg (ds ++ z :: rs) ds.length z) (fend (ds ++ z :: rs) ds.length z)) (Xcf (modF (ds ++ z :: rs) z.a)) := by
 obtain ⟨b1, b2, b3⟩ := fbeg_split c
 obtain ⟨e1, e2, e3⟩ := Xgc c
 have zl : 1 ≤ z.l := (c.mem z (by simp)).2.1
 have hj : Xcf (modF (ds ++ z :: rs) z.a) = Xft ds ++ (fr (fbeg (ds ++ z :: rs) ds.length z) (fend (ds ++ z :: rs) ds.length z) ++ Xer rs) := by
   rw [modF_split c]
   unfold fr
   rw [if_neg (by omega)]
   have hds : Xbf ds := na.left
   have hrs : Xbf rs := Xbf.right (X := ds ++ [z]) (by rw [List.append_assoc]; exact na)
   obtain ⟨hR1, hR2⟩ := freeR_noAdj hrs
   unfold Xcf
   rw [List.foldl_append, List.foldl_cons]
   have h0 : ds.foldl Xbj [] = ds := by
     have := Xeu ds [] (by simpa using hds)
     simpa using this
   rw [h0]
   -- the step at the piece itself
   have h1 : ∃ l1, Xbj ds ⟨z.a, z.l, false⟩ = Xft ds ++ [⟨fbeg (ds ++ z :: rs) ds.length z, l1, false⟩] ∧ fbeg (ds ++ z :: rs) ds.length z + l1 = z.a + z.l := by
     rcases Xbk ds with e0 | ⟨D, y, e0⟩
     · subst e0
       exact ⟨z.l, rfl, rfl⟩
     · subst e0
       have hy : (D ++ [y] ++ z :: rs)[D.length]? = some y := by rw [List.append_assoc, List.getElem?_append_right (Nat.le_refl _), Nat.sub_self]; rfl
       have hn := Xcl c hy (show (D ++ [y] ++ z :: rs)[D.length + 1]? = some z by rw [List.getElem?_append_right (by simp), show D.length + 1 - (D ++ [y]).length = 0 by simp]; rfl)
       rw [List.length_append, List.length_singleton]
       cases hvy : y.v with
       | true => exact ⟨z.l, by rw [Xfm hy hvy, Xdq hvy]; exact Xbx hvy, by rw [Xfm hy hvy]⟩
       | false => exact ⟨y.l + z.l, by rw [Xfn hy hvy, Xdv hvy]; exact Xbs hvy rfl, by rw [Xfn hy hvy]; omega⟩
   obtain ⟨l1, h1, h1'⟩ := h1
   rw [h1]
   have hfl : ∀ x y, (Xft ds).getLast? = some x → [(⟨fbeg (ds ++ z :: rs) ds.length z, fend (ds ++ z :: rs) ds.length z - fbeg (ds ++ z :: rs) ds.length z, false⟩ : Pc)][0]? = some y → x.v = true ∨ y.v = true := fun x y hx hy => by
     left
     rcases Xbk ds with e0 | ⟨D, w, e0⟩
     · subst e0; simp [Xft] at hx
     · subst e0
       cases hvy : w.v with
       | true =>
         rw [Xdq hvy] at hx
         have ex : x = w := by simpa using hx.symm
         rw [ex]
         exact hvy
       | false =>
         rw [Xdv hvy] at hx
         have h2 : Xbf (D ++ [w]) := hds
         exact (h2.mid hx (by rfl)).resolve_right (by rw [hvy]; exact Bool.false_ne_true)
   have hflN : Xbf (Xft ds) := by
     rcases Xbk ds with e0 | ⟨D, w, e0⟩
     · subst e0; exact hds
     · subst e0
       cases hvy : w.v with
       | true => rw [Xdq hvy]; exact hds
       | false => rw [Xdv hvy]; exact hds.left
   have hall : Xbf ((Xft ds ++ [(⟨fbeg (ds ++ z :: rs) ds.length z, fend (ds ++ z :: rs) ds.length z - fbeg (ds ++ z :: rs) ds.length z, false⟩ : Pc)]) ++ Xer rs) :=
     Xbf.app (hflN.app (Xct _) hfl) hR1 fun x y hx hy => .inr (hR2 y hy)
   cases rs with
   | nil =>
     have hn : (ds ++ [z])[ds.length + 1]? = none := List.getElem?_eq_none (by simp)
     rw [Xfk hn] at *
     have el : l1 = z.a + z.l - fbeg (ds ++ [z]) ds.length z := by omega
     rw [el]
     simp [Xer]
   | cons w R =>
     have hw : (ds ++ z :: w :: R)[ds.length + 1]? = some w := by rw [List.getElem?_append_right (by omega), show ds.length + 1 - ds.length = 1 by omega]; rfl
     have hnx := Xcl c (show (ds ++ z :: w :: R)[ds.length]? = some z by rw [List.getElem?_append_right (Nat.le_refl _), Nat.sub_self]; rfl) hw
     cases hvw : w.v with
     | true =>
       rw [Xeq hw hvw] at *
       have el : l1 = z.a + z.l - fbeg (ds ++ z :: w :: R) ds.length z := by omega
       rw [el]
       have eR : Xer (w :: R) = w :: R := Xdz hvw
       rw [eR] at hall ⊢
       rw [Xeu (w :: R) _ hall, List.append_assoc]
     | false =>
       rw [Xel hw hvw] at *
       have eR : Xer (w :: R) = R := Xdw hvw
       rw [eR] at hall ⊢
       rw [List.foldl_cons, Xbs rfl hvw]
       have el : l1 + w.l = w.a + w.l - fbeg (ds ++ z :: w :: R) ds.length z := by omega
       show List.foldl Xbj (Xft ds ++ [⟨fbeg (ds ++ z :: w :: R) ds.length z, l1 + w.l, false⟩]) R = _
       rw [el, Xeu R _ hall, List.append_assoc]
 refine ⟨joinF_chain ?_, joinF_noAdj _, ?_⟩
 · rw [modF_split c]
   obtain ⟨i1, i2⟩ := (show Xam 0 (Xft ds) _ ∧ True from ⟨b1, trivial⟩)
   have key : ∀ (A : List Pc) (s : Int), Xam s (A ++ z :: rs) cs.length → Xam s (A ++ ⟨z.a, z.l, false⟩ :: rs) cs.length := by
     intro A
     induction A with
     | nil => rintro s ⟨g1, g2, g3, g4⟩; exact ⟨g1, g2, (fun h => by cases h), g4⟩
     | cons y r ih => rintro s ⟨g1, g2, g3, g4⟩; exact ⟨g1, g2, g3, ih _ g4⟩
   exact key ds 0 c
 · rw [hj]
   refine Xbc.layF b3 (by omega) e3 (b1.endBy (Int.le_refl _)) e1.fromOn (m.sub fun p hp => ?_)
   rcases List.mem_append.mp hp with g | g
   · exact List.mem_append.mpr (.inl (freeL_mem g))
   · exact List.mem_append.mpr (.inr (List.mem_cons_of_mem _ (freeR_mem g)))
def rg1 (k L e : Int) (p : Pc) : List Pc := (if p.a < k ∨ e ≤ p.a then [p] else []) ++ (if p.a = k then [⟨k, L, true⟩] else []) ++ (if p.a = k ∧ k + L < e then [⟨k + L, e - k - L, false⟩] else [])
def regF (ps : List Pc) (k L e : Int) : List Pc := (ps.map (rg1 k L e)).flatten
theorem Xfo (A B : List Pc) (k L e : Int) : regF (A ++ B) k L e = regF A k L e ++ regF B k L e := by unfold regF; rw [List.map_append, List.flatten_append]
theorem regF_take {ps : List Pc} {i : Nat} {z : Pc} {k L e : Int} (h : ps[i]? = some z) : regF (ps.take (i + 1)) k L e = regF (ps.take i) k L e ++ rg1 k L e z := by
 rw [List.take_add_one, h, Xfo]
 congr 1
 unfold regF
 simp
theorem regF_out {A : List Pc} {k L e : Int} (h : ∀ p ∈ A, p.a ≠ k ∧ (p.a < k ∨ e ≤ p.a)) : regF A k L e = A := by
 induction A with
 | nil => rfl
 | cons p r ih =>
   have h1 := h p List.mem_cons_self
   have e1 : rg1 k L e p = [p] := by
     unfold rg1
     rw [if_pos h1.2, if_neg h1.1, if_neg (fun z => h1.1 z.1)]
     rfl
   rw [show p :: r = [p] ++ r from rfl, Xfo, ih fun q hq => h q (List.mem_cons_of_mem _ hq)]
   congr 1
   unfold regF
   simp [e1]
theorem Xdu : ∀ {A B : List Pc} {s e : Int}, Xam s (A ++ B) e → ∃ m, Xam s A m ∧ Xam m B e
 | [], B, s, e, c => ⟨s, rfl, c⟩
 | z :: r, B, s, e, c => by
   obtain ⟨h1, h2, h3, h4⟩ := c
   obtain ⟨m, g1, g2⟩ := Xdu h4
   exact ⟨m, ⟨h1, h2, h3, g1⟩, g2⟩
theorem regF_split {ds rs : List Pc} {z : Pc} {n L : Int} (c : Xam 0 (ds ++ z :: rs) n) (na : Xbf (ds ++ z :: rs)) (hL : z.a + L ≤ fend (ds ++ z :: rs) ds.length z) :
   regF (ds ++ z :: rs) z.a L (fend (ds ++ z :: rs) ds.length z) = (ds ++ [⟨z.a, L, true⟩]) ++ (fr (z.a + L) (fend (ds ++ z :: rs) ds.length z) ++ Xer rs) := by
 obtain ⟨e1, e2, e3⟩ := Xgc c
 obtain ⟨mm, c1, ⟨ea, h1, h3, c2⟩⟩ := Xdu c
 rw [← ea] at c1 c2
 have hz : rg1 z.a L (fend (ds ++ z :: rs) ds.length z) z = [⟨z.a, L, true⟩] ++ fr (z.a + L) (fend (ds ++ z :: rs) ds.length z) := by
   unfold rg1 fr
   rw [if_neg (by omega), if_pos rfl, List.nil_append]
   congr 1
   by_cases he : z.a + L = fend (ds ++ z :: rs) ds.length z
   · rw [if_pos he, if_neg (by omega)]
   · rw [if_neg he, if_pos ⟨rfl, by omega⟩, show fend (ds ++ z :: rs) ds.length z - z.a - L = fend (ds ++ z :: rs) ds.length z - (z.a + L) by omega]
 have hr : regF rs z.a L (fend (ds ++ z :: rs) ds.length z) = Xer rs := by
   cases rs with
   | nil => rfl
   | cons w R =>
     have hw : (ds ++ z :: w :: R)[ds.length + 1]? = some w := by rw [List.getElem?_append_right (by omega), show ds.length + 1 - ds.length = 1 by omega]; rfl
     cases hv : w.v with
     | true =>
       rw [Xdz hv]
       refine regF_out fun p hp => ?_
       have := c2.mem p hp
       rw [Xeq hw hv]
       exact ⟨by omega, .inr (by omega)⟩
     | false =>
       rw [Xdw hv] at e1 ⊢
       obtain ⟨g1, g2, g3, g4⟩ := c2
       have hf := Xel (z := z) hw hv
       rw [show w :: R = [w] ++ R from rfl, Xfo]
       have e0 : regF [w] z.a L (fend (ds ++ z :: w :: R) ds.length z) = [] := by
         unfold regF rg1
         rw [List.map_cons, List.map_nil, List.flatten_cons, List.flatten_nil, if_neg (by omega), if_neg (by omega), if_neg (by omega)]
         rfl
       have e0' : regF [w] z.a L (fend (ds ++ z :: ([w] ++ R)) ds.length z) = [] := e0
       rw [e0', List.nil_append]
       refine regF_out fun p hp => ?_
       have hm := e1.mem p hp
       show p.a ≠ z.a ∧ (p.a < z.a ∨ fend (ds ++ z :: w :: R) ds.length z ≤ p.a)
       exact ⟨by omega, .inr (by omega)⟩
 rw [Xfo, regF_out (A := ds) (fun p hp => by have := c1.mem p hp; exact ⟨by omega, .inl (by omega)⟩), show z :: rs = [z] ++ rs from rfl, Xfo]
 have e9 : regF [z] z.a L (fend (ds ++ ([z] ++ rs)) ds.length z) = [⟨z.a, L, true⟩] ++ fr (z.a + L) (fend (ds ++ z :: rs) ds.length z) := by
   unfold regF
   rw [List.map_cons, List.map_nil, List.flatten_cons, List.flatten_nil, List.append_nil]
   exact hz
 have e8 : regF rs z.a L (fend (ds ++ ([z] ++ rs)) ds.length z) = Xer rs := hr
 rw [e9, e8]
 simp
theorem grown_is {cs : List Int} {ds rs : List Pc} {z : Pc} {L : Int} (c : Xam 0 (ds ++ z :: rs) cs.length) (m : Xbc cs (ds ++ z :: rs)) (na : Xbf (ds ++ z :: rs)) (hL3 : 3 ≤ L) (hL : z.a + L ≤ fend (ds ++ z :: rs) ds.length z) :
   Xam 0 (regF (ds ++ z :: rs) z.a L (fend (ds ++ z :: rs) ds.length z)) cs.length ∧ Xbf (regF (ds ++ z :: rs) z.a L (fend (ds ++ z :: rs) ds.length z)) ∧
   Xbc (lfI (Xbw cs z.a L true) (z.a + L) (fend (ds ++ z :: rs) ds.length z)) (regF (ds ++ z :: rs) z.a L (fend (ds ++ z :: rs) ds.length z)) := by
 obtain ⟨e1, e2, e3⟩ := Xgc c
 obtain ⟨mm, c1, ⟨ea, h1, h3, c2⟩⟩ := Xdu c
 rw [← ea] at c1 c2
 have hl1 := c1.le
 have hrs : Xbf rs := Xbf.right (X := ds ++ [z]) (by rw [List.append_assoc]; exact na)
 obtain ⟨hR1, hR2⟩ := freeR_noAdj hrs
 rw [regF_split c na hL]
 have cz : Xam 0 (ds ++ [⟨z.a, L, true⟩]) (z.a + L) := Xam.snoc (p := ⟨z.a, L, true⟩) c1 (show 1 ≤ L by omega) (fun _ => hL3)
 refine ⟨cz.app ((fr_chain hL).app e1), ?_, ?_⟩
 · have n1 : Xbf (ds ++ [⟨z.a, L, true⟩]) := by
     refine na.left.app (Xct _) fun x y _ hy => .inr ?_
     have ey : y = ⟨z.a, L, true⟩ := by simpa using hy.symm
     rw [ey]
   have n2 : Xbf (fr (z.a + L) (fend (ds ++ z :: rs) ds.length z) ++ Xer rs) := by
     unfold fr
     split
     · exact hR1
     · exact (Xct _).app hR1 fun x y _ hy => .inr (hR2 y hy)
   refine n1.app n2 fun x y hx _ => .inl ?_
   have : x = ⟨z.a, L, true⟩ := by simpa using hx.symm
   rw [this]
 · have ml : Xbc (Xbw cs z.a L true) (ds ++ ⟨z.a, L, true⟩ :: Xer rs) := Xbc.lay (by omega) (by omega) (by omega) (c1.endBy (Int.le_refl _)) (fun p hp => by have := e1.fromOn p hp; omega) (m.sub fun p hp => by
     rcases List.mem_append.mp hp with g | g
     · exact List.mem_append.mpr (.inl g)
     · exact List.mem_append.mpr (.inr (List.mem_cons_of_mem _ (freeR_mem g))))
   exact Xbc.layF (by omega) hL (by rw [Xbg]; exact e3) (cz.endBy (Int.le_refl _)) e1.fromOn (by rw [List.append_assoc]; exact ml)
def en1 (k : Int) (e : Int) (p : Pc) : Int := if p.a = k ∨ (p.a = e ∧ p.v = false ∧ k < e) then p.a + p.l else e
def enF (ps : List Pc) (k : Int) : Int := ps.foldl (en1 k) k
theorem enF_take {ps : List Pc} {i : Nat} {z : Pc} {k : Int} (h : ps[i]? = some z) : enF (ps.take (i + 1)) k = en1 k (enF (ps.take i) k) z := by
 unfold enF
 rw [List.take_add_one, h, List.foldl_append]
 rfl
theorem en_stay {k : Int} : ∀ {R : List Pc} {e f n : Int}, k < f → Xam f R n → e ≤ f → (e = f → ∀ y, R[0]? = some y → y.v = true) → R.foldl (en1 k) e = e
 | [], e, f, n, _, _, _, _ => rfl
 | p :: r, e, f, n, hk, c, hef, hy => by
   obtain ⟨h1, h2, h3, h4⟩ := c
   rw [List.foldl_cons]
   have e1 : en1 k e p = e := by
     unfold en1
     rw [if_neg]
     rintro (g | ⟨g1, g2, g3⟩)
     · omega
     · have := hy (by omega) p rfl
       rw [this] at g2
       cases g2
   rw [e1]
   exact en_stay (show k < f + p.l by omega) h4 (by omega) fun h => by omega
theorem en_is {ds rs : List Pc} {z : Pc} {n : Int} (c : Xam 0 (ds ++ z :: rs) n) (na : Xbf (ds ++ z :: rs)) : enF (ds ++ z :: rs) z.a = fend (ds ++ z :: rs) ds.length z := by
 obtain ⟨mm, c1, ⟨ea, h1, h3, c2⟩⟩ := Xdu c
 rw [← ea] at c1 c2
 have hrs : Xbf rs := Xbf.right (X := ds ++ [z]) (by rw [List.append_assoc]; exact na)
 unfold enF
 rw [List.foldl_append, List.foldl_cons]
 have e0 : ds.foldl (en1 z.a) z.a = z.a := by
   have key : ∀ (A : List Pc), (∀ p ∈ A, p.a < z.a) → A.foldl (en1 z.a) z.a = z.a := by
     intro A
     induction A with
     | nil => intro _; rfl
     | cons p r ih =>
       intro h
       have := h p List.mem_cons_self
       rw [List.foldl_cons]
       have e1 : en1 z.a z.a p = z.a := by unfold en1; rw [if_neg (by omega)]
       rw [e1]
       exact ih fun q hq => h q (List.mem_cons_of_mem _ hq)
   exact key ds fun p hp => by have := c1.mem p hp; omega
 have e1 : en1 z.a z.a z = z.a + z.l := by unfold en1; rw [if_pos (.inl rfl)]
 rw [e0, e1]
 cases rs with
 | nil =>
   rw [Xfk (List.getElem?_eq_none (by simp))]
   rfl
 | cons w R =>
   have hw : (ds ++ z :: w :: R)[ds.length + 1]? = some w := by rw [List.getElem?_append_right (by omega), show ds.length + 1 - ds.length = 1 by omega]; rfl
   obtain ⟨g1, g2, g3, g4⟩ := id c2
   cases hv : w.v with
   | true =>
     rw [Xeq hw hv]
     refine en_stay (show z.a < z.a + z.l by omega) c2 (Int.le_refl _) fun _ y hy => ?_
     have ey : y = w := by simpa using hy.symm
     rw [ey]
     exact hv
   | false =>
     rw [Xel hw hv, List.foldl_cons]
     have e2 : en1 z.a (z.a + z.l) w = w.a + w.l := by unfold en1; rw [if_pos (.inr ⟨g1, hv, by omega⟩)]
     rw [e2]
     rw [← g1] at g4
     refine en_stay (show z.a < w.a + w.l by omega) g4 (Int.le_refl _) fun _ y hy => ?_
     have := Xbf.mid (X := [w]) (Y := R) (x := w) (y := y) hrs rfl hy
     exact this.resolve_left (by rw [hv]; exact Bool.false_ne_true)
end Stow
set_option Elab.async false
set_option linter.all false
set_option maxRecDepth 100000
set_option maxHeartbeats 4000000
namespace Stow
open PySem L2 PyProof.Rows
theorem lex3 (a b c d e f : Int) : HT.lexLt [a, b, c] [d, e, f] = decide (a < d ∨ (a = d ∧ (b < e ∨ (b = e ∧ c < f)))) := by
 rw [HT.lexLt_cons]
 by_cases h1 : a = d
 · rw [if_pos h1, HT.lexLt_cons]
   by_cases h2 : b = e
   · rw [if_pos h2, HT.lexLt_cons]
     by_cases h3 : c = f
     · rw [if_pos h3, HT.lexLt_nil_nil]
       exact (decide_eq_false (by omega)).symm
     · rw [if_neg h3]
       congr 1
       exact propext ⟨fun h => by omega, fun h => by omega⟩
   · rw [if_neg h2]
     congr 1
     exact propext ⟨fun h => by omega, fun h => by omega⟩
 · rw [if_neg h1]
   congr 1
   exact propext ⟨fun h => by omega, fun h => by omega⟩
theorem lex3_step {x y z : List Int} (hx : x.length = 3) (hy : y.length = 3) (hz : z.length = 3) (h1 : HT.lexLt x y = false) (h2 : HT.lexLt z y = true) : HT.lexLt x z = false := by
 match x, hx, y, hy, z, hz with
 | [a, b, c], _, [d, e, f], _, [g, i, j], _ =>
   rw [lex3] at h1 h2 ⊢
   have h1 := of_decide_eq_false h1
   have h2 := of_decide_eq_true h2
   exact decide_eq_false (by omega)
theorem lex3_irr {x : List Int} (hx : x.length = 3) : HT.lexLt x x = false := by
 match x, hx with
 | [a, b, c], _ =>
   rw [lex3]
   exact decide_eq_false (by omega)
theorem minAt_min {xs : List (List Int)} (h3 : ∀ k, k < xs.length → (xs.getD k []).length = 3) : ∀ j, j < xs.length → ∀ k, k ≤ j → HT.lexLt (xs.getD k []) (xs.getD (Xdx xs j) []) = false
 | 0, hj, k, hk => by
   have : k = 0 := by omega
   subst this
   exact lex3_irr (h3 0 hj)
 | j + 1, hj, k, hk => by
   have ih := minAt_min h3 j (by omega)
   have hm := Xfq xs j
   unfold Xdx
   cases hb : HT.lexLt (xs.getD (j + 1) []) (xs.getD (Xdx xs j) []) with
   | true =>
     rw [if_pos rfl]
     by_cases e : k = j + 1
     · subst e
       exact lex3_irr (h3 _ hj)
     · exact lex3_step (h3 k (by omega)) (h3 _ (by omega)) (h3 _ hj) (ih k (by omega)) hb
   | false =>
     rw [if_neg Bool.false_ne_true]
     by_cases e : k = j + 1
     · subst e
       exact hb
     · exact ih k (by omega)
theorem Xey {ps : List Pc} {s e p : Int} {y z : Pc} (c : Xam s ps e) (hy : y ∈ ps) (hz : z ∈ ps) (h1 : y.a ≤ p) (h2 : p < y.a + y.l) (h3 : z.a ≤ p) (h4 : p < z.a + z.l) : y = z := by
 obtain ⟨i, hi⟩ := List.getElem?_of_mem hy
 obtain ⟨j, hj⟩ := List.getElem?_of_mem hz
 rcases Nat.lt_trichotomy i j with g | g | g
 · exfalso
   obtain ⟨ds, rs, e1, e2, c1, c2⟩ := Xaz c hj
   subst e1 e2
   rw [List.getElem?_append_left (by omega)] at hi
   have := (c1.mem y (List.mem_of_getElem? hi)).2.2.2
   omega
 · subst g
   exact Option.some.inj (hi.symm.trans hj)
 · exfalso
   obtain ⟨ds, rs, e1, e2, c1, c2⟩ := Xaz c hi
   subst e1 e2
   rw [List.getElem?_append_left (by omega)] at hj
   have := (c1.mem z (List.mem_of_getElem? hj)).2.2.2
   omega
def nxQ (qs : List (Int × Int)) (r : Int) : Option Int := match qs.find? (fun q => decide (r ≤ q.1)) with
 | some q => some q.2
 | none => qs.head?.map (·.2)
def rkN (r : Int) (q : Int × Int) : List Int := [if r ≤ q.1 then 0 else 1, q.1, q.2]
theorem nx_hit {A B : List (Int × Int)} {q : Int × Int} {r : Int} (hA : ∀ q ∈ A, q.1 < r) (hq : r ≤ q.1) : nxQ (A ++ q :: B) r = some q.2 := by
 unfold nxQ
 rw [List.find?_append, List.find?_eq_none.mpr (fun x hx => by have := hA x hx; simp; omega), Option.none_or, List.find?_cons, decide_eq_true hq]
theorem nx_none {A : List (Int × Int)} {r : Int} (hA : ∀ q ∈ A, q.1 < r) : nxQ A r = A.head?.map (·.2) := by
 unfold nxQ
 rw [List.find?_eq_none.mpr (fun x hx => by have := hA x hx; simp; omega)]
theorem nx_at {qs : List (Int × Int)} {r : Int} (hr : ∀ i j, (h : i < j) → (hj : j < qs.length) → (qs[i]'(Nat.lt_trans h hj)).1 < qs[j].1) (h0 : 0 < qs.length) :
   ∃ (j : Nat) (hj : j < qs.length), nxQ qs r = some qs[j].2 ∧ ∀ k, (hk : k < qs.length) → k ≠ j → HT.lexLt (rkN r qs[j]) (rkN r qs[k]) = true := by
 cases hf : qs.find? (fun q => decide (r ≤ q.1)) with
 | none =>
   have hA : ∀ q ∈ qs, q.1 < r := fun q hq => by
     have := List.find?_eq_none.mp hf q hq
     simp at this
     omega
   refine ⟨0, h0, ?_, fun k hk hne => ?_⟩
   · rw [nx_none hA, List.head?_eq_getElem?, List.getElem?_eq_getElem h0]
     rfl
   · have h1 := hA qs[0] (List.getElem_mem h0)
     have h2 := hA qs[k] (List.getElem_mem hk)
     have h3 := hr 0 k (by omega) hk
     unfold rkN
     rw [if_neg (by omega), if_neg (by omega), lex3]
     exact decide_eq_true (by omega)
 | some q =>
   obtain ⟨A, B, e, hA⟩ := (List.find?_eq_some_iff_append.mp hf).2
   have hq : r ≤ q.1 := by simpa using (List.find?_eq_some_iff_append.mp hf).1
   have hA : ∀ q ∈ A, q.1 < r := fun q hq => by
     have := hA q hq
     simp at this
     omega
   have hl : A.length < qs.length := by rw [e, List.length_append, List.length_cons]; omega
   have ej : qs[A.length] = q := by simp [e]
   refine ⟨A.length, hl, ?_, fun k hk hne => ?_⟩
   · rw [ej, e, nx_hit hA hq]
   · rw [ej]
     unfold rkN
     rw [if_pos hq]
     rcases Nat.lt_or_gt_of_ne hne with c | c
     · have : qs[k].1 < r := by
         have e2 : qs[k] = A[k] := by simp [e, List.getElem_append_left c]
         rw [e2]
         exact hA _ (List.getElem_mem c)
       rw [if_neg (by omega), lex3]
       exact decide_eq_true (by omega)
     · have h3 := hr A.length k c hk
       rw [ej] at h3
       rw [if_pos (by omega), lex3]
       exact decide_eq_true (by omega)
theorem nx_min {qs : List (Int × Int)} {r : Int} (hr : ∀ i j, (h : i < j) → (hj : j < qs.length) → (qs[i]'(Nat.lt_trans h hj)).1 < qs[j].1) (h0 : 0 < qs.length) :
   nxQ qs r = some (((qs.map (rkN r)).getD (Xdx (qs.map (rkN r)) ((qs.map (rkN r)).length - 1)) []).getD 2 0) := by
 obtain ⟨j, hj, e, hm⟩ := nx_at (r := r) hr h0
 have hat : ∀ k, (hk : k < qs.length) → (qs.map (rkN r)).getD k [] = rkN r qs[k] := fun k hk => by simp [hk]
 have hlen : (qs.map (rkN r)).length = qs.length := List.length_map _
 have h3 : ∀ k, k < (qs.map (rkN r)).length → ((qs.map (rkN r)).getD k []).length = 3 := fun k hk => by rw [hat k (by omega)]; rfl
 have hle := Xfq (qs.map (rkN r)) ((qs.map (rkN r)).length - 1)
 have hmin := minAt_min h3 ((qs.map (rkN r)).length - 1) (by omega) j (by omega)
 rw [hlen] at hle hmin ⊢
 generalize Xdx (qs.map (rkN r)) (qs.length - 1) = m at hle hmin
 have hm' : m < qs.length := by omega
 rw [hat m hm', hat j hj] at hmin
 by_cases c : m = j
 · subst c
   rw [hat m hm', e]
   rfl
 · rw [hm m hm' c] at hmin
   cases hmin
def ct1 (s L : Int) (p : Pc) : List Pc := if p.v = true ∨ s < p.a ∨ p.a + p.l ≤ s then [p] else (if p.a < s then [⟨p.a, s - p.a, false⟩] else []) ++ [⟨s, L, true⟩] ++ (if s + L < p.a + p.l then [⟨s + L, p.a + p.l - s - L, false⟩] else [])
def cutL (ps : List Pc) (s L : Int) : List Pc := (ps.map (ct1 s L)).flatten
theorem cutL_take {ps : List Pc} {i : Nat} {z : Pc} {s L : Int} (h : ps[i]? = some z) : cutL (ps.take (i + 1)) s L = cutL (ps.take i) s L ++ ct1 s L z := by
 unfold cutL
 rw [List.take_add_one, h, List.map_append, List.flatten_append]
 simp
theorem cutL_len (s L : Int) : ∀ (ps : List Pc), (cutL ps s L).length ≤ 3 * ps.length
 | [] => Nat.le_refl _
 | p :: r => by
   have ih := cutL_len s L r
   have h1 : (ct1 s L p).length ≤ 3 := by
     unfold ct1
     split
     · simp
     · rw [List.length_append, List.length_append]
       have : (if p.a < s then [(⟨p.a, s - p.a, false⟩ : Pc)] else []).length ≤ 1 := by split <;> simp
       have : (if s + L < p.a + p.l then [(⟨s + L, p.a + p.l - s - L, false⟩ : Pc)] else []).length ≤ 1 := by split <;> simp
       simp only [List.length_singleton]
       omega
   have e : cutL (p :: r) s L = ct1 s L p ++ cutL r s L := rfl
   rw [e, List.length_append, List.length_cons]
   omega
theorem cutL_out {A : List Pc} {s L : Int} (h : ∀ p ∈ A, s < p.a ∨ p.a + p.l ≤ s) : cutL A s L = A := by
 induction A with
 | nil => rfl
 | cons p r ih =>
   have e : cutL (p :: r) s L = ct1 s L p ++ cutL r s L := rfl
   rw [e, ih fun q hq => h q (.tail _ hq)]
   unfold ct1
   rw [if_pos (.inr (h p (.head _)))]
   rfl
theorem cutL_app (A B : List Pc) (s L : Int) : cutL (A ++ B) s L = cutL A s L ++ cutL B s L := by unfold cutL; rw [List.map_append, List.flatten_append]
theorem cutL_is {ds rs : List Pc} {z : Pc} {s L n : Int} (c : Xam 0 (ds ++ z :: rs) n) (hv : z.v = false) (hL : 1 ≤ L) (h1 : z.a ≤ s) (h2 : s + L ≤ z.a + z.l) : cutL (ds ++ z :: rs) s L = cutP ds rs z.a z.l s L := by
 obtain ⟨ds', rs', e1, e2, c1, c2⟩ := Xaz c (get_mid ds rs z)
 have e3 : ds' = ds ∧ rs' = rs := by
   have := List.append_inj e1 e2.symm
   exact ⟨this.1.symm, by have := this.2; injection this with _ h; exact h.symm⟩
 obtain ⟨rfl, rfl⟩ := e3
 have e : cutL (ds' ++ z :: rs') s L = cutL ds' s L ++ (ct1 s L z ++ cutL rs' s L) := by rw [cutL_app]; rfl
 rw [e, cutL_out fun p hp => ?_, cutL_out fun p hp => ?_]
 · unfold ct1 cutP fr
   rw [if_neg (by rw [hv]; simp; omega)]
   have x1 : (if z.a < s then [(⟨z.a, s - z.a, false⟩ : Pc)] else []) = if z.a = s then [] else [⟨z.a, s - z.a, false⟩] := by
     by_cases h : z.a = s
     · rw [if_neg (by omega), if_pos h]
     · rw [if_pos (by omega), if_neg h]
   have x2 : (if s + L < z.a + z.l then [(⟨s + L, z.a + z.l - s - L, false⟩ : Pc)] else []) = if s + L = z.a + z.l then [] else [⟨s + L, z.a + z.l - (s + L), false⟩] := by
     by_cases h : s + L = z.a + z.l
     · rw [if_neg (by omega), if_pos h]
     · rw [if_pos (by omega), if_neg h, show z.a + z.l - s - L = z.a + z.l - (s + L) by omega]
   rw [x1, x2]
   simp
 · have := (c2.fromOn) p hp
   omega
 · have := (c1.endBy (Int.le_refl 0)) p hp
   omega
theorem cutP_noAdj {ds rs : List Pc} {z : Pc} {s L : Int} (na : Xbf (ds ++ z :: rs)) (hv : z.v = false) : Xbf (cutP ds rs z.a z.l s L) := by
 have hd : Xbf ds := na.left
 have hr : Xbf rs := Xbf.right (X := [z]) na.right
 have lastd : ∀ x, ds.getLast? = some x → x.v = true := fun x hx => by
   rcases na.mid hx (y := z) rfl with h | h
   · exact h
   · rw [hv] at h; cases h
 have firstr : ∀ y, rs[0]? = some y → y.v = true := fun y hy => by
   rcases (na.right).mid (X := [z]) (Y := rs) (x := z) rfl hy with h | h
   · rw [hv] at h; cases h
   · exact h
 have hf : ∀ b e, Xbf (fr b e) := fun b e => by
   unfold fr
   split
   · exact noAdj_none
   · exact Xct _
 have frl : ∀ b e x, (fr b e).getLast? = some x → x.v = false := fun b e x hx => by
   unfold fr at hx
   split at hx
   · simp at hx
   · have : (⟨b, e - b, false⟩ : Pc) = x := by simpa using hx
     rw [← this]
 unfold cutP
 refine hd.app ((hf _ _).app (Xbf.app (X := [⟨s, L, true⟩]) (Xct _) ((hf _ _).app hr fun x y hx hy => .inr (firstr y hy)) fun x y hx hy => .inl ?_) fun x y hx hy => .inr ?_) fun x y hx hy => .inl (lastd x hx)
 · have : (⟨s, L, true⟩ : Pc) = x := by simpa using hx
   rw [← this]
 · have : (⟨s, L, true⟩ : Pc) = y := by simpa using hy
   rw [← this]
def carI (cs : List Int) (s g c : Nat) : List Int := cs.take g ++ (cs.drop s).take c ++ cs.drop (g + c)
theorem carI_len {cs : List Int} {s g c : Nat} (h1 : s + c ≤ cs.length) (h2 : g + c ≤ cs.length) : (carI cs s g c).length = cs.length := by
 unfold carI
 simp
 omega
theorem carI_out {cs : List Int} {s g c j : Nat} (h1 : s + c ≤ cs.length) (h2 : g + c ≤ cs.length) (h : j < g ∨ g + c ≤ j) : (carI cs s g c)[j]? = cs[j]? := by
 unfold carI
 have l1 : (cs.take g).length = g := by rw [List.length_take]; omega
 have l2 : ((cs.drop s).take c).length = c := by rw [List.length_take, List.length_drop]; omega
 rcases h with h | h
 · rw [List.append_assoc, List.getElem?_append_left (by omega), List.getElem?_take, if_pos h]
 · rw [List.getElem?_append_right (by rw [List.length_append]; omega), List.length_append, l1, l2, List.getElem?_drop, show g + c + (j - (g + c)) = j by omega]
theorem marks_carry {cs : List Int} {ps : List Pc} {z : Pc} {s c n : Nat} (hc : Xam 0 ps n) (hn : cs.length = n) (m : Xbc cs ps) (hz : z ∈ ps) (hv : z.v = true) (h1 : s + c ≤ n) (h2 : (c : Int) ≤ z.l - 2) : Xbc (carI cs s (z.a + 1).toNat c) ps := fun p hp => by
 obtain ⟨z0, z1, z3, z4⟩ := hc.mem z hz
 have z3 := z3 hv
 obtain ⟨p0, p1, p3, p4⟩ := hc.mem p hp
 obtain ⟨m1, m2⟩ := m p hp
 have h2' : (z.a + 1).toNat + c ≤ cs.length := by omega
 have out : ∀ j : Int, 0 ≤ j → (j ≤ z.a ∨ z.a + z.l - 1 ≤ j) → (carI cs s (z.a + 1).toNat c)[j.toNat]? = cs[j.toNat]? := fun j j0 hj => carI_out (by omega) h2' (by omega)
 by_cases e : p = z
 · subst e
   exact ⟨by rw [out _ p0 (.inl (Int.le_refl _))]; exact m1, by rw [out _ (by omega) (.inr (Int.le_refl _))]; exact m2⟩
 · have far : p.a + p.l ≤ z.a ∨ z.a + z.l ≤ p.a := by
     rcases Int.lt_or_le p.a z.a with h | h
     · left
       rcases Int.lt_or_le z.a (p.a + p.l) with g | g
       · exact absurd (Xey hc hp hz (Int.le_of_lt h) g (Int.le_refl _) (by omega)) e
       · exact g
     · right
       rcases Int.lt_or_le p.a (z.a + z.l) with g | g
       · exact absurd (Xey hc hp hz (Int.le_refl _) (by omega) h g) e
       · exact g
   exact ⟨by rw [out _ p0 (by omega)]; exact m1, by rw [out _ (by omega) (by omega)]; exact m2⟩
theorem part_join {ds rs : List Pc} {z : Pc} {c : Int} (na : Xbf (ds ++ z :: rs)) (hv : z.v = false) : Xcf (ds ++ ⟨z.a, c, false⟩ :: ⟨z.a + c, z.l - c, false⟩ :: rs) = ds ++ z :: rs := by
 have hd : Xcf ds = ds := by
   have := joinF_id na.left ds.length (Nat.le_refl _)
   rwa [List.take_length] at this
 have hz : (⟨z.a, c + (z.l - c), false⟩ : Pc) = z := by
   have : c + (z.l - c) = z.l := by omega
   rw [this, ← hv]
 have h1 : Xbj ds ⟨z.a, c, false⟩ = ds ++ [⟨z.a, c, false⟩] := by
   rcases Xbk ds with e | ⟨D, y, e⟩
   · subst e; rfl
   · subst e
     have hy : y.v = true := by
       rcases na.mid (x := y) (by rw [List.getLast?_concat]) (y := z) rfl with h | h
       · exact h
       · rw [hv] at h; cases h
     exact Xbx hy
 unfold Xcf at hd ⊢
 rw [List.foldl_append, hd, List.foldl_cons, List.foldl_cons, h1, Xbs rfl rfl, hz, Xeu rs (ds ++ [z]) (by rw [List.append_assoc]; exact na), List.append_assoc]
 rfl
theorem part_chain {ds rs : List Pc} {z : Pc} {c n : Int} (h : Xam 0 (ds ++ z :: rs) n) (hv : z.v = false) (c1 : 1 ≤ c) (c2 : c < z.l) : Xam 0 (ds ++ ⟨z.a, c, false⟩ :: ⟨z.a + c, z.l - c, false⟩ :: rs) n := by
 obtain ⟨m, a1, a2⟩ := Xdu h
 obtain ⟨b1, b2, b3, b4⟩ := a2
 refine a1.app ⟨b1, c1, (fun h => by cases h), by show z.a + c = m + c; omega, (by show 1 ≤ z.l - c; omega), (fun h => by cases h), ?_⟩
 show Xam (m + c + (z.l - c)) rs n
 rw [show m + c + (z.l - c) = m + z.l by omega]
 exact b4
theorem part_marks {cs : List Int} {ds rs : List Pc} {z : Pc} {c : Int} (h : Xam 0 (ds ++ z :: rs) cs.length) (m : Xbc cs (ds ++ z :: rs)) (c1 : 1 ≤ c) (c2 : c < z.l) : Xbc (Xbw (Xbw cs z.a c false) (z.a + c) (z.l - c) false) (ds ++ ⟨z.a, c, false⟩ :: ⟨z.a + c, z.l - c, false⟩ :: rs) := by
 obtain ⟨ds', rs', e1, e2, k1, k2⟩ := Xaz h (get_mid ds rs z)
 have e3 : ds' = ds ∧ rs' = rs := by
   have := List.append_inj e1 e2.symm
   exact ⟨this.1.symm, by have := this.2; injection this with _ h; exact h.symm⟩
 obtain ⟨rfl, rfl⟩ := e3
 obtain ⟨z0, z1, z3, z4⟩ := h.mem z (by simp)
 have hd := k1.endBy (Int.le_refl 0)
 have hr := k2.fromOn
 have m0 : Xbc cs (ds' ++ rs') := m.sub fun p hp => by
   rcases List.mem_append.mp hp with g | g
   · exact List.mem_append_left _ g
   · exact List.mem_append_right _ (.tail _ g)
 have m1 := Xbc.lay (k := z.a) (l := c) (v := false) z0 c1 (by omega) hd (fun p hp => by have := hr p hp; omega) m0
 have hd1 : Xfe (ds' ++ [⟨z.a, c, false⟩]) (z.a + c) := (hd.mono (by omega)).app fun p hp => by
   rw [List.mem_singleton.mp hp]
   exact ⟨z0, c1, Int.le_refl _⟩
 have m1' : Xbc (Xbw cs z.a c false) ((ds' ++ [⟨z.a, c, false⟩]) ++ rs') := by rw [List.append_assoc]; exact m1
 have m2 := Xbc.lay (cs := Xbw cs z.a c false) (k := z.a + c) (l := z.l - c) (v := false) (by omega) (by omega) (by rw [Xbg]; omega) hd1 (fun p hp => by have := hr p hp; omega) m1'
 rw [List.append_assoc] at m2
 exact m2
theorem sIx_at {n d : Nat} {k : Int} (h0 : 0 ≤ k) (h : k ≤ n) : HT.sIx n d (some k) = k.toNat := by
 have := HT.sIx_nat n d k.toNat
 rw [Int.toNat_of_nonneg h0] at this
 rw [this]
 omega
theorem cutI_to {ns : List Int} {k : Int} (h0 : 0 ≤ k) (h : k ≤ ns.length) : cutI ns none (some k) = ns.take k.toNat := by
 unfold cutI
 rw [sIx_at h0 h, HT.sIx_none]
 rfl
theorem cutI_mid {ns : List Int} {k l : Int} (h0 : 0 ≤ k) (h1 : 0 ≤ l) (h : k + l ≤ ns.length) : cutI ns (some k) (some (k + l)) = (ns.drop k.toNat).take l.toNat := by
 unfold cutI
 rw [sIx_at h0 (by omega), sIx_at (by omega) h, show (k + l).toNat - k.toNat = l.toNat by omega]
theorem cutI_from {ns : List Int} {k : Int} (h0 : 0 ≤ k) (h : k ≤ ns.length) : cutI ns (some k) none = ns.drop k.toNat := by
 unfold cutI
 rw [sIx_at h0 h, HT.sIx_none]
 exact List.take_of_length_le (by rw [List.length_drop]; omega)
def xExp (t : TX) : TXS := fun D EX σ H => t σ H (fun _ H2 => D.nx σ H2) EX
section
variable {X : Cx} {e : Expr} {t : TX} {epos : Pos}
theorem pxs_exp (he : PX X e t) (hsw : swapsWith e none epos.line X.env = pure false := by rfl) : PXS X [.Expr e epos] (xExp t) := by
 intro pins s σ H D EX Qp W I h hv hx
 exact wpAny_execs_cons (wpAny_Expr_any (he pins s σ H _ _ _ _ I h (fun u s' ⟨v, H2, I2, _, q2⟩ => wpAny_execs_nil (hv .next s' ⟨σ, H2, I2, q2⟩)) hx) I.quiet hsw)
end
theorem r_xExp {σ : L2.St} {H : Hp} {D : Ends} {EX : XK} {t : TX} (h : t σ H (fun _ H2 => D.nx σ H2) EX) : xExp t D EX σ H := h
end Stow
local macro_rules
 | `(tactic| walk_at "set") => `(tactic| first
   | exact Stow.set0_c
   | exact Stow.set0_1
   | exact Stow.set0_0
   | ((refine Stow.setS_c (r := ?r) ?h); (case h => walk_at "set"))
   | ((refine Stow.setS_1 (r := ?r) ?h); (case h => walk_at "set"))
   | ((refine Stow.setS_0 (r := ?r) ?h); (case h => walk_at "set")))
local macro_rules
 | `(tactic| walk_at "look") => `(tactic| first
   | with_reducible assumption
   | exact L2.upd_same
   | ((with_reducible refine Stow.look_ne ?a ?b); (case a => (first | assumption | exact Ne.symm (by assumption))); (case b => walk_at "look"))
   | ((with_reducible refine Stow.look_put ?a ?b); (case a => (first | assumption | walk_at "look")); (case b => walk_at "look"))
   | ((with_reducible refine Stow.look_tup (ys := ?ys) ?a ?b); (case a => walk_at "look"); (case b => walk_at "look"))
   | assumption)
local macro_rules
 | `(tactic| walk_at "seq") => `(tactic| first
   | with_reducible assumption
   | exact L2.SqL.of (by walk_at "look")
   | ((with_reducible refine Stow.seq_put ?a ?b); (case a => assumption); (case b => walk_at "seq"))
   | assumption)
local macro_rules
 | `(tactic| walk_at "num") => `(tactic| first | assumption | omega | (simp only [List.length_map, List.length_set, List.length_append, List.length_cons, List.length_nil] <;> omega))
local macro_rules
 | `(tactic| walk_at "size") => `(tactic| first | exact Stow.small4000 (by first | omega | (simp only [List.length_map, List.length_set, List.length_append, List.length_cons, List.length_nil] <;> omega)))
local macro_rules
 | `(tactic| walk_at "side") => `(tactic| first
   | (show (0 : Int) < _; first | decide | omega)
   | (show (0 : Int) ≤ _; first | decide | omega)
   | exact Or.inr ⟨by decide, by decide⟩
   | exact Or.inl ⟨by decide, by decide⟩
   | exact ⟨by decide, by decide⟩
   | exact ⟨by decide, by decide, by decide⟩
   | exact ⟨by decide, by decide, by assumption⟩
   | exact ⟨by decide, by decide, by omega⟩
   | exact ⟨by omega, by omega, by decide⟩
   | exact Or.inr ⟨by omega, by omega⟩
   | exact Or.inl ⟨by omega, by omega⟩
   | exact ⟨by omega, by omega⟩)
local macro_rules
 | `(tactic| walk_at "ty") => `(tactic| first | exact L2.TyOf.int _ | exact L2.TyOf.bl _ | exact L2.TyOf.non | ((refine L2.TyOf.lst (xs := ?xs) ?h); (case h => walk_at "look")) | ((refine L2.TyOf.tup (xs := ?xs) ?h); (case h => walk_at "look")) | exact L2.TyOf.str _)
local macro_rules
 | `(tactic| walk_at "kit") => `(tactic| first | exact Stow.kit_ii | exact Stow.kit_ib | exact Stow.kit_bb | exact Stow.kit_ll | exact Stow.kit_tt)
local macro_rules
 | `(tactic| walk_at "sp") => `(tactic| fail "no promise")
local macro_rules
 | `(tactic| walk_at "st") => `(tactic| first
   | ((with_reducible refine Stow.r_var (v := ?v) ?e ?_); (case e => exact rfl))
   | (with_reducible refine Stow.r_seq ?_)
   | (with_reducible refine Stow.r_nx ?_)
   | (with_reducible refine Stow.r_asg ?_)
   | ((with_reducible refine Stow.r_gnameN (σ' := ?s) ?e ?_); (case e => with_reducible (walk_at "set")))
   | (with_reducible refine Stow.r_gname ?_)
   | (with_reducible refine Stow.r_op ?_)
   | (with_reducible refine Stow.r_cons ?_)
   | (with_reducible refine Stow.r_nil ?_)
   | (with_reducible refine Stow.r_c ?_)
   | (with_reducible refine Stow.r_rI0 ?_)
   | (with_reducible refine Stow.r_call ?_)
   | (with_reducible refine Stow.r_cb ?_)
   | (with_reducible refine Stow.r_test ?_)
   | (with_reducible refine Stow.r_tB ?_)
   | (with_reducible refine Stow.r_bl ?_)
   | (with_reducible refine Stow.r_ifS ?_)
   | (with_reducible refine Stow.r_ret ?_)
   | (with_reducible refine Stow.r_rt ?_)
   | (with_reducible refine Stow.r_drop ?_)
   | (with_reducible refine Stow.r_next ?_)
   | (with_reducible refine Stow.r_not ?_)
   | (with_reducible refine Stow.r_and ?_)
   | (with_reducible refine Stow.r_or ?_)
   | (with_reducible refine Stow.r_andV ?_)
   | (with_reducible refine Stow.r_orV ?_)
   | (with_reducible refine Stow.r_notV ?_)
   | (with_reducible refine Stow.r_ifE ?_)
   | (with_reducible refine Stow.r_ifN ?_)
   | (with_reducible refine Stow.r_eqI ?_)
   | (with_reducible refine Stow.r_neI ?_)
   | (with_reducible refine Stow.r_isN ?_)
   | (with_reducible refine Stow.r_int ?_)
   | (with_reducible refine Stow.r_eqB ?_)
   | (with_reducible refine Stow.r_neB ?_)
   | (with_reducible refine Stow.r_tup ?_)
   | (with_reducible refine Stow.r_lst ?_)
   | (with_reducible refine Stow.r_bm ?_)
   | (with_reducible refine Stow.r_bm0 ?_)
   | (with_reducible refine Stow.r_sl ?_)
   | (with_reducible refine Stow.r_part ?_)
   | (with_reducible refine Stow.r_nopart ?_)
   | (with_reducible refine Stow.r_un ?_)
   | (with_reducible refine Stow.r_rU ?_)
   | (with_reducible refine Stow.r_intB ?_)
   | (with_reducible refine Stow.r_intI ?_)
   | (with_reducible refine Stow.r_truB ?_)
   | (with_reducible refine Stow.r_gsub ?_)
   | (with_reducible refine Stow.r_retN ?_)
   | (with_reducible refine Stow.r_ct ?_)
   | (with_reducible refine Stow.r_bk ?_)
   | (with_reducible refine Stow.r_break ?_)
   | (with_reducible refine Stow.r_cont ?_)
   | (with_reducible refine L2.iteT ?_)
   | (with_reducible refine L2.iteF ?_)
   | ((with_reducible refine Stow.r_rI ?c ?_); (case c => walk_at "side"))
   | ((with_reducible refine Stow.r_tyL (xs := ?xs) ?h ?_); (case h => walk_at "look"))
   | ((with_reducible refine Stow.r_appendI (ns := ?ns) ?h ?z ?_); (case h => walk_at "look"); (case z => walk_at "size"))
   | ((with_reducible refine Stow.r_append (xs := ?xs) ?h ?z ?_); (case h => walk_at "look"); (case z => walk_at "size"))
   | ((with_reducible refine Stow.r_gtup (xs := ?xs) ?h ?l ?_); (case h => walk_at "look"); (case l => exact rfl))
   | (with_reducible refine Stow.r_gcons ?_)
   | (with_reducible refine Stow.r_gnil ?_)
   | ((with_reducible refine Stow.r_ixI (ns := ?ns) ?h ?a ?b ?_); (case h => walk_at "seq"); (case a => walk_at "num"); (case b => walk_at "num"))
   | ((with_reducible refine Stow.r_ixT (xs := ?xs) (v := ?v) ?h ?e ?_); (case h => walk_at "look"); (case e => exact rfl))
   | ((with_reducible refine Stow.r_setI (ns := ?ns) ?h ?a ?b ?_); (case h => walk_at "look"); (case a => walk_at "num"); (case b => walk_at "num"))
   | ((with_reducible refine Stow.r_sllG (ns := ?ns) ?h ?_); (case h => walk_at "seq"))
   | ((with_reducible refine Stow.r_sll (xs := ?xs) ?h ?_); (case h => walk_at "seq"))
   | ((with_reducible refine Stow.r_lenI (ns := ?ns) ?h ?_); (case h => walk_at "seq"); (try rw [List.length_map]))
   | ((with_reducible refine Stow.r_lenL (xs := ?xs) ?h ?_); (case h => walk_at "look"))
   | ((with_reducible refine Stow.r_lenT (xs := ?xs) ?h ?_); (case h => walk_at "look"))
   | ((with_reducible refine Stow.r_listI (xs := ?xs) ?h ?_); (case h => walk_at "seq"))
   | ((with_reducible refine Stow.r_isi (t := ?t) (b := ?b) ?y ?e ?_); (case y => walk_at "ty"); (case e => walk_at "kit"))
   | ((with_reducible refine Stow.r_new ?h ?_); (case h => (first | exact Nat.zero_le _ | simp)))
   | ((with_reducible refine Stow.r_truL (xs := ?xs) ?h ?_); (case h => walk_at "seq"))
   | ((with_reducible refine Stow.r_ifdT ?c ?_); (case c => (first | omega | exact rfl)))
   | ((with_reducible refine Stow.r_ifdF ?c ?_); (case c => (first | omega | (intro h; cases h; done))))
   | (with_reducible refine Stow.r_raise ?_)
   | (with_reducible refine Stow.r_raiseI ?_)
   | (with_reducible refine Stow.r_tryAs ?_)
   | (with_reducible refine Stow.r_try ?_)
   | (with_reducible refine Stow.r_fldX ?_)
   | (with_reducible refine Stow.r_for ?_)
   | (with_reducible refine Stow.r_iL ?_)
   | (with_reducible refine Stow.r_iR1 ?_)
   | (with_reducible refine Stow.r_iR2 ?_)
   | (with_reducible refine Stow.r_comp ?_)
   | ((with_reducible refine Stow.r_isiX (C := ?C) (od := ?od) (b := ?b) ?h ?z ?e ?_); (case h => walk_at "look"); (case z => assumption); (case e => assumption))
   | ((with_reducible refine Stow.r_isiN (C := ?C) (od := ?od) (b := ?b) ?h ?z ?n ?e ?_); (case h => walk_at "look"); (case z => assumption); (case n => exact fun z => nomatch z); (case e => assumption))
   | (with_reducible refine Stow.r_makeX ?_)
   | (with_reducible refine Stow.r_makeI ?_)
   | (with_reducible refine Stow.r_fldN ?_)
   | ((with_reducible refine Stow.r_catG (xs := ?xs) (zs := ?zs) ?h ?g ?z ?_); (case h => walk_at "look"); (case g => walk_at "look"); (case z => walk_at "num"))
   | ((with_reducible refine Stow.r_cat (xs := ?xs) (zs := ?zs) ?h ?g ?z ?_); (case h => walk_at "look"); (case g => walk_at "look"); (case z => (refine Nat.le_of_lt (L2.small1000 ?_); first | omega | simp)))
   | ((with_reducible refine Stow.r_slS ?h ?_); (case h => decide))
   | (with_reducible refine Stow.r_max ?_)
   | (with_reducible refine Stow.r_fld ?_)
   | ((with_reducible refine Stow.r_at (C := ?C) (dx := ?dx) (fs := ?fs) (v := ?v) ?h ?c ?n ?l ?_); (case h => walk_at "look"); (case c => assumption); (case n => assumption); (case l => exact rfl))
   | (with_reducible refine Stow.r_sfld ?_)
   | ((with_reducible refine Stow.r_sat (C := ?C) (dx := ?dx) (fs := ?fs) ?h ?c ?n ?l ?_); (case h => walk_at "look"); (case c => assumption); (case n => assumption); (case l => (first | decide | simp)))
   | (with_reducible refine Stow.r_meth ?_)
   | ((with_reducible refine Stow.r_mat (dx := ?dx) (fs := ?fs) ?h ?l ?_); (case h => walk_at "look"); (case l => exact rfl))
   | (with_reducible refine Stow.r_make ?_)
   | (with_reducible refine Stow.r_compG ?_)
   | ((with_reducible refine Stow.r_isiO (C := ?C) (dx := ?dx) (fs := ?fs) (b := ?b) ?h ?z ?e ?_); (case h => walk_at "look"); (case z => assumption); (case e => assumption))
   | (with_reducible refine Stow.r_tryE ?_)
   | (with_reducible refine Stow.r_tryA ?_)
   | (with_reducible refine Stow.r_xCall ?_)
   | (with_reducible refine Stow.r_tryS ?_)
   | (with_reducible refine Stow.r_xSet ?_)
   | (with_reducible refine Stow.r_xIf ?_)
   | (with_reducible refine Stow.r_xMeth ?_)
   | (with_reducible refine Stow.r_xMethD ?_)
   | (with_reducible refine Stow.r_xMake ?_)
   | (with_reducible refine Stow.r_methD ?_)
   | (with_reducible refine Stow.r_isB ?_)
   | ((with_reducible refine Stow.r_notIn (xs := ?xs) ?h ?f ?g ?_); (case h => walk_at "look"); (case f => exact rfl); (case g => exact rfl))
   | walk_at "sp")
local macro_rules
 | `(tactic| walk_at "go") => `(tactic| repeat walk_at "st")
local macro_rules
 | `(tactic| walk_at "len") => `(tactic| first
   | (rintro ⟨e, _⟩; exact congrArg List.length e)
   | (rintro ⟨_, e, _⟩; exact congrArg List.length e)
   | (rintro ⟨_, _, e, _⟩; exact congrArg List.length e)
   | (rintro ⟨_, _, _, e, _⟩; exact congrArg List.length e)
   | (rintro ⟨_, _, _, _, e, _⟩; exact congrArg List.length e)
   | (rintro ⟨_, _, _, _, _, e, _⟩; exact congrArg List.length e)
   | (rintro ⟨_, _, _, _, _, _, e, _⟩; exact congrArg List.length e)
   | (rintro ⟨_, _, _, _, _, _, _, e, _⟩; exact congrArg List.length e)
   | (rintro ⟨_, _, _, _, _, _, _, _, e, _⟩; exact congrArg List.length e)
   | (rintro ⟨_, _, _, _, _, _, _, _, _, e, _⟩; exact congrArg List.length e)
   | (rintro ⟨_, _, _, _, _, _, _, _, _, _, e, _⟩; exact congrArg List.length e)
   | (rintro ⟨_, _, _, _, _, _, _, _, _, _, _, e, _⟩; exact congrArg List.length e)
   | (rintro ⟨_, _, _, _, _, _, _, _, _, _, _, _, e, _⟩; exact congrArg List.length e)
   | (rintro ⟨_, _, _, _, _, _, _, _, _, _, _, _, _, e, _⟩; exact congrArg List.length e)
   | (rintro ⟨_, _, _, _, _, _, _, _, _, _, _, _, _, _, e, _⟩; exact congrArg List.length e)
   | (rintro ⟨_, _, _, _, _, _, _, _, _, _, _, _, _, _, _, e, _⟩; exact congrArg List.length e)
   | (rintro ⟨_, _, _, _, _, _, _, _, _, _, _, _, _, _, _, _, e, _⟩; exact congrArg List.length e)
   | (rintro ⟨_, _, _, _, _, _, _, _, _, _, _, _, _, _, _, _, _, e, _⟩; exact congrArg List.length e))
local macro_rules
 | `(tactic| walk_at "gs") => `(tactic| repeat (first | (with_reducible refine Stow.r_nx ?_) | ((fail_if_success (with_reducible refine Stow.r_isIf ?_)); walk_at "st")))
local macro_rules
 | `(tactic| walk_at "ga") => `(tactic| repeat ((fail_if_success (with_reducible refine Stow.r_isAnd ?_)); (fail_if_success (with_reducible refine Stow.r_isOr ?_)); walk_at "st"))
local macro_rules
 | `(tactic| walk_at "ge") => `(tactic| repeat (first | (with_reducible refine Stow.r_nx ?_) | ((fail_if_success (with_reducible refine Stow.r_isSeq ?_)); walk_at "st")))
local macro_rules
 | `(tactic| walk_at "g1") => `(tactic| ((with_reducible refine Stow.r_seq ?_); walk_at "ge"))
local macro_rules
 | `(tactic| walk_at "sp") => `(tactic| first
   | (with_reducible refine Stow.i_long ?_)
   | (with_reducible refine Stow.i_live ?_)
   | (with_reducible refine Stow.i_whole ?_)
   | ((with_reducible refine Stow.i_cell (ns := ?ns) ?h ?a ?_); (case h => walk_at "seq"); (case a => walk_at "nn"))
   | ((with_reducible refine Stow.i_can (ns := ?ns) ?h ?a ?b ?_); (case h => walk_at "seq"); (case a => walk_at "num"); (case b => walk_at "num"))
   | ((with_reducible refine Stow.i_bad (ns := ?ns) ?h ?a ?b ?_); (case h => walk_at "seq"); (case a => walk_at "num"); (case b => walk_at "num")))
local macro_rules
 | `(tactic| walk_at "nn") => `(tactic| first | decide | omega | exact Int.emod_nonneg _ (by decide) | exact Int.emod_nonneg _ (by omega))
--GEN
namespace Stow
open PySem L2 PyProof.Rows
abbrev s_Z32 : Stmt := top 11
theorem sc_Z32 : FnScope ["count", "bound"] ["count", "bound"] (Xab s_Z32) := ⟨rfl, rfl, rfl, by decide +kernel, rfl, by decide +kernel, by decide +kernel⟩
theorem bi_Z32 (kV doc pm : Value) (an : Option Addr) (cdv ct : Value) (us : List Value) (hl : us.length = ["count", "bound"].length) : bindArgs (PySem.W.fnOf "check_ask" "check_ask" (Xaf s_Z32) (Xae s_Z32) (Xab s_Z32) .none kV doc pm an cdv ct) ⟨us, []⟩ = pure ((["count", "bound"] : List Str).zip us) := match us, hl with | [_, _], _ => rfl
abbrev s_Z4 : Stmt := top 12
theorem sc_Z4 : FnScope ["count", "bound"] ["count", "bound"] (Xab s_Z4) := ⟨rfl, rfl, rfl, by decide +kernel, rfl, by decide +kernel, by decide +kernel⟩
theorem bi_Z4 (kV doc pm : Value) (an : Option Addr) (cdv ct : Value) (us : List Value) (hl : us.length = ["count", "bound"].length) : bindArgs (PySem.W.fnOf "check_plain_ask" "check_plain_ask" (Xaf s_Z4) (Xae s_Z4) (Xab s_Z4) .none kV doc pm an cdv ct) ⟨us, []⟩ = pure ((["count", "bound"] : List Str).zip us) := match us, hl with | [_, _], _ => rfl
abbrev s_Z40 : Stmt := top 14
theorem sc_Z40 : FnScope ["long", "live"] ["long", "live"] (Xab s_Z40) := ⟨rfl, rfl, rfl, by decide +kernel, rfl, by decide +kernel, by decide +kernel⟩
theorem bi_Z40 (kV doc pm : Value) (an : Option Addr) (cdv ct : Value) (us : List Value) (hl : us.length = ["long", "live"].length) : bindArgs (PySem.W.fnOf "mark_of" "mark_of" (Xaf s_Z40) (Xae s_Z40) (Xab s_Z40) .none kV doc pm an cdv ct) ⟨us, []⟩ = pure ((["long", "live"] : List Str).zip us) := match us, hl with | [_, _], _ => rfl
abbrev s_Z43 : Stmt := top 15
theorem sc_Z43 : FnScope ["number"] ["number"] (Xab s_Z43) := ⟨rfl, rfl, rfl, by decide +kernel, rfl, by decide +kernel, by decide +kernel⟩
theorem bi_Z43 (kV doc pm : Value) (an : Option Addr) (cdv ct : Value) (us : List Value) (hl : us.length = ["number"].length) : bindArgs (PySem.W.fnOf "long_of" "long_of" (Xaf s_Z43) (Xae s_Z43) (Xab s_Z43) .none kV doc pm an cdv ct) ⟨us, []⟩ = pure ((["number"] : List Str).zip us) := match us, hl with | [_], _ => rfl
abbrev s_Z42 : Stmt := top 16
theorem sc_Z42 : FnScope ["number"] ["number"] (Xab s_Z42) := ⟨rfl, rfl, rfl, by decide +kernel, rfl, by decide +kernel, by decide +kernel⟩
theorem bi_Z42 (kV doc pm : Value) (an : Option Addr) (cdv ct : Value) (us : List Value) (hl : us.length = ["number"].length) : bindArgs (PySem.W.fnOf "live_of" "live_of" (Xaf s_Z42) (Xae s_Z42) (Xab s_Z42) .none kV doc pm an cdv ct) ⟨us, []⟩ = pure ((["number"] : List Str).zip us) := match us, hl with | [_], _ => rfl
abbrev s_Z33 : Stmt := top 19
theorem sc_Z33 : FnScope ["cells", "at", "long"] ["cells", "at"] (Xab s_Z33) := ⟨rfl, rfl, rfl, by decide +kernel, rfl, by decide +kernel, by decide +kernel⟩
theorem bi_Z33 (kV doc pm : Value) (an : Option Addr) (cdv ct : Value) (us : List Value) (hl : us.length = ["cells", "at"].length) : bindArgs (PySem.W.fnOf "can_begin" "can_begin" (Xaf s_Z33) (Xae s_Z33) (Xab s_Z33) .none kV doc pm an cdv ct) ⟨us, []⟩ = pure ((["cells", "at"] : List Str).zip us) := match us, hl with | [_, _], _ => rfl
abbrev s_Z14 : Stmt := top 20
theorem sc_Z14 : FnScope ["cells", "at", "last"] ["cells", "at"] (Xab s_Z14) := ⟨rfl, rfl, rfl, by decide +kernel, rfl, by decide +kernel, by decide +kernel⟩
theorem bi_Z14 (kV doc pm : Value) (an : Option Addr) (cdv ct : Value) (us : List Value) (hl : us.length = ["cells", "at"].length) : bindArgs (PySem.W.fnOf "bad_of_piece" "bad_of_piece" (Xaf s_Z14) (Xae s_Z14) (Xab s_Z14) .none kV doc pm an cdv ct) ⟨us, []⟩ = pure ((["cells", "at"] : List Str).zip us) := match us, hl with | [_, _], _ => rfl
abbrev s_Z52 : Stmt := top 21
theorem sc_Z52 : FnScope ["cells", "pieces", "at", "bad", "long"] ["cells"] (Xab s_Z52) := ⟨rfl, rfl, rfl, by decide +kernel, rfl, by decide +kernel, by decide +kernel⟩
theorem bi_Z52 (kV doc pm : Value) (an : Option Addr) (cdv ct : Value) (us : List Value) (hl : us.length = ["cells"].length) : bindArgs (PySem.W.fnOf "looked" "looked" (Xaf s_Z52) (Xae s_Z52) (Xab s_Z52) .none kV doc pm an cdv ct) ⟨us, []⟩ = pure ((["cells"] : List Str).zip us) := match us, hl with | [_], _ => rfl
abbrev s_Z28 : Stmt := top 22
theorem sc_Z28 : FnScope ["count", "cells"] ["count"] (Xab s_Z28) := ⟨rfl, rfl, rfl, by decide +kernel, rfl, by decide +kernel, by decide +kernel⟩
theorem bi_Z28 (kV doc pm : Value) (an : Option Addr) (cdv ct : Value) (us : List Value) (hl : us.length = ["count"].length) : bindArgs (PySem.W.fnOf "fresh_room" "fresh_room" (Xaf s_Z28) (Xae s_Z28) (Xab s_Z28) .none kV doc pm an cdv ct) ⟨us, []⟩ = pure ((["count"] : List Str).zip us) := match us, hl with | [_], _ => rfl
abbrev s_Z66 : Stmt := top 24
theorem sc_Z66 : FnScope ["cells", "at", "long", "live", "row"] ["cells", "at", "long", "live"] (Xab s_Z66) := ⟨rfl, rfl, rfl, by decide +kernel, rfl, by decide +kernel, by decide +kernel⟩
theorem bi_Z66 (kV doc pm : Value) (an : Option Addr) (cdv ct : Value) (us : List Value) (hl : us.length = ["cells", "at", "long", "live"].length) : bindArgs (PySem.W.fnOf "laid" "laid" (Xaf s_Z66) (Xae s_Z66) (Xab s_Z66) .none kV doc pm an cdv ct) ⟨us, []⟩ = pure ((["cells", "at", "long", "live"] : List Str).zip us) := match us, hl with | [_, _, _, _], _ => rfl
abbrev s_Z31 : Stmt := top 25
theorem sc_Z31 : FnScope ["cells", "begin", "end"] ["cells", "begin", "end"] (Xab s_Z31) := ⟨rfl, rfl, rfl, by decide +kernel, rfl, by decide +kernel, by decide +kernel⟩
theorem bi_Z31 (kV doc pm : Value) (an : Option Addr) (cdv ct : Value) (us : List Value) (hl : us.length = ["cells", "begin", "end"].length) : bindArgs (PySem.W.fnOf "laid_free" "laid_free" (Xaf s_Z31) (Xae s_Z31) (Xab s_Z31) .none kV doc pm an cdv ct) ⟨us, []⟩ = pure ((["cells", "begin", "end"] : List Str).zip us) := match us, hl with | [_, _, _], _ => rfl
abbrev s_Z37 : Stmt := top 26
theorem sc_Z37 : FnScope ["cells", "at", "piece"] ["cells", "at"] (Xab s_Z37) := ⟨rfl, rfl, rfl, by decide +kernel, rfl, by decide +kernel, by decide +kernel⟩
theorem bi_Z37 (kV doc pm : Value) (an : Option Addr) (cdv ct : Value) (us : List Value) (hl : us.length = ["cells", "at"].length) : bindArgs (PySem.W.fnOf "piece_at" "piece_at" (Xaf s_Z37) (Xae s_Z37) (Xab s_Z37) .none kV doc pm an cdv ct) ⟨us, []⟩ = pure ((["cells", "at"] : List Str).zip us) := match us, hl with | [_, _], _ => rfl
abbrev s_Z48 : Stmt := top 27
theorem sc_Z48 : FnScope ["cells", "at", "piece"] ["cells", "at"] (Xab s_Z48) := ⟨rfl, rfl, rfl, by decide +kernel, rfl, by decide +kernel, by decide +kernel⟩
theorem bi_Z48 (kV doc pm : Value) (an : Option Addr) (cdv ct : Value) (us : List Value) (hl : us.length = ["cells", "at"].length) : bindArgs (PySem.W.fnOf "live_at" "live_at" (Xaf s_Z48) (Xae s_Z48) (Xab s_Z48) .none kV doc pm an cdv ct) ⟨us, []⟩ = pure ((["cells", "at"] : List Str).zip us) := match us, hl with | [_, _], _ => rfl
abbrev s_Z41 : Stmt := top 28
theorem sc_Z41 : FnScope ["cells", "at", "piece"] ["cells", "at"] (Xab s_Z41) := ⟨rfl, rfl, rfl, by decide +kernel, rfl, by decide +kernel, by decide +kernel⟩
theorem bi_Z41 (kV doc pm : Value) (an : Option Addr) (cdv ct : Value) (us : List Value) (hl : us.length = ["cells", "at"].length) : bindArgs (PySem.W.fnOf "free_at" "free_at" (Xaf s_Z41) (Xae s_Z41) (Xab s_Z41) .none kV doc pm an cdv ct) ⟨us, []⟩ = pure ((["cells", "at"] : List Str).zip us) := match us, hl with | [_, _], _ => rfl
abbrev s_Z11 : Stmt := top 29
theorem sc_Z11 : FnScope ["cells", "cell", "begins"] ["cells", "cell"] (Xab s_Z11) := ⟨rfl, rfl, rfl, by decide +kernel, rfl, by decide +kernel, by decide +kernel⟩
theorem bi_Z11 (kV doc pm : Value) (an : Option Addr) (cdv ct : Value) (us : List Value) (hl : us.length = ["cells", "cell"].length) : bindArgs (PySem.W.fnOf "begin_around" "begin_around" (Xaf s_Z11) (Xae s_Z11) (Xab s_Z11) .none kV doc pm an cdv ct) ⟨us, []⟩ = pure ((["cells", "cell"] : List Str).zip us) := match us, hl with | [_, _], _ => rfl
abbrev s_Z20 : Stmt := top 30
theorem sc_Z20 : FnScope ["cells", "at"] ["cells", "at"] (Xab s_Z20) := ⟨rfl, rfl, rfl, by decide +kernel, rfl, by decide +kernel, by decide +kernel⟩
theorem bi_Z20 (kV doc pm : Value) (an : Option Addr) (cdv ct : Value) (us : List Value) (hl : us.length = ["cells", "at"].length) : bindArgs (PySem.W.fnOf "free_begin" "free_begin" (Xaf s_Z20) (Xae s_Z20) (Xab s_Z20) .none kV doc pm an cdv ct) ⟨us, []⟩ = pure ((["cells", "at"] : List Str).zip us) := match us, hl with | [_, _], _ => rfl
abbrev s_Z35 : Stmt := top 31
theorem sc_Z35 : FnScope ["cells", "end"] ["cells", "end"] (Xab s_Z35) := ⟨rfl, rfl, rfl, by decide +kernel, rfl, by decide +kernel, by decide +kernel⟩
theorem bi_Z35 (kV doc pm : Value) (an : Option Addr) (cdv ct : Value) (us : List Value) (hl : us.length = ["cells", "end"].length) : bindArgs (PySem.W.fnOf "free_end" "free_end" (Xaf s_Z35) (Xae s_Z35) (Xab s_Z35) .none kV doc pm an cdv ct) ⟨us, []⟩ = pure ((["cells", "end"] : List Str).zip us) := match us, hl with | [_, _], _ => rfl
abbrev s_Z47 : Stmt := top 32
theorem sc_Z47 : FnScope ["cells", "at", "place", "long", "begin", "free_long", "live", "end", "row"] ["cells", "at", "place", "long"] (Xab s_Z47) := ⟨rfl, rfl, rfl, by decide +kernel, rfl, by decide +kernel, by decide +kernel⟩
theorem bi_Z47 (kV doc pm : Value) (an : Option Addr) (cdv ct : Value) (us : List Value) (hl : us.length = ["cells", "at", "place", "long"].length) : bindArgs (PySem.W.fnOf "cut_out" "cut_out" (Xaf s_Z47) (Xae s_Z47) (Xab s_Z47) .none kV doc pm an cdv ct) ⟨us, []⟩ = pure ((["cells", "at", "place", "long"] : List Str).zip us) := match us, hl with | [_, _, _, _], _ => rfl
abbrev s_Z63 : Stmt := top 33
theorem sc_Z63 : FnScope ["cells", "at", "begin", "long", "live"] ["cells", "at"] (Xab s_Z63) := ⟨rfl, rfl, rfl, by decide +kernel, rfl, by decide +kernel, by decide +kernel⟩
theorem bi_Z63 (kV doc pm : Value) (an : Option Addr) (cdv ct : Value) (us : List Value) (hl : us.length = ["cells", "at"].length) : bindArgs (PySem.W.fnOf "freed" "freed" (Xaf s_Z63) (Xae s_Z63) (Xab s_Z63) .none kV doc pm an cdv ct) ⟨us, []⟩ = pure ((["cells", "at"] : List Str).zip us) := match us, hl with | [_, _], _ => rfl
abbrev s_Z9 : Stmt := top 34
theorem sc_Z9 : FnScope ["pieces", "row", "at", "long", "live"] ["pieces"] (Xab s_Z9) := ⟨rfl, rfl, rfl, by decide +kernel, rfl, by decide +kernel, by decide +kernel⟩
theorem bi_Z9 (kV doc pm : Value) (an : Option Addr) (cdv ct : Value) (us : List Value) (hl : us.length = ["pieces"].length) : bindArgs (PySem.W.fnOf "joined_pieces" "joined_pieces" (Xaf s_Z9) (Xae s_Z9) (Xab s_Z9) .none kV doc pm an cdv ct) ⟨us, []⟩ = pure ((["pieces"] : List Str).zip us) := match us, hl with | [_], _ => rfl
abbrev s_Z49 : Stmt := top 35
theorem sc_Z49 : FnScope ["cells", "row", "at", "long", "live"] ["cells"] (Xab s_Z49) := ⟨rfl, rfl, rfl, by decide +kernel, rfl, by decide +kernel, by decide +kernel⟩
theorem bi_Z49 (kV doc pm : Value) (an : Option Addr) (cdv ct : Value) (us : List Value) (hl : us.length = ["cells"].length) : bindArgs (PySem.W.fnOf "joined" "joined" (Xaf s_Z49) (Xae s_Z49) (Xab s_Z49) .none kV doc pm an cdv ct) ⟨us, []⟩ = pure ((["cells"] : List Str).zip us) := match us, hl with | [_], _ => rfl
abbrev s_Z46 : Stmt := top 36
theorem sc_Z46 : FnScope ["cells", "source", "goal", "count", "row"] ["cells", "source", "goal", "count"] (Xab s_Z46) := ⟨rfl, rfl, rfl, by decide +kernel, rfl, by decide +kernel, by decide +kernel⟩
theorem bi_Z46 (kV doc pm : Value) (an : Option Addr) (cdv ct : Value) (us : List Value) (hl : us.length = ["cells", "source", "goal", "count"].length) : bindArgs (PySem.W.fnOf "carried" "carried" (Xaf s_Z46) (Xae s_Z46) (Xab s_Z46) .none kV doc pm an cdv ct) ⟨us, []⟩ = pure ((["cells", "source", "goal", "count"] : List Str).zip us) := match us, hl with | [_, _, _, _], _ => rfl
abbrev s_Z19 : Stmt := top 40
theorem sc_Z19 : FnScope ["piece", "long", "bound", "at", "piece_long", "live", "place"] ["piece", "long", "bound"] (Xab s_Z19) := ⟨rfl, rfl, rfl, by decide +kernel, rfl, by decide +kernel, by decide +kernel⟩
theorem bi_Z19 (kV doc pm : Value) (an : Option Addr) (cdv ct : Value) (us : List Value) (hl : us.length = ["piece", "long", "bound"].length) : bindArgs (PySem.W.fnOf "first_place" "first_place" (Xaf s_Z19) (Xae s_Z19) (Xab s_Z19) .none kV doc pm an cdv ct) ⟨us, []⟩ = pure ((["piece", "long", "bound"] : List Str).zip us) := match us, hl with | [_, _, _], _ => rfl
abbrev s_Z34 : Stmt := top 41
theorem sc_Z34 : FnScope ["cells", "long", "bound", "spots", "piece", "place"] ["cells", "long", "bound"] (Xab s_Z34) := ⟨rfl, rfl, rfl, by decide +kernel, rfl, by decide +kernel, by decide +kernel⟩
theorem bi_Z34 (kV doc pm : Value) (an : Option Addr) (cdv ct : Value) (us : List Value) (hl : us.length = ["cells", "long", "bound"].length) : bindArgs (PySem.W.fnOf "spots_for" "spots_for" (Xaf s_Z34) (Xae s_Z34) (Xab s_Z34) .none kV doc pm an cdv ct) ⟨us, []⟩ = pure ((["cells", "long", "bound"] : List Str).zip us) := match us, hl with | [_, _, _], _ => rfl
abbrev s_Z16 : Stmt := top 43
theorem sc_Z16 : FnScope ["ranked"] ["ranked"] (Xab s_Z16) := ⟨rfl, rfl, rfl, by decide +kernel, rfl, by decide +kernel, by decide +kernel⟩
theorem bi_Z16 (kV doc pm : Value) (an : Option Addr) (cdv ct : Value) (us : List Value) (hl : us.length = ["ranked"].length) : bindArgs (PySem.W.fnOf "least_place" "least_place" (Xaf s_Z16) (Xae s_Z16) (Xab s_Z16) .none kV doc pm an cdv ct) ⟨us, []⟩ = pure ((["ranked"] : List Str).zip us) := match us, hl with | [_], _ => rfl
abbrev s_Z30 : Stmt := top 47
theorem sc_Z30 : FnScope ["_law_script", "_law_k"] ["_law_script", "_law_k"] (Xab s_Z30) := ⟨rfl, rfl, rfl, by decide +kernel, rfl, by decide +kernel, by decide +kernel⟩
theorem bi_Z30 (kV doc pm : Value) (an : Option Addr) (cdv ct : Value) (us : List Value) (hl : us.length = ["_law_script", "_law_k"].length) : bindArgs (PySem.W.fnOf "_law_cell_at" "_law_cell_at" (Xaf s_Z30) (Xae s_Z30) (Xab s_Z30) .none kV doc pm an cdv ct) ⟨us, []⟩ = pure ((["_law_script", "_law_k"] : List Str).zip us) := match us, hl with | [_, _], _ => rfl
abbrev s_Z45 : Stmt := top 48
theorem sc_Z45 : FnScope ["_law_found"] ["_law_found"] (Xab s_Z45) := ⟨rfl, rfl, rfl, by decide +kernel, rfl, by decide +kernel, by decide +kernel⟩
theorem bi_Z45 (kV doc pm : Value) (an : Option Addr) (cdv ct : Value) (us : List Value) (hl : us.length = ["_law_found"].length) : bindArgs (PySem.W.fnOf "_law_whole" "_law_whole" (Xaf s_Z45) (Xae s_Z45) (Xab s_Z45) .none kV doc pm an cdv ct) ⟨us, []⟩ = pure ((["_law_found"] : List Str).zip us) := match us, hl with | [_], _ => rfl
abbrev s_Z36 : Stmt := top 49
theorem sc_Z36 : FnScope ["_law_pieces", "_law_told", "_law_piece"] ["_law_pieces"] (Xab s_Z36) := ⟨rfl, rfl, rfl, by decide +kernel, rfl, by decide +kernel, by decide +kernel⟩
theorem bi_Z36 (kV doc pm : Value) (an : Option Addr) (cdv ct : Value) (us : List Value) (hl : us.length = ["_law_pieces"].length) : bindArgs (PySem.W.fnOf "_law_as_one" "_law_as_one" (Xaf s_Z36) (Xae s_Z36) (Xab s_Z36) .none kV doc pm an cdv ct) ⟨us, []⟩ = pure ((["_law_pieces"] : List Str).zip us) := match us, hl with | [_], _ => rfl
abbrev s_Z59 : Stmt := top 50
theorem sc_Z59 : FnScope ["_law_pieces", "_law_spot", "_law_long", "_law_due", "_law_piece", "_law_end_here"] ["_law_pieces", "_law_spot", "_law_long"] (Xab s_Z59) := ⟨rfl, rfl, rfl, by decide +kernel, rfl, by decide +kernel, by decide +kernel⟩
theorem bi_Z59 (kV doc pm : Value) (an : Option Addr) (cdv ct : Value) (us : List Value) (hl : us.length = ["_law_pieces", "_law_spot", "_law_long"].length) : bindArgs (PySem.W.fnOf "_law_cut" "_law_cut" (Xaf s_Z59) (Xae s_Z59) (Xab s_Z59) .none kV doc pm an cdv ct) ⟨us, []⟩ = pure ((["_law_pieces", "_law_spot", "_law_long"] : List Str).zip us) := match us, hl with | [_, _, _], _ => rfl
abbrev s_Z57 : Stmt := top 51
theorem sc_Z57 : FnScope ["_law_pieces", "_law_at"] ["_law_pieces", "_law_at"] (Xab s_Z57) := ⟨rfl, rfl, rfl, by decide +kernel, rfl, by decide +kernel, by decide +kernel⟩
theorem bi_Z57 (kV doc pm : Value) (an : Option Addr) (cdv ct : Value) (us : List Value) (hl : us.length = ["_law_pieces", "_law_at"].length) : bindArgs (PySem.W.fnOf "_law_free" "_law_free" (Xaf s_Z57) (Xae s_Z57) (Xab s_Z57) .none kV doc pm an cdv ct) ⟨us, []⟩ = pure ((["_law_pieces", "_law_at"] : List Str).zip us) := match us, hl with | [_, _], _ => rfl
abbrev s_Z60 : Stmt := top 52
theorem sc_Z60 : FnScope ["_law_pieces", "_law_at", "_law_end_here", "_law_piece"] ["_law_pieces", "_law_at"] (Xab s_Z60) := ⟨rfl, rfl, rfl, by decide +kernel, rfl, by decide +kernel, by decide +kernel⟩
theorem bi_Z60 (kV doc pm : Value) (an : Option Addr) (cdv ct : Value) (us : List Value) (hl : us.length = ["_law_pieces", "_law_at"].length) : bindArgs (PySem.W.fnOf "_law_end" "_law_end" (Xaf s_Z60) (Xae s_Z60) (Xab s_Z60) .none kV doc pm an cdv ct) ⟨us, []⟩ = pure ((["_law_pieces", "_law_at"] : List Str).zip us) := match us, hl with | [_, _], _ => rfl
abbrev s_Z29 : Stmt := top 53
theorem sc_Z29 : FnScope ["_law_pieces", "_law_at", "_law_long", "_law_end_here", "_law_due", "_law_piece"] ["_law_pieces", "_law_at", "_law_long", "_law_end_here"] (Xab s_Z29) := ⟨rfl, rfl, rfl, by decide +kernel, rfl, by decide +kernel, by decide +kernel⟩
theorem bi_Z29 (kV doc pm : Value) (an : Option Addr) (cdv ct : Value) (us : List Value) (hl : us.length = ["_law_pieces", "_law_at", "_law_long", "_law_end_here"].length) : bindArgs (PySem.W.fnOf "_law_regrown" "_law_regrown" (Xaf s_Z29) (Xae s_Z29) (Xab s_Z29) .none kV doc pm an cdv ct) ⟨us, []⟩ = pure ((["_law_pieces", "_law_at", "_law_long", "_law_end_here"] : List Str).zip us) := match us, hl with | [_, _, _, _], _ => rfl
abbrev s_Z56 : Stmt := top 54
theorem sc_Z56 : FnScope ["_law_state", "_law_long", "_law_bound", "_law_low", "_law_piece", "_law_spot"] ["_law_state", "_law_long", "_law_bound"] (Xab s_Z56) := ⟨rfl, rfl, rfl, by decide +kernel, rfl, by decide +kernel, by decide +kernel⟩
theorem bi_Z56 (kV doc pm : Value) (an : Option Addr) (cdv ct : Value) (us : List Value) (hl : us.length = ["_law_state", "_law_long", "_law_bound"].length) : bindArgs (PySem.W.fnOf "_law_next" "_law_next" (Xaf s_Z56) (Xae s_Z56) (Xab s_Z56) .none kV doc pm an cdv ct) ⟨us, []⟩ = pure ((["_law_state", "_law_long", "_law_bound"] : List Str).zip us) := match us, hl with | [_, _, _], _ => rfl
abbrev s_Z39 : Stmt := top 55
theorem sc_Z39 : FnScope ["_law_keeper", "_law_way", "_law_place", "_law_count", "_law_bound", "_law_brief", "_law_told"] ["_law_keeper", "_law_way", "_law_place", "_law_count", "_law_bound", "_law_brief"] (Xab s_Z39) := ⟨rfl, rfl, rfl, by decide +kernel, rfl, by decide +kernel, by decide +kernel⟩
theorem bi_Z39 (kV doc pm : Value) (an : Option Addr) (cdv ct : Value) (us : List Value) (hl : us.length = ["_law_keeper", "_law_way", "_law_place", "_law_count", "_law_bound", "_law_brief"].length) : bindArgs (PySem.W.fnOf "_law_answer" "_law_answer" (Xaf s_Z39) (Xae s_Z39) (Xab s_Z39) .none kV doc pm an cdv ct) ⟨us, []⟩ = pure ((["_law_keeper", "_law_way", "_law_place", "_law_count", "_law_bound", "_law_brief"] : List Str).zip us) := match us, hl with | [_, _, _, _, _, _], _ => rfl
abbrev s_Z58 : Stmt := top 56
theorem sc_Z58 : FnScope ["_law_keeper", "_law_state", "_law_way", "_law_place", "_law_count", "_law_bound", "_law_brief", "_law_spot", "_law_told", "_law_found", "_law_pieces"] ["_law_keeper", "_law_state", "_law_way", "_law_place", "_law_count", "_law_bound", "_law_brief"] (Xab s_Z58) := ⟨rfl, rfl, rfl, by decide +kernel, rfl, by decide +kernel, by decide +kernel⟩
theorem bi_Z58 (kV doc pm : Value) (an : Option Addr) (cdv ct : Value) (us : List Value) (hl : us.length = ["_law_keeper", "_law_state", "_law_way", "_law_place", "_law_count", "_law_bound", "_law_brief"].length) : bindArgs (PySem.W.fnOf "_law_new" "_law_new" (Xaf s_Z58) (Xae s_Z58) (Xab s_Z58) .none kV doc pm an cdv ct) ⟨us, []⟩ = pure ((["_law_keeper", "_law_state", "_law_way", "_law_place", "_law_count", "_law_bound", "_law_brief"] : List Str).zip us) := match us, hl with | [_, _, _, _, _, _, _], _ => rfl
abbrev s_Z53 : Stmt := top 57
theorem sc_Z53 : FnScope ["_law_keeper", "_law_state", "_law_at", "_law_count", "_law_bound", "_law_brief", "_law_end_here", "_law_found"] ["_law_keeper", "_law_state", "_law_at", "_law_count", "_law_bound", "_law_brief"] (Xab s_Z53) := ⟨rfl, rfl, rfl, by decide +kernel, rfl, by decide +kernel, by decide +kernel⟩
theorem bi_Z53 (kV doc pm : Value) (an : Option Addr) (cdv ct : Value) (us : List Value) (hl : us.length = ["_law_keeper", "_law_state", "_law_at", "_law_count", "_law_bound", "_law_brief"].length) : bindArgs (PySem.W.fnOf "_law_grow" "_law_grow" (Xaf s_Z53) (Xae s_Z53) (Xab s_Z53) .none kV doc pm an cdv ct) ⟨us, []⟩ = pure ((["_law_keeper", "_law_state", "_law_at", "_law_count", "_law_bound", "_law_brief"] : List Str).zip us) := match us, hl with | [_, _, _, _, _, _], _ => rfl
abbrev s_Z54 : Stmt := top 58
theorem sc_Z54 : FnScope ["_law_keeper", "_law_more", "_law_told"] ["_law_keeper", "_law_more"] (Xab s_Z54) := ⟨rfl, rfl, rfl, by decide +kernel, rfl, by decide +kernel, by decide +kernel⟩
theorem bi_Z54 (kV doc pm : Value) (an : Option Addr) (cdv ct : Value) (us : List Value) (hl : us.length = ["_law_keeper", "_law_more"].length) : bindArgs (PySem.W.fnOf "_law_laid" "_law_laid" (Xaf s_Z54) (Xae s_Z54) (Xab s_Z54) .none kV doc pm an cdv ct) ⟨us, []⟩ = pure ((["_law_keeper", "_law_more"] : List Str).zip us) := match us, hl with | [_, _], _ => rfl
abbrev s_Z38 : Stmt := top 59
theorem sc_Z38 : FnScope ["_law_cells", "_law_pieces", "_law_c", "_law_wide", "_law_piece", "_law_cut_here", "_law_half"] ["_law_cells", "_law_pieces", "_law_c"] (Xab s_Z38) := ⟨rfl, rfl, rfl, by decide +kernel, rfl, by decide +kernel, by decide +kernel⟩
theorem bi_Z38 (kV doc pm : Value) (an : Option Addr) (cdv ct : Value) (us : List Value) (hl : us.length = ["_law_cells", "_law_pieces", "_law_c"].length) : bindArgs (PySem.W.fnOf "_law_parted" "_law_parted" (Xaf s_Z38) (Xae s_Z38) (Xab s_Z38) .none kV doc pm an cdv ct) ⟨us, []⟩ = pure ((["_law_cells", "_law_pieces", "_law_c"] : List Str).zip us) := match us, hl with | [_, _, _], _ => rfl
abbrev s_Z61 : Stmt := top 60
theorem sc_Z61 : FnScope ["_law_keeper", "_law_pieces", "_law_c", "_law_lives", "_law_piece", "_law_k"] ["_law_keeper", "_law_pieces", "_law_c"] (Xab s_Z61) := ⟨rfl, rfl, rfl, by decide +kernel, rfl, by decide +kernel, by decide +kernel⟩
theorem bi_Z61 (kV doc pm : Value) (an : Option Addr) (cdv ct : Value) (us : List Value) (hl : us.length = ["_law_keeper", "_law_pieces", "_law_c"].length) : bindArgs (PySem.W.fnOf "_law_put" "_law_put" (Xaf s_Z61) (Xae s_Z61) (Xab s_Z61) .none kV doc pm an cdv ct) ⟨us, []⟩ = pure ((["_law_keeper", "_law_pieces", "_law_c"] : List Str).zip us) := match us, hl with | [_, _, _], _ => rfl
abbrev s_Z44 : Stmt := top 61
theorem sc_Z44 : FnScope ["_law_keeper", "_law_state", "_law_c", "_law_long", "_law_bound", "_law_spot", "_law_told"] ["_law_keeper", "_law_state", "_law_c"] (Xab s_Z44) := ⟨rfl, rfl, rfl, by decide +kernel, rfl, by decide +kernel, by decide +kernel⟩
theorem bi_Z44 (kV doc pm : Value) (an : Option Addr) (cdv ct : Value) (us : List Value) (hl : us.length = ["_law_keeper", "_law_state", "_law_c"].length) : bindArgs (PySem.W.fnOf "_law_looks" "_law_looks" (Xaf s_Z44) (Xae s_Z44) (Xab s_Z44) .none kV doc pm an cdv ct) ⟨us, []⟩ = pure ((["_law_keeper", "_law_state", "_law_c"] : List Str).zip us) := match us, hl with | [_, _, _], _ => rfl
abbrev s_Z50 : Stmt := top 62
theorem sc_Z50 : FnScope ["_law_keeper", "_law_state", "_law_c", "_law_way", "_law_count", "_law_how", "_law_bound", "_law_brief", "_law_lives", "_law_at"] ["_law_keeper", "_law_state", "_law_c"] (Xab s_Z50) := ⟨rfl, rfl, rfl, by decide +kernel, rfl, by decide +kernel, by decide +kernel⟩
theorem bi_Z50 (kV doc pm : Value) (an : Option Addr) (cdv ct : Value) (us : List Value) (hl : us.length = ["_law_keeper", "_law_state", "_law_c"].length) : bindArgs (PySem.W.fnOf "_law_step" "_law_step" (Xaf s_Z50) (Xae s_Z50) (Xab s_Z50) .none kV doc pm an cdv ct) ⟨us, []⟩ = pure ((["_law_keeper", "_law_state", "_law_c"] : List Str).zip us) := match us, hl with | [_, _, _], _ => rfl
abbrev s_law : Stmt := top 63
theorem sc_law : FnScope ["_law_script", "_law_size", "_law_keeper", "_law_state", "_law_c", "_law_told"] ["_law_script"] (Xab s_law) := ⟨rfl, rfl, rfl, by decide +kernel, rfl, by decide +kernel, by decide +kernel⟩
theorem bi_law (kV doc pm : Value) (an : Option Addr) (cdv ct : Value) (us : List Value) (hl : us.length = ["_law_script"].length) : bindArgs (PySem.W.fnOf "law" "law" (Xaf s_law) (Xae s_law) (Xab s_law) .none kV doc pm an cdv ct) ⟨us, []⟩ = pure ((["_law_script"] : List Str).zip us) := match us, hl with | [_], _ => rfl
abbrev Xbv : Stmt := Xaj (top 3) 0
theorem sc_Broken_init : FnScope ["self", "cell"] ["self", "cell"] (Xab Xbv) := ⟨rfl, rfl, rfl, by decide +kernel, rfl, by decide +kernel, by decide +kernel⟩
theorem bi_Broken_init (kV doc pm : Value) (an : Option Addr) (cdv ct : Value) (us : List Value) (hl : us.length = ["self", "cell"].length) : bindArgs (PySem.W.fnOf "__init__" "Broken.__init__" (Xaf Xbv) (Xae Xbv) (Xab Xbv) .none kV doc pm an cdv ct) ⟨us, []⟩ = pure ((["self", "cell"] : List Str).zip us) := match us, hl with | [_, _], _ => rfl
abbrev Xbt : Stmt := Xaj (top 38) 0
theorem sc_Keeper_init : FnScope ["self", "size"] ["self", "size"] (Xab Xbt) := ⟨rfl, rfl, rfl, by decide +kernel, rfl, by decide +kernel, by decide +kernel⟩
theorem bi_Keeper_init (kV doc pm : Value) (an : Option Addr) (cdv ct : Value) (us : List Value) (hl : us.length = ["self", "size"].length) : bindArgs (PySem.W.fnOf "__init__" "Keeper.__init__" (Xaf Xbt) (Xae Xbt) (Xab Xbt) .none kV doc pm an cdv ct) ⟨us, []⟩ = pure ((["self", "size"] : List Str).zip us) := match us, hl with | [_, _], _ => rfl
abbrev Xch : Stmt := Xaj (top 45) 0
theorem sc_Next_init : FnScope ["self", "size"] ["self", "size"] (Xab Xch) := ⟨rfl, rfl, rfl, by decide +kernel, rfl, by decide +kernel, by decide +kernel⟩
theorem bi_Next_init (kV doc pm : Value) (an : Option Addr) (cdv ct : Value) (us : List Value) (hl : us.length = ["self", "size"].length) : bindArgs (PySem.W.fnOf "__init__" "Next.__init__" (Xaf Xch) (Xae Xch) (Xab Xch) .none kV doc pm an cdv ct) ⟨us, []⟩ = pure ((["self", "size"] : List Str).zip us) := match us, hl with | [_, _], _ => rfl
abbrev s_Z3 : Stmt := Xaj (top 45) 3
theorem sc_Z3 : FnScope ["self", "cells"] ["self", "cells"] (Xab s_Z3) := ⟨rfl, rfl, rfl, by decide +kernel, rfl, by decide +kernel, by decide +kernel⟩
theorem bi_Z3 (kV doc pm : Value) (an : Option Addr) (cdv ct : Value) (us : List Value) (hl : us.length = ["self", "cells"].length) : bindArgs (PySem.W.fnOf "room_begin" "Next.room_begin" (Xaf s_Z3) (Xae s_Z3) (Xab s_Z3) .none kV doc pm an cdv ct) ⟨us, []⟩ = pure ((["self", "cells"] : List Str).zip us) := match us, hl with | [_, _], _ => rfl
abbrev s_Z22 : Stmt := Xaj (top 38) 3
theorem sc_Z22 : FnScope ["self", "cells"] ["self", "cells"] (Xab s_Z22) := ⟨rfl, rfl, rfl, by decide +kernel, rfl, by decide +kernel, by decide +kernel⟩
theorem bi_Z22 (kV doc pm : Value) (an : Option Addr) (cdv ct : Value) (us : List Value) (hl : us.length = ["self", "cells"].length) : bindArgs (PySem.W.fnOf "lay" "Keeper.lay" (Xaf s_Z22) (Xae s_Z22) (Xab s_Z22) .none kV doc pm an cdv ct) ⟨us, []⟩ = pure ((["self", "cells"] : List Str).zip us) := match us, hl with | [_, _], _ => rfl
abbrev s_Z10 : Stmt := Xaj (top 38) 4
theorem sc_Z10 : FnScope ["self"] ["self"] (Xab s_Z10) := ⟨rfl, rfl, rfl, by decide +kernel, rfl, by decide +kernel, by decide +kernel⟩
theorem bi_Z10 (kV doc pm : Value) (an : Option Addr) (cdv ct : Value) (us : List Value) (hl : us.length = ["self"].length) : bindArgs (PySem.W.fnOf "clear" "Keeper.clear" (Xaf s_Z10) (Xae s_Z10) (Xab s_Z10) .none kV doc pm an cdv ct) ⟨us, []⟩ = pure ((["self"] : List Str).zip us) := match us, hl with | [_], _ => rfl
abbrev s_Z7 : Stmt := Xaj (top 38) 2
theorem sc_Z7 : FnScope ["self"] ["self"] (Xab s_Z7) := ⟨rfl, rfl, rfl, by decide +kernel, rfl, by decide +kernel, by decide +kernel⟩
theorem bi_Z7 (kV doc pm : Value) (an : Option Addr) (cdv ct : Value) (us : List Value) (hl : us.length = ["self"].length) : bindArgs (PySem.W.fnOf "pieces" "Keeper.pieces" (Xaf s_Z7) (Xae s_Z7) (Xab s_Z7) .none kV doc pm an cdv ct) ⟨us, []⟩ = pure ((["self"] : List Str).zip us) := match us, hl with | [_], _ => rfl
abbrev s_Z13 : Stmt := Xaj (top 38) 1
theorem sc_Z13 : FnScope ["self"] ["self"] (Xab s_Z13) := ⟨rfl, rfl, rfl, by decide +kernel, rfl, by decide +kernel, by decide +kernel⟩
theorem bi_Z13 (kV doc pm : Value) (an : Option Addr) (cdv ct : Value) (us : List Value) (hl : us.length = ["self"].length) : bindArgs (PySem.W.fnOf "cells" "Keeper.cells" (Xaf s_Z13) (Xae s_Z13) (Xab s_Z13) .none kV doc pm an cdv ct) ⟨us, []⟩ = pure ((["self"] : List Str).zip us) := match us, hl with | [_], _ => rfl
abbrev s_Z25 : Stmt := Xaj (top 45) 1
theorem sc_Z25 : FnScope ["self"] ["self"] (Xab s_Z25) := ⟨rfl, rfl, rfl, by decide +kernel, rfl, by decide +kernel, by decide +kernel⟩
theorem bi_Z25 (kV doc pm : Value) (an : Option Addr) (cdv ct : Value) (us : List Value) (hl : us.length = ["self"].length) : bindArgs (PySem.W.fnOf "rover" "Next.rover" (Xaf s_Z25) (Xae s_Z25) (Xab s_Z25) .none kV doc pm an cdv ct) ⟨us, []⟩ = pure ((["self"] : List Str).zip us) := match us, hl with | [_], _ => rfl
abbrev s_Z2 : Stmt := Xaj (top 45) 4
theorem sc_Z2 : FnScope ["self", "behind"] ["self", "behind"] (Xab s_Z2) := ⟨rfl, rfl, rfl, by decide +kernel, rfl, by decide +kernel, by decide +kernel⟩
theorem bi_Z2 (kV doc pm : Value) (an : Option Addr) (cdv ct : Value) (us : List Value) (hl : us.length = ["self", "behind"].length) : bindArgs (PySem.W.fnOf "room_granted" "Next.room_granted" (Xaf s_Z2) (Xae s_Z2) (Xab s_Z2) .none kV doc pm an cdv ct) ⟨us, []⟩ = pure ((["self", "behind"] : List Str).zip us) := match us, hl with | [_, _], _ => rfl
abbrev s_Z18 : Stmt := Xaj (top 38) 5
theorem sc_Z18 : FnScope ["self", "place", "at", "long", "live"] ["self", "place"] (Xab s_Z18) := ⟨rfl, rfl, rfl, by decide +kernel, rfl, by decide +kernel, by decide +kernel⟩
theorem bi_Z18 (kV doc pm : Value) (an : Option Addr) (cdv ct : Value) (us : List Value) (hl : us.length = ["self", "place"].length) : bindArgs (PySem.W.fnOf "many" "Keeper.many" (Xaf s_Z18) (Xae s_Z18) (Xab s_Z18) .none kV doc pm an cdv ct) ⟨us, []⟩ = pure ((["self", "place"] : List Str).zip us) := match us, hl with | [_, _], _ => rfl
abbrev s_Z0 : Stmt := Xaj (top 38) 12
theorem sc_Z0 : FnScope ["self", "place", "k", "many"] ["self", "place", "k"] (Xab s_Z0) := ⟨rfl, rfl, rfl, by decide +kernel, rfl, by decide +kernel, by decide +kernel⟩
theorem bi_Z0 (kV doc pm : Value) (an : Option Addr) (cdv ct : Value) (us : List Value) (hl : us.length = ["self", "place", "k"].length) : bindArgs (PySem.W.fnOf "room_cell_of" "Keeper.room_cell_of" (Xaf s_Z0) (Xae s_Z0) (Xab s_Z0) .none kV doc pm an cdv ct) ⟨us, []⟩ = pure ((["self", "place", "k"] : List Str).zip us) := match us, hl with | [_, _, _], _ => rfl
abbrev s_Z23 : Stmt := Xaj (top 38) 7
theorem sc_Z23 : FnScope ["self", "place", "k", "number", "cell"] ["self", "place", "k", "number"] (Xab s_Z23) := ⟨rfl, rfl, rfl, by decide +kernel, rfl, by decide +kernel, by decide +kernel⟩
theorem bi_Z23 (kV doc pm : Value) (an : Option Addr) (cdv ct : Value) (us : List Value) (hl : us.length = ["self", "place", "k", "number"].length) : bindArgs (PySem.W.fnOf "put" "Keeper.put" (Xaf s_Z23) (Xae s_Z23) (Xab s_Z23) .none kV doc pm an cdv ct) ⟨us, []⟩ = pure ((["self", "place", "k", "number"] : List Str).zip us) := match us, hl with | [_, _, _, _], _ => rfl
abbrev s_Z24 : Stmt := Xaj (top 38) 6
theorem sc_Z24 : FnScope ["self", "place", "k"] ["self", "place", "k"] (Xab s_Z24) := ⟨rfl, rfl, rfl, by decide +kernel, rfl, by decide +kernel, by decide +kernel⟩
theorem bi_Z24 (kV doc pm : Value) (an : Option Addr) (cdv ct : Value) (us : List Value) (hl : us.length = ["self", "place", "k"].length) : bindArgs (PySem.W.fnOf "get" "Keeper.get" (Xaf s_Z24) (Xae s_Z24) (Xab s_Z24) .none kV doc pm an cdv ct) ⟨us, []⟩ = pure ((["self", "place", "k"] : List Str).zip us) := match us, hl with | [_, _, _], _ => rfl
abbrev s_Z17 : Stmt := Xaj (top 45) 2
theorem sc_Z17 : FnScope ["self", "long", "bound", "spots"] ["self", "long", "bound"] (Xab s_Z17) := ⟨rfl, rfl, rfl, by decide +kernel, rfl, by decide +kernel, by decide +kernel⟩
theorem bi_Z17 (kV doc pm : Value) (an : Option Addr) (cdv ct : Value) (us : List Value) (hl : us.length = ["self", "long", "bound"].length) : bindArgs (PySem.W.fnOf "chosen" "Next.chosen" (Xaf s_Z17) (Xae s_Z17) (Xab s_Z17) .none kV doc pm an cdv ct) ⟨us, []⟩ = pure ((["self", "long", "bound"] : List Str).zip us) := match us, hl with | [_, _, _], _ => rfl
abbrev s_Z8 : Stmt := Xaj (top 44) 1
theorem sc_Z8 : FnScope ["self", "count", "bound", "long", "at"] ["self", "count", "bound"] (Xab s_Z8) := ⟨rfl, rfl, rfl, by decide +kernel, rfl, by decide +kernel, by decide +kernel⟩
theorem bi_Z8 (T : Addr) (d1 : Value) (kV doc pm : Value) (an : Option Addr) (cdv ct : Value) (us : List Value) (hl : us.length = ["self", "count", "bound"].length) : ∃ k : Option (Array Value) → Sem (List (Str × Value)), bindArgs (PySem.W.fnOf "ask" "Stretches.ask" (Xaf s_Z8) (Xae s_Z8) (Xab s_Z8) (.ref T) kV doc pm an cdv ct) ⟨us, []⟩ = seqItems? (.ref T) >>= k ∧ k (some [d1].toArray) = pure ((["self", "count", "bound"] : List Str).zip us) := match us, hl with | [_, _, _], _ => ⟨_, rfl, rfl⟩
theorem bd_Z8 (T : Addr) (d1 : Value) (kV doc pm : Value) (an : Option Addr) (cdv ct : Value) (us : List Value) (hl : (us ++ [d1]).length = ["self", "count", "bound"].length) : ∃ k : Option (Array Value) → Sem (List (Str × Value)), bindArgs (PySem.W.fnOf "ask" "Stretches.ask" (Xaf s_Z8) (Xae s_Z8) (Xab s_Z8) (.ref T) kV doc pm an cdv ct) ⟨us, []⟩ = seqItems? (.ref T) >>= k ∧ k (some [d1].toArray) = pure ((["self", "count", "bound"] : List Str).zip (us ++ [d1])) := match us, (show us.length = 2 by simpa using hl) with | [_, _], _ => ⟨_, rfl, rfl⟩
abbrev s_Z5 : Stmt := Xaj (top 44) 2
theorem sc_Z5 : FnScope ["self", "place"] ["self", "place"] (Xab s_Z5) := ⟨rfl, rfl, rfl, by decide +kernel, rfl, by decide +kernel, by decide +kernel⟩
theorem bi_Z5 (kV doc pm : Value) (an : Option Addr) (cdv ct : Value) (us : List Value) (hl : us.length = ["self", "place"].length) : bindArgs (PySem.W.fnOf "give" "Stretches.give" (Xaf s_Z5) (Xae s_Z5) (Xab s_Z5) .none kV doc pm an cdv ct) ⟨us, []⟩ = pure ((["self", "place"] : List Str).zip us) := match us, hl with | [_, _], _ => rfl
abbrev s_Z1 : Stmt := Xaj (top 38) 13
theorem sc_Z1 : FnScope ["self", "place", "count", "bound", "goal"] ["self", "place", "count", "bound"] (Xab s_Z1) := ⟨rfl, rfl, rfl, by decide +kernel, rfl, by decide +kernel, by decide +kernel⟩
theorem bi_Z1 (kV doc pm : Value) (an : Option Addr) (cdv ct : Value) (us : List Value) (hl : us.length = ["self", "place", "count", "bound"].length) : bindArgs (PySem.W.fnOf "room_moved" "Keeper.room_moved" (Xaf s_Z1) (Xae s_Z1) (Xab s_Z1) .none kV doc pm an cdv ct) ⟨us, []⟩ = pure ((["self", "place", "count", "bound"] : List Str).zip us) := match us, hl with | [_, _, _, _], _ => rfl
abbrev s_Z6 : Stmt := Xaj (top 44) 3
theorem sc_Z6 : FnScope ["self", "place", "count", "bound", "at", "had", "live", "long", "end"] ["self", "place", "count", "bound"] (Xab s_Z6) := ⟨rfl, rfl, rfl, by decide +kernel, rfl, by decide +kernel, by decide +kernel⟩
theorem bi_Z6 (T : Addr) (d1 : Value) (kV doc pm : Value) (an : Option Addr) (cdv ct : Value) (us : List Value) (hl : us.length = ["self", "place", "count", "bound"].length) : ∃ k : Option (Array Value) → Sem (List (Str × Value)), bindArgs (PySem.W.fnOf "grow" "Stretches.grow" (Xaf s_Z6) (Xae s_Z6) (Xab s_Z6) (.ref T) kV doc pm an cdv ct) ⟨us, []⟩ = seqItems? (.ref T) >>= k ∧ k (some [d1].toArray) = pure ((["self", "place", "count", "bound"] : List Str).zip us) := match us, hl with | [_, _, _, _], _ => ⟨_, rfl, rfl⟩
theorem bd_Z6 (T : Addr) (d1 : Value) (kV doc pm : Value) (an : Option Addr) (cdv ct : Value) (us : List Value) (hl : (us ++ [d1]).length = ["self", "place", "count", "bound"].length) : ∃ k : Option (Array Value) → Sem (List (Str × Value)), bindArgs (PySem.W.fnOf "grow" "Stretches.grow" (Xaf s_Z6) (Xae s_Z6) (Xab s_Z6) (.ref T) kV doc pm an cdv ct) ⟨us, []⟩ = seqItems? (.ref T) >>= k ∧ k (some [d1].toArray) = pure ((["self", "place", "count", "bound"] : List Str).zip (us ++ [d1])) := match us, (show us.length = 3 by simpa using hl) with | [_, _, _], _ => ⟨_, rfl, rfl⟩
structure Txt (K : PySem.W.Frag) (mg : Str → Option Value) (Y0 Y8 Y4 Y3 Y6 Y9 Y2 Y7 Y5 Y1 Y10 : Addr) (W0_ : Tok) (W1_ : Tok) : Prop where
 n_bool : mg "bool" = none
 n_int : mg "int" = none
 n_isinstance : mg "isinstance" = none
 n_len : mg "len" = none
 n_list : mg "list" = none
 n_min : mg "min" = none
 n_range : mg "range" = none
 g_LEAST_LIVE : mg "LEAST_LIVE" = some (.int 3 W0_)
 g_MARKS : mg "MARKS" = some (.int 2 W1_)
 c_StowError : mg "StowError" = some (.ref Y0)
 c_NoSize : mg "NoSize" = some (.ref Y8)
 c_Broken : mg "Broken" = some (.ref Y4)
 c_NoPiece : mg "NoPiece" = some (.ref Y3)
 c_NoCell : mg "NoCell" = some (.ref Y6)
 c_NoAsk : mg "NoAsk" = some (.ref Y9)
 c_NoBound : mg "NoBound" = some (.ref Y2)
 c_NoRoom : mg "NoRoom" = some (.ref Y7)
 c_Keeper : mg "Keeper" = some (.ref Y5)
 c_Stretches : mg "Stretches" = some (.ref Y1)
 c_Next : mg "Next" = some (.ref Y10)
 s_Broken : XSet K Y4 "cell"
 x_NoSize : XCls K mg "NoSize" Y8
 x_NoPiece : XCls K mg "NoPiece" Y3
 x_NoRoom : XCls K mg "NoRoom" Y7
 cl_Next : Cls K Y10
 na_Next_room_cells : Xdp K Y10 "room_cells"
 na_Next_room_rover : Xdp K Y10 "room_rover"
 f_NoRoom_NoRoom : Fits K Y7 Y7 true
 f_NoSize_NoSize : Fits K Y8 Y8 true
 f_Broken_NoSize : Fits K Y4 Y8 false
 f_Broken_Broken : Fits K Y4 Y4 true
def spMark : Sp := fun vs H Q _ => ∃ (n : Int) (v : Bool), vs = [.int n, .bl v] ∧ n.natAbs < 2 ^ 220 ∧ Q (.int (n * 2 + if v then 1 else 0)) H
section
variable {P : Program} {w : World} {base : Heap} {K : PySem.W.Frag} {mg : Str → Option Value} {Y0 Y8 Y4 Y3 Y6 Y9 Y2 Y7 Y5 Y1 Y10 : Addr} {W0_ : Tok} {W1_ : Tok}
theorem d_Z40 (S : Src K mg "mark_of" s_Z40) (T : Txt K mg Y0 Y8 Y4 Y3 Y6 Y9 Y2 Y7 Y5 Y1 Y10 W0_ W1_)  : Defx P w K mg base "mark_of" 1 ["long", "live"] (spMark) := by
 refine S.okx sc_Z40 bi_Z40 (fun vs H Q E h => by revert h; walk_at "len") (fun f cdv A outer s H vs Q E hr h => ?_)
 refine ⟨_, PSs.nox (Xad (Xbn (Xbm (pv 1) (fun _ => rfl)) (Xah (Xao (Xai op_or (Xai op_shlB (pv 0) Xac) Xac))) Xat) (Xah (Xao (Xai op_shlB (pv 0) Xac)))), ?_⟩
 obtain ⟨n, v, rfl, hn, q⟩ := h
 walk_at "go"
 refine Xdy (fun hv => ?_) (fun hv => ?_)
 · walk_at "go"
   rw [two1, bitOr_one]
   subst hv
   exact q
 · walk_at "go"
   rw [two1]
   subst hv
   rw [if_neg Bool.false_ne_true, Int.add_zero] at q
   exact q
theorem d_Z43 (S : Src K mg "long_of" s_Z43) (T : Txt K mg Y0 Y8 Y4 Y3 Y6 Y9 Y2 Y7 Y5 Y1 Y10 W0_ W1_)  : Defx P w K mg base "long_of" 1 ["number"] (spLong) := by
 refine S.okx sc_Z43 bi_Z43 (fun vs H Q E h => by revert h; walk_at "len") (fun f cdv A outer s H vs Q E hr h => ?_)
 refine ⟨_, PSs.nox (Xah (Xao (Xai op_shr (pv 0) Xac))), ?_⟩
 obtain ⟨n, rfl, q⟩ := h
 walk_at "go"
 rw [two1]
 exact q
theorem d_Z42 (S : Src K mg "live_of" s_Z42) (T : Txt K mg Y0 Y8 Y4 Y3 Y6 Y9 Y2 Y7 Y5 Y1 Y10 W0_ W1_)  : Defx P w K mg base "live_of" 1 ["number"] (spLive) := by
 refine S.okx sc_Z42 bi_Z42 (fun vs H Q E h => by revert h; walk_at "len") (fun f cdv A outer s H vs Q E hr h => ?_)
 refine ⟨_, PSs.nox (Xah (Xao (Xcv Xcw (Xai op_and (pv 0) Xac) Xac (Xan _)))), ?_⟩
 obtain ⟨n, rfl, q⟩ := h
 walk_at "go"
 rw [live_eq2]
 exact q
theorem d_Z33 (S : Src K mg "can_begin" s_Z33) (T : Txt K mg Y0 Y8 Y4 Y3 Y6 Y9 Y2 Y7 Y5 Y1 Y10 W0_ W1_) (D_Z43 : Defx P w K mg base "long_of" 1 ["number"] (spLong)) (D_Z42 : Defx P w K mg base "live_of" 1 ["number"] (spLive)) : Defx P w K mg base "can_begin" 2 ["cells", "at"] (spCan K) := by
 refine S.okx sc_Z33 bi_Z33 (fun vs H Q E h => by revert h; walk_at "len") (fun f cdv A outer s H vs Q E hr h => ?_)
 refine ⟨_, PSs.nox (Xad (Xar (i := 2) sc_Z33.nd rfl (Or.inl rfl) (Xak D_Z43 hr (by rfl) (Xaa (Xaq Xbi (pv 0) (pv 1) (fun _ _ => rfl)) Xag))) (Xad (Xbn (PW.pt (Xdk (Xal Xfr (pv 2) Xac (Xan _)) (Xcr (Xal op_gt (Xai Xau (pv 1) (pv 2)) (Xcc Xbp (by rfl) T.n_len PySem.boot_len (Xaa (pv 0) Xag)) (Xan _))))) (Xah (Xao Xdt)) Xat) (Xah (Xao (pe_or (Xcv op_ge (pv 2) (pe_glob (v := .int 3) (by rfl) T.g_LEAST_LIVE ⟨_, rfl⟩) (Xan _)) (Xgd (pe_not (Xak D_Z42 hr (by rfl) (Xaa (Xaq Xbi (pv 0) (pv 1) (fun _ _ => rfl)) Xag))))))))), ?_⟩
 obtain ⟨a, ns, k, rfl, hS, h0, h1, q⟩ := h
 have q' : ∀ c, Xbu ns k = c → Q (.bl c) H := fun c e => e ▸ q
 walk_at "go"
 refine Xce (fun hc => ?_) (fun hc => ?_)
 · walk_at "go"
   exact q' false (by unfold Xbu; rw [if_pos (Or.inl hc)])
 · walk_at "go"
   refine Xce (fun hd => ?_) (fun hd => ?_)
   · walk_at "go"
     exact q' false (by unfold Xbu; rw [if_pos (Or.inr hd)])
   · walk_at "go"
     have ec : Xbu ns k = (decide (3 ≤ ns.getD k.toNat 0 / 2) || !decide (ns.getD k.toNat 0 % 2 = 1)) := by
       unfold Xbu
       rw [if_neg (by omega)]
     refine Xdy (fun he => ?_) (fun he => ?_)
     · walk_at "go"
       exact q' true (by rw [ec, he, Bool.true_or])
     · walk_at "go"
       exact q' _ (by rw [ec, he, Bool.false_or])
theorem d_Z14 (S : Src K mg "bad_of_piece" s_Z14) (T : Txt K mg Y0 Y8 Y4 Y3 Y6 Y9 Y2 Y7 Y5 Y1 Y10 W0_ W1_) (D_Z43 : Defx P w K mg base "long_of" 1 ["number"] (spLong)) (D_Z33 : Defx P w K mg base "can_begin" 2 ["cells", "at"] (spCan K)) : Defx P w K mg base "bad_of_piece" 3 ["cells", "at"] (spBad K) := by
 refine S.okx sc_Z14 bi_Z14 (fun vs H Q E h => by revert h; walk_at "len") (fun f cdv A outer s H vs Q E hr h => ?_)
 refine ⟨_, PSs.nox (Xad (Xbn (Xcm (Xem (Xak D_Z33 hr (by rfl) (Xaa (pv 0) (Xaa (pv 1) Xag))))) (Xah (Xao (pv 1))) Xat) (Xad (Xar (i := 2) sc_Z14.nd rfl (Or.inl rfl) (Xai Xcd (Xai Xau (pv 1) (Xak D_Z43 hr (by rfl) (Xaa (Xaq Xbi (pv 0) (pv 1) (fun _ _ => rfl)) Xag))) Xac)) (Xad (Xbn (Xal op_ne (Xaq Xbi (pv 0) (pv 2) (fun _ _ => rfl)) (Xaq Xbi (pv 0) (pv 1) (fun _ _ => rfl)) (Xan _)) (Xah (Xao (pv 2))) Xat) (Xah (Xao Xcn))))), ?_⟩
 obtain ⟨a, ns, k, rfl, hS, h0, h1, q⟩ := h
 have q' : ∀ c, Xdj ns k = c → Q (optV c) H := fun c e => e ▸ q
 walk_at "go"
 refine Xdy (fun hc => ?_) (fun hc => ?_)
 · obtain ⟨b1, b2, _⟩ := (canBegin_iff ns k).mp hc
   walk_at "go"
   refine Xce (fun hd => ?_) (fun hd => ?_)
   · walk_at "go"
     exact q' none (bad_well hc hd)
   · walk_at "go"
     exact q' (some _) (bad_last hc hd)
 · walk_at "go"
   exact q' (some k) (bad_no hc)
theorem d_Broken {P : Program} {w : World} {base : Heap} {K : PySem.W.Frag} {mg : Str → Option Value} {Y4 Y0 : Addr} {fI : Addr} {fd : FuncData} (F : Fun K "__init__" "Broken.__init__" Xbv fI fd) (XI : XIni K mg "Broken" Y4 Y0 fI) (Z : XSet K Y4 "cell") : DefI P w K mg base "Broken" Y4 Y0 1 ["self", "cell"] (spInit Y4 "cell") := by
 refine ⟨fI, fd, XI, Xbz F sc_Broken_init (fun vs H Q E h => ?_) (fun cdv A outer s H vs Q E hr h => ?_), F.binds bi_Broken_init⟩
 · obtain ⟨y, v, rfl, _⟩ := h
   rfl
 · obtain ⟨y, v, rfl, hy, q⟩ := h
   exact ⟨_, PSs.nox (Xah (ps_fldX (pv 0) (pv 1))), _, rfl, _, rfl, y, _, rfl, hy, Z, fun dx hd => q dx hd⟩
def LkW (H : Hp) (a p : Addr) (ns : List Int) (m : Nat) (σ : L2.St) (H' : Hp) : Prop :=
 ∃ (ds : List Pc) (us : List V) (k : Int) (x y : Option V), σ = [some (.ref a), some (.ref p), some (.int k), x, y] ∧ m = (ns.length - k).toNat ∧ 0 ≤ k ∧ k ≤ ns.length ∧ (ds.length : Int) ≤ k ∧ WPre ns ds k ∧ Same H H' ∧ H' p = some (.lst us) ∧ Xas H' us ds
theorem d_Z52 (S : Src K mg "looked" s_Z52) (T : Txt K mg Y0 Y8 Y4 Y3 Y6 Y9 Y2 Y7 Y5 Y1 Y10 W0_ W1_) (D_Z43 : Defx P w K mg base "long_of" 1 ["number"] (spLong)) (D_Z42 : Defx P w K mg base "live_of" 1 ["number"] (spLive)) (D_Z14 : Defx P w K mg base "bad_of_piece" 3 ["cells", "at"] (spBad K)) (D_Broken : DefI P w K mg base "Broken" Y4 Y0 1 ["self", "cell"] (spInit Y4 "cell")) : Defx P w K mg base "looked" 4 ["cells"] (Xed K Y4) := by
 refine S.okx sc_Z52 bi_Z52 (fun vs H Q E h => by revert h; walk_at "len") (fun f cdv A outer s H vs Q E hr h => ?_)
 refine ⟨_, (Xad (Xar (i := 1) sc_Z52.nd rfl (Or.inl rfl) (Xdi Xag)) (Xad (Xar (i := 2) sc_Z52.nd rfl (Or.inl rfl) Xac) (Xad (ps_while PassesOwn.leaving (Xal Xfr (pv 2) (Xcc Xbp (by rfl) T.n_len PySem.boot_len (Xaa (pv 0) Xag)) (Xan _)) (Xad (Xar (i := 3) sc_Z52.nd rfl (Or.inl rfl) (Xak D_Z14 hr (by rfl) (Xaa (pv 0) (Xaa (pv 2) Xag)))) (Xad (Xbn (Xal op_notN (pv 3) Xcn (Xan _)) (Xah (ps_raiseD D_Broken hr rfl (Xaa (pv 3) Xag))) Xat) (Xad (Xar (i := 4) sc_Z52.nd rfl (Or.inl rfl) (Xak D_Z43 hr (by rfl) (Xaa (Xaq Xbi (pv 0) (pv 2) (fun _ _ => rfl)) Xag))) (Xad (Xbq (pe_bm PySem.F.plainAttrs_list PySem.F.slot_list_append PySem.F.type_list_append Xcb (pv 1) (Xaa (Xci (Xaa (pv 2) (Xaa (pv 4) (Xaa (Xak D_Z42 hr (by rfl) (Xaa (Xaq Xbi (pv 0) (pv 2) (fun _ _ => rfl)) Xag)) Xag)))) Xag))) (Xah (Xar (i := 2) sc_Z52.nd rfl (Or.inl rfl) (Xai Xau (pv 2) (pv 4))))))))) (Xah (Xao (pv 1)))))), ?_⟩
 obtain ⟨a, ns, rfl, hS, hz, qe, q⟩ := h
 walk_at "go"
 intro p hp
 walk_at "go"
 refine ⟨LkW H a p ns, ⟨_, [], [], 0, none, none, rfl, rfl, by omega, by omega, by decide, WPre.nil ns, Same.new hp, upd_same, Xas.nil⟩, ?_⟩
 rintro m σ H' ⟨ds, us, k, x, y, rfl, rfl, h0, hkl, hdl, w, s1, hp', pa⟩
 have hul := pa.1
 have hS' : SqL K H' a (ns.map V.int) := s1.seq hS
 walk_at "go"
 refine Xce (fun hlt => ?_) (fun hlt => ?_)
 · refine ⟨fun σ' H'' => ∃ m', m' < (ns.length - k).toNat ∧ LkW H a p ns m' σ' H'', fun σ' H'' hw => hw, ?_⟩
   walk_at "go"
   cases hb : Xdj ns k with
   | some b =>
     walk_at "go"
     refine r_made (fun dx hd => ?_)
     exact qe b (by rw [w.bad hlt hb]) dx _ (s1.put (s1.free hd)) upd_same
   | none =>
     obtain ⟨b1, b2, b3⟩ := bad_pos hb
     walk_at "go"
     intro t ht
     have hpt : p ≠ t := Xaw hp' ht
     walk_at "go"
     obtain ⟨g1, g2⟩ := Xas.push (z := pcAt ns k) pa hp' ht
     dsimp only [pcAt] at g1 g2
     refine ⟨_, ?_, ds ++ [pcAt ns k], us ++ [.ref t], k + ns.getD k.toNat 0 / 2, _, _, rfl, rfl, by omega, by omega, ?_, w.step hlt hb, (s1.put (s1.free ht)).put hp, g1, g2⟩
     · omega
     · rw [List.length_append, List.length_singleton]
       omega
 · walk_at "go"
   exact q (by rw [w.fin hlt]) p us H' hp s1 hp' (by rw [w.fin hlt]; exact pa)
def Xdr (n : Int) : List Int := Xbw (List.replicate n.toNat 0) 0 n false
theorem Xfv {n : Int} (h : 0 ≤ n) : ((Xdr n).length : Int) = n := by
 unfold Xdr
 rw [Xbg, List.length_replicate]
 omega
theorem rep_flat (n : Nat) : (List.replicate n [V.int 0]).flatten = (List.replicate n (0 : Int)).map V.int := by
 induction n with
 | zero => rfl
 | succ n ih => rw [List.replicate_succ, List.flatten_cons, ih, List.replicate_succ, List.map_cons]; rfl
def spFresh (C : Addr) : Sp := fun vs H Q E => ∃ n : Int, vs = [.int n] ∧ n ≤ 4000 ∧ (n < 1 → E (.ref C) none H) ∧ (1 ≤ n → ∀ (p : Addr) (H' : Hp), H p = none → Same H H' → H' p = some (.lst ((Xdr n).map V.int)) → Q (.ref p) H')
theorem d_Z28 (S : Src K mg "fresh_room" s_Z28) (T : Txt K mg Y0 Y8 Y4 Y3 Y6 Y9 Y2 Y7 Y5 Y1 Y10 W0_ W1_) (D_Z40 : Defx P w K mg base "mark_of" 1 ["long", "live"] (spMark)) : Defx P w K mg base "fresh_room" 2 ["count"] (spFresh Y8) := by
 refine S.okx sc_Z28 bi_Z28 (fun vs H Q E h => by revert h; walk_at "len") (fun f cdv A outer s H vs Q E hr h => ?_)
 refine ⟨_, (Xad (Xbn (Xal Xfr (pv 0) Xac (Xan _)) (Xah (Xeb T.x_NoSize hr.hd rfl (Xaa pe_str Xag))) Xat) (Xad (Xar (i := 1) sc_Z28.nd rfl (Or.inl rfl) (Xai op_rep (Xdi (Xaa Xac Xag)) (pv 0))) (Xad (Xdo (Xak D_Z40 hr (by rfl) (Xaa (pv 0) (Xaa Xdt Xag))) (Xfu (pv 1) Xac Xdd)) (Xad (Xdo (Xak D_Z40 hr (by rfl) (Xaa (pv 0) (Xaa Xdt Xag))) (Xfu (pv 1) (Xai Xcd (pv 0) Xac) Xdd)) (Xah (Xao (pv 1))))))), ?_⟩
 obtain ⟨n, rfl, h4, qe, q⟩ := h
 walk_at "go"
 refine Xce (fun hc => ?_) (fun hc => ?_)
 · walk_at "go"
   exact qe hc
 · have hn : n.natAbs < 2 ^ 220 := Nat.lt_of_le_of_lt (show n.natAbs ≤ 4000 by omega) (by decide)
   walk_at "go"
   intro l hl
   walk_at "go"
   refine ⟨l, n, _, rfl, rfl, upd_same, by omega, by omega, (by show 1 * n.toNat ≤ sizeLine; exact Nat.le_of_lt (small4000 (by omega))), fun p hp => ?_⟩
   rw [rep_flat]
   have np := (Same.new hl).free hp
   have s1 : Same H (upd (upd H l (.lst [.int 0])) p (.lst ((List.replicate n.toNat (0 : Int)).map V.int))) := (Same.new hl).put np
   have e1 : upd (upd H l (.lst [.int 0])) p (.lst ((List.replicate n.toNat (0 : Int)).map V.int)) p = some (.lst ((List.replicate n.toNat (0 : Int)).map V.int)) := upd_same
   generalize upd (upd H l (.lst [.int 0])) p (.lst ((List.replicate n.toNat (0 : Int)).map V.int)) = H1 at s1 e1 ⊢
   have hlr : (List.replicate n.toNat (0 : Int)).length = n.toNat := List.length_replicate
   walk_at "go"
   refine ⟨n, false, rfl, hn, ?_⟩
   walk_at "go"
   refine ⟨n, false, rfl, hn, ?_⟩
   walk_at "go"
   refine q (by omega) p _ np ((s1.put np).put np) ?_
   unfold Xdr Xbw
   rw [show (0 : Int) + n - 1 = n - 1 by omega]
   exact upd_same
def spLaid (K : PySem.W.Frag) : Sp := fun vs H Q _ => ∃ (a : Addr) (cs : List Int) (k l : Int) (v : Bool), vs = [.ref a, .int k, .int l, .bl v] ∧ SqL K H a (cs.map V.int) ∧ cs.length ≤ 4000 ∧ 0 ≤ k ∧ 1 ≤ l ∧ k + l ≤ cs.length ∧
 ∀ (p : Addr) (H' : Hp), H p = none → Same H H' → H' p = some (.lst ((Xbw cs k l v).map V.int)) → Q (.ref p) H'
theorem d_Z66 (S : Src K mg "laid" s_Z66) (T : Txt K mg Y0 Y8 Y4 Y3 Y6 Y9 Y2 Y7 Y5 Y1 Y10 W0_ W1_) (D_Z40 : Defx P w K mg base "mark_of" 1 ["long", "live"] (spMark)) : Defx P w K mg base "laid" 2 ["cells", "at", "long", "live"] (spLaid K) := by
 refine S.okx sc_Z66 bi_Z66 (fun vs H Q E h => by revert h; walk_at "len") (fun f cdv A outer s H vs Q E hr h => ?_)
 refine ⟨_, PSs.nox (Xad (Xar (i := 4) sc_Z66.nd rfl (Or.inl rfl) (Xev Xcy (by rfl) T.n_list PyProof.Rows.boot_list (Xaa (pv 0) Xag))) (Xad (Xdo (Xak D_Z40 hr (by rfl) (Xaa (pv 2) (Xaa (pv 3) Xag))) (Xfu (pv 4) (pv 1) Xdd)) (Xad (Xdo (Xak D_Z40 hr (by rfl) (Xaa (pv 2) (Xaa (pv 3) Xag))) (Xfu (pv 4) (Xai Xcd (Xai Xau (pv 1) (pv 2)) Xac) Xdd)) (Xah (Xao (pv 4)))))), ?_⟩
 obtain ⟨a, cs, k, l, v, rfl, hS, hz, h0, h1, hl, q⟩ := h
 have hn : l.natAbs < 2 ^ 220 := Nat.lt_of_le_of_lt (show l.natAbs ≤ 4000 by omega) (by decide)
 walk_at "go"
 intro p hp
 walk_at "go"
 refine ⟨l, v, rfl, hn, ?_⟩
 walk_at "go"
 refine ⟨l, v, rfl, hn, ?_⟩
 walk_at "go"
 refine q p _ hp (((Same.new hp).put hp).put hp) upd_same
def Xfc (K : PySem.W.Frag) : Sp := fun vs H Q _ => ∃ (a : Addr) (cs : List Int) (b e : Int), vs = [.ref a, .int b, .int e] ∧ SqL K H a (cs.map V.int) ∧ cs.length ≤ 4000 ∧ 0 ≤ b ∧ b ≤ e ∧ e ≤ cs.length ∧
 ∀ (p : Addr) (H' : Hp), H p = none → Same H H' → H' p = some (.lst ((lfI cs b e).map V.int)) → Q (.ref p) H'
theorem d_Z31 (S : Src K mg "laid_free" s_Z31) (T : Txt K mg Y0 Y8 Y4 Y3 Y6 Y9 Y2 Y7 Y5 Y1 Y10 W0_ W1_) (D_Z66 : Defx P w K mg base "laid" 2 ["cells", "at", "long", "live"] (spLaid K)) : Defx P w K mg base "laid_free" 3 ["cells", "begin", "end"] (Xfc K) := by
 refine S.okx sc_Z31 bi_Z31 (fun vs H Q E h => by revert h; walk_at "len") (fun f cdv A outer s H vs Q E hr h => ?_)
 refine ⟨_, PSs.nox (Xad (Xbn (Xal Xcw (pv 1) (pv 2) (Xan _)) (Xah (Xao (Xev Xcy (by rfl) T.n_list PyProof.Rows.boot_list (Xaa (pv 0) Xag)))) Xat) (Xah (Xao (Xak D_Z66 hr (by rfl) (Xaa (pv 0) (Xaa (pv 1) (Xaa (Xai Xcd (pv 2) (pv 1)) (Xaa Xdt Xag)))))))), ?_⟩
 obtain ⟨a, cs, b, e, rfl, hS, hz, h0, h1, hl, q⟩ := h
 walk_at "go"
 refine Xce (fun he => ?_) (fun he => ?_)
 · walk_at "go"
   intro p hp
   walk_at "go"
   refine q p _ hp (Same.new hp) ?_
   unfold lfI
   rw [if_pos he]
   exact upd_same
 · walk_at "go"
   refine ⟨a, cs, b, e - b, false, rfl, hS, hz, h0, by omega, by omega, fun p H' hp s1 g1 => ?_⟩
   walk_at "go"
   refine q p H' hp s1 ?_
   unfold lfI
   rw [if_neg he]
   exact g1
def spJoinP (K : PySem.W.Frag) : Sp := fun vs H Q _ => ∃ (b : Addr) (us : List V) (ps : List Pc), vs = [.ref b] ∧ H b = some (.lst us) ∧ Xas H us ps ∧ ps.length ≤ 4000 ∧
 ∀ (p : Addr) (ws : List V) (H' : Hp), H p = none → Same H H' → H' p = some (.lst ws) → Xas H' ws (Xcf ps) → Q (.ref p) H'
def JpW (f0 : Option V) (p : Addr) (ps : List Pc) (H : Hp) (i : Nat) (σ : L2.St) (H' : Hp) : Prop :=
 ∃ (ws : List V) (x2 x3 x4 : Option V), σ = [f0, some (.ref p), x2, x3, x4] ∧ Same H H' ∧ H' p = some (.lst ws) ∧ Xas H' ws (Xcf (ps.take i))
theorem d_Z9 (S : Src K mg "joined_pieces" s_Z9) (T : Txt K mg Y0 Y8 Y4 Y3 Y6 Y9 Y2 Y7 Y5 Y1 Y10 W0_ W1_)  : Defx P w K mg base "joined_pieces" 1 ["pieces"] (spJoinP K) := by
 refine S.okx sc_Z9 bi_Z9 (fun vs H Q E h => by revert h; walk_at "len") (fun f cdv A outer s H vs Q E hr h => ?_)
 refine ⟨_, PSs.nox (Xad (Xar (i := 1) sc_Z9.nd rfl (Or.inl rfl) (Xdi Xag)) (Xad (Xew PassesOwn.never rfl (Xcg (pv 0)) (pg_tup rfl (Xba (Xax (i := 2) sc_Z9.nd rfl (Or.inl rfl)) (Xba (Xax (i := 3) sc_Z9.nd rfl (Or.inl rfl)) (Xba (Xax (i := 4) sc_Z9.nd rfl (Or.inl rfl)) Xee)))) (Xah (Xbn (PW.pt (Xda (Xbm (pv 1) (fun _ => rfl)) (Xda (Xcm (Xbm (pv 4) (fun _ => rfl))) (Xcu (Xcm (Xbm (Xaq Xap (Xaq Xbi (pv 1) (pe_un Xeg Xac) (fun _ _ => rfl)) Xac (fun _ _ => rfl)) (fun _ => rfl))))))) (Xah (Xdo (Xci (Xaa (Xaq Xap (Xaq Xbi (pv 1) (pe_un Xeg Xac) (fun _ _ => rfl)) Xac (fun _ _ => rfl)) (Xaa (Xai Xau (Xaq Xap (Xaq Xbi (pv 1) (pe_un Xeg Xac) (fun _ _ => rfl)) Xac (fun _ _ => rfl)) (pv 3)) (Xaa Xdt Xag)))) (Xfu (pv 1) (pe_un Xeg Xac) Xdd))) (Xah (Xbq (pe_bm PySem.F.plainAttrs_list PySem.F.slot_list_append PySem.F.type_list_append Xcb (pv 1) (Xaa (Xci (Xaa (pv 2) (Xaa (pv 3) (Xaa (pv 4) Xag)))) Xag))))))) (Xah (Xao (pv 1))))), ?_⟩
 obtain ⟨b, us, ps, rfl, hb, pa, hz, q⟩ := h
 have hul := pa.1
 walk_at "go"
 intro p hp
 walk_at "go"
 refine ⟨b, rfl, ⟨_, SqL.of (Same.new hp b _ hb)⟩, Xcp (K := K) (a := b) (xs := us) (JpW (some (.ref b)) p ps H) ⟨[], none, none, none, rfl, Same.new hp, upd_same, Xas.nil⟩ (fun i σ H2 _ ⟨_, _, _, _, _, s2, _⟩ => SqL.of (s2 b _ hb)) ?_ ?_⟩
 · rintro i y σ H2 hi ⟨ws, x2, x3, x4, rfl, s2, hp2, pw⟩
   have hil : i < us.length := (List.getElem?_eq_some_iff.mp hi).1
   have hip : i < ps.length := by omega
   have hz1 : ps[i]? = some ps[i] := by simp [hip]
   obtain ⟨t, et, hT⟩ := pa.2 i ps[i] hz1
   have ey : y = .ref t := Option.some.inj (hi.symm.trans et)
   subst ey
   have hT2 := s2 t _ hT
   have hj := Xds hz1
   have hle := Xet ps i (by omega)
   generalize ps[i] = z at hT2 hj
   have hwl := pw.1
   rcases Xbk (Xcf (ps.take i)) with e | ⟨D, w, e⟩
   · rw [e] at pw hj hwl
     have ew : ws = [] := List.length_eq_zero_iff.mp hwl
     subst ew
     walk_at "go"
     refine iteT ?_
     walk_at "go"
     intro t2 ht2
     walk_at "go"
     obtain ⟨g1, g2⟩ := Xas.push (z := z) pw hp2 ht2
     exact ⟨_, _, _, _, rfl, (s2.put (s2.free ht2)).put hp, g1, by rw [hj]; exact g2⟩
   · rw [e] at pw hj hle
     obtain ⟨ui, t1, rfl, pi, h1⟩ := pw.unsnoc
     have hem : (ui ++ [V.ref t1]).isEmpty = false := by simp
     rw [List.length_append, List.length_singleton] at hle
     have hpl := pi.1
     have hsz : (ui ++ [V.ref t1]).length < 4000 := by rw [List.length_append, List.length_singleton]; omega
     walk_at "go"
     rw [hem]
     walk_at "go"
     refine Xdy (fun hv => ?_) (fun hv => ?_)
     · walk_at "go"
       intro t2 ht2
       walk_at "go"
       obtain ⟨g1, g2⟩ := Xas.push (z := z) pw hp2 ht2
       exact ⟨_, _, _, _, rfl, (s2.put (s2.free ht2)).put hp, g1, by rw [hj, Xby hv]; exact g2⟩
     · walk_at "go"
       refine Xdb (SqL.of hp2) ?_
       walk_at "go"
       refine Xdy (fun hv2 => ?_) (fun hv2 => ?_)
       · walk_at "go"
         intro t2 ht2
         walk_at "go"
         obtain ⟨g1, g2⟩ := Xas.push (z := z) pw hp2 ht2
         exact ⟨_, _, _, _, rfl, (s2.put (s2.free ht2)).put hp, g1, by rw [hj, Xbx hv2]; exact g2⟩
       · walk_at "go"
         refine Xdb (SqL.of hp2) ?_
         walk_at "go"
         refine Xdb (SqL.of hp2) ?_
         walk_at "go"
         intro t2 ht2
         walk_at "go"
         refine r_setLast (xs := ui) (v := .ref t1) (look_put ht2 hp2) ?_
         walk_at "go"
         have g := Xas.relast (z := ⟨w.a, w.l + z.l, false⟩) pi hp2 ht2
         exact ⟨_, _, _, _, rfl, (s2.put (s2.free ht2)).put hp, upd_same, by rw [hj, Xbs hv2 hv]; exact g⟩
 · rintro σ H2 ⟨ws, x2, x3, x4, rfl, s2, hp2, pw⟩
   walk_at "go"
   rw [List.take_of_length_le (by omega)] at pw
   exact q p ws H2 hp s2 hp2 pw
def spJoined (K : PySem.W.Frag) : Sp := fun vs H Q _ => ∃ (a : Addr) (cs : List Int) (ps : List Pc), vs = [.ref a] ∧ SqL K H a (cs.map V.int) ∧ cs.length ≤ 4000 ∧ Xam 0 ps cs.length ∧ Xck cs 0 = (ps, none) ∧
 ∀ (p : Addr) (H' : Hp), H p = none → Same H H' → H' p = some (.lst ((Xdh cs (Xcf ps)).map V.int)) → Q (.ref p) H'
def JdW (f0 : Option V) (lp : Addr) (us : List V) (js : List Pc) (cs : List Int) (H : Hp) (i : Nat) (σ : L2.St) (H' : Hp) : Prop :=
 ∃ (r : Addr) (x2 x3 x4 : Option V), σ = [f0, some (.ref r), x2, x3, x4] ∧ H r = none ∧ Same H H' ∧ H' r = some (.lst ((Xdh cs (js.take i)).map V.int)) ∧ H' lp = some (.lst us) ∧ Xas H' us js
theorem d_Z49 (S : Src K mg "joined" s_Z49) (T : Txt K mg Y0 Y8 Y4 Y3 Y6 Y9 Y2 Y7 Y5 Y1 Y10 W0_ W1_) (D_Z52 : Defx P w K mg base "looked" 4 ["cells"] (Xed K Y4)) (D_Z9 : Defx P w K mg base "joined_pieces" 1 ["pieces"] (spJoinP K)) (D_Z66 : Defx P w K mg base "laid" 2 ["cells", "at", "long", "live"] (spLaid K)) : Defx P w K mg base "joined" 5 ["cells"] (spJoined K) := by
 refine S.okx sc_Z49 bi_Z49 (fun vs H Q E h => by revert h; walk_at "len") (fun f cdv A outer s H vs Q E hr h => ?_)
 refine ⟨_, PSs.nox (Xad (Xar (i := 1) sc_Z49.nd rfl (Or.inl rfl) (Xev Xcy (by rfl) T.n_list PyProof.Rows.boot_list (Xaa (pv 0) Xag))) (Xad (Xew PassesOwn.never rfl (Xcg (Xak D_Z9 hr (by rfl) (Xaa (Xak D_Z52 hr (by rfl) (Xaa (pv 0) Xag)) Xag))) (pg_tup rfl (Xba (Xax (i := 2) sc_Z49.nd rfl (Or.inl rfl)) (Xba (Xax (i := 3) sc_Z49.nd rfl (Or.inl rfl)) (Xba (Xax (i := 4) sc_Z49.nd rfl (Or.inl rfl)) Xee)))) (Xah (Xar (i := 1) sc_Z49.nd rfl (Or.inl rfl) (Xak D_Z66 hr (by rfl) (Xaa (pv 1) (Xaa (pv 2) (Xaa (pv 3) (Xaa (pv 4) Xag)))))))) (Xah (Xao (pv 1))))), ?_⟩
 obtain ⟨a, cs, ps, rfl, hS, hz, hc, hw, q⟩ := h
 walk_at "go"
 intro r0 hr0
 have s0 : Same H (upd H r0 (.lst (cs.map V.int))) := Same.new hr0
 have e0 : upd H r0 (.lst (cs.map V.int)) r0 = some (.lst (cs.map V.int)) := upd_same
 generalize upd H r0 (.lst (cs.map V.int)) = H0 at s0 e0 ⊢
 walk_at "go"
 refine ⟨a, cs, rfl, s0.seq hS, hz, (fun c hc => by rw [hw] at hc; cases hc), fun _ lp us H1 nlp s1 hlp pa => ?_⟩
 have pa : Xas H1 us ps := by rw [hw] at pa; exact pa
 have hps : (ps.length : Int) ≤ cs.length := by have := hc.le; omega
 walk_at "go"
 refine ⟨lp, us, ps, rfl, hlp, pa, by omega, fun jp js H2 njp s2 hjp pj => ?_⟩
 have jc := joinF_chain hc
 generalize Xcf ps = qs at pj jc q
 have hjl := pj.1
 have s02 := (s0.trans s1).trans s2
 refine ⟨jp, rfl, ⟨_, SqL.of hjp⟩, Xcp (K := K) (a := jp) (xs := js) (JdW (some (.ref a)) jp js qs cs H) ⟨r0, none, none, none, rfl, hr0, s02, s2 _ _ (s1 _ _ e0), hjp, pj⟩ (fun i σ H2 _ ⟨_, _, _, _, _, _, _, _, h, _⟩ => SqL.of h) ?_ ?_⟩
 · rintro i y σ H3 hi ⟨r, x2, x3, x4, rfl, nr, s3, hr3, hj3, pj3⟩
   have hil : i < js.length := (List.getElem?_eq_some_iff.mp hi).1
   have hip : i < qs.length := by omega
   have hz1 : qs[i]? = some qs[i] := by simp [hip]
   obtain ⟨t, et, hT⟩ := pj3.2 i qs[i] hz1
   have ey : y = .ref t := Option.some.inj (hi.symm.trans et)
   subst ey
   have hj := layAll_take (cs := cs) hz1
   obtain ⟨z0, z1, _, z4⟩ := jc.mem qs[i] (by simp)
   generalize qs[i] = z at hT hj z0 z1 z4
   have hll := Xdf (qs.take i) cs
   walk_at "go"
   refine ⟨r, Xdh cs (qs.take i), z.a, z.l, z.v, rfl, SqL.of hr3, by omega, z0, z1, by omega, fun p H4 np s4 hp4 => ?_⟩
   walk_at "go"
   exact ⟨p, _, _, _, rfl, s3.free np, s3.trans s4, by rw [hj]; exact hp4, s4 _ _ hj3, pj3.same s4⟩
 · rintro σ H3 ⟨r, x2, x3, x4, rfl, nr, s3, hr3, hj3, pj3⟩
   walk_at "go"
   rw [List.take_of_length_le (by omega)] at hr3
   exact q r H3 nr s3 hr3
def spPieceAt (K : PySem.W.Frag) (C : Addr) : Sp := fun vs H Q E => ∃ (a : Addr) (cs : List Int) (ps : List Pc) (k : Int), vs = [.ref a, .int k] ∧ SqL K H a (cs.map V.int) ∧ cs.length ≤ 4000 ∧ Xck cs 0 = (ps, none) ∧
 (∀ z ∈ ps, z.a = k → ∀ (t : Addr) (H' : Hp), Same H H' → H' t = some (.tup [.int z.a, .int z.l, .bl z.v]) → Q (.ref t) H') ∧
 ((∀ z ∈ ps, z.a ≠ k) → ∀ (H' : Hp), Same H H' → E (.ref C) none H')
def PaW (f0 f1 : Option V) (H1 : Hp) (ps : List Pc) (k : Int) (i : Nat) (σ : L2.St) (H' : Hp) : Prop := H1 = H' ∧ ∃ x2 : Option V, σ = [f0, f1, x2] ∧ ∀ z ∈ ps.take i, z.a ≠ k
theorem d_Z37 (S : Src K mg "piece_at" s_Z37) (T : Txt K mg Y0 Y8 Y4 Y3 Y6 Y9 Y2 Y7 Y5 Y1 Y10 W0_ W1_) (D_Z52 : Defx P w K mg base "looked" 4 ["cells"] (Xed K Y4)) : Defx P w K mg base "piece_at" 5 ["cells", "at"] (spPieceAt K Y3) := by
 refine S.okx sc_Z37 bi_Z37 (fun vs H Q E h => by revert h; walk_at "len") (fun f cdv A outer s H vs Q E hr h => ?_)
 refine ⟨_, (Xad (Xew PassesOwn.leaving rfl (Xcg (Xen D_Z52 hr (by rfl) (Xaa (pv 0) Xag))) (Xax (i := 2) sc_Z37.nd rfl (Or.inl rfl)) (Xah (Xbn (Xal Xcw (Xaq Xap (pv 2) Xac (fun _ _ => rfl)) (pv 1) (Xan _)) (Xah (Xao (pv 2))) Xat))) (Xah (Xeb T.x_NoPiece hr.hd rfl (Xaa pe_str Xag)))), ?_⟩
 obtain ⟨a, cs, ps, k, rfl, hS, hz, hw, q, qe⟩ := h
 walk_at "go"
 refine ⟨a, cs, rfl, hS, hz, (fun c hc => by rw [hw] at hc; cases hc), fun _ lp us H1 nlp s1 hlp pa => ?_⟩
 have pa : Xas H1 us ps := by rw [hw] at pa; exact pa
 have hul := pa.1
 refine ⟨lp, rfl, ⟨_, SqL.of hlp⟩, Xcp (K := K) (a := lp) (xs := us) (PaW (some (.ref a)) (some (.int k)) H1 ps k) ⟨rfl, none, rfl, fun z hz => by cases hz⟩ (fun i σ H2 _ ⟨h, _⟩ => h ▸ SqL.of hlp) ?_ ?_⟩
 · rintro i y σ H2 hi ⟨rfl, x2, rfl, hq⟩
   have hil : i < us.length := (List.getElem?_eq_some_iff.mp hi).1
   have hip : i < ps.length := by omega
   obtain ⟨t, et, hT⟩ := pa.2 i ps[i] (by simp [hip])
   have ey : y = .ref t := Option.some.inj (hi.symm.trans et)
   subst ey
   walk_at "go"
   refine Xce (fun hk => ?_) (fun hk => ?_)
   · walk_at "go"
     exact q ps[i] (by simp) hk t _ s1 hT
   · walk_at "go"
     refine ⟨rfl, _, rfl, fun z hz => ?_⟩
     rw [List.take_add_one, List.getElem?_eq_getElem hip] at hz
     rcases List.mem_append.mp hz with h | h
     · exact hq z h
     · have : z = ps[i] := by simpa using h
       rw [this]; exact hk
 · rintro σ H2 ⟨rfl, x2, rfl, hq⟩
   rw [List.take_of_length_le (by omega)] at hq
   walk_at "go"
   exact qe hq _ s1
def Xgb (K : PySem.W.Frag) (C : Addr) (v : Bool) : Sp := fun vs H Q E => ∃ (a : Addr) (cs : List Int) (ps : List Pc) (k : Int), vs = [.ref a, .int k] ∧ SqL K H a (cs.map V.int) ∧ cs.length ≤ 4000 ∧ Xck cs 0 = (ps, none) ∧ Xam 0 ps cs.length ∧
 (∀ z ∈ ps, z.a = k → z.v = v → ∀ (t : Addr) (H' : Hp), Same H H' → H' t = some (.tup [.int z.a, .int z.l, .bl z.v]) → Q (.ref t) H') ∧
 ((∀ z ∈ ps, z.a = k → z.v ≠ v) → ∀ (H' : Hp), Same H H' → E (.ref C) none H')
theorem d_Z48 (S : Src K mg "live_at" s_Z48) (T : Txt K mg Y0 Y8 Y4 Y3 Y6 Y9 Y2 Y7 Y5 Y1 Y10 W0_ W1_) (D_Z37 : Defx P w K mg base "piece_at" 5 ["cells", "at"] (spPieceAt K Y3)) : Defx P w K mg base "live_at" 6 ["cells", "at"] (Xgb K Y3 true) := by
 refine S.okx sc_Z48 bi_Z48 (fun vs H Q E h => by revert h; walk_at "len") (fun f cdv A outer s H vs Q E hr h => ?_)
 refine ⟨_, (Xad (Xar (i := 2) sc_Z48.nd rfl (Or.inl rfl) (Xen D_Z37 hr (by rfl) (Xaa (pv 0) (Xaa (pv 1) Xag)))) (Xad (Xbn (Xcm (Xbm (Xaq Xap (pv 2) Xac (fun _ _ => rfl)) (fun _ => rfl))) (Xah (Xeb T.x_NoPiece hr.hd rfl (Xaa pe_str Xag))) Xat) (Xah (Xao (pv 2))))), ?_⟩
 obtain ⟨a, cs, ps, k, rfl, hS, hz, hw, hc, q, qe⟩ := h
 walk_at "go"
 refine ⟨a, cs, ps, k, rfl, hS, hz, hw, fun z hm hk t H1 s1 ht => ?_, fun hn H1 s1 => qe (fun z hz hk => absurd hk (hn z hz)) _ s1⟩
 walk_at "go"
 refine Xdy (fun hv => ?_) (fun hv => ?_)
 · walk_at "go"
   exact q z hm hk hv t _ s1 ht
 · walk_at "go"
   refine qe (fun y hy hk2 => ?_) _ s1
   rw [Xdg hc hy hm (by omega), hv]
   exact fun z => nomatch z
theorem d_Z41 (S : Src K mg "free_at" s_Z41) (T : Txt K mg Y0 Y8 Y4 Y3 Y6 Y9 Y2 Y7 Y5 Y1 Y10 W0_ W1_) (D_Z37 : Defx P w K mg base "piece_at" 5 ["cells", "at"] (spPieceAt K Y3)) : Defx P w K mg base "free_at" 6 ["cells", "at"] (Xgb K Y3 false) := by
 refine S.okx sc_Z41 bi_Z41 (fun vs H Q E h => by revert h; walk_at "len") (fun f cdv A outer s H vs Q E hr h => ?_)
 refine ⟨_, (Xad (Xar (i := 2) sc_Z41.nd rfl (Or.inl rfl) (Xen D_Z37 hr (by rfl) (Xaa (pv 0) (Xaa (pv 1) Xag)))) (Xad (Xbn (Xbm (Xaq Xap (pv 2) Xac (fun _ _ => rfl)) (fun _ => rfl)) (Xah (Xeb T.x_NoPiece hr.hd rfl (Xaa pe_str Xag))) Xat) (Xah (Xao (pv 2))))), ?_⟩
 obtain ⟨a, cs, ps, k, rfl, hS, hz, hw, hc, q, qe⟩ := h
 walk_at "go"
 refine ⟨a, cs, ps, k, rfl, hS, hz, hw, fun z hm hk t H1 s1 ht => ?_, fun hn H1 s1 => qe (fun z hz hk => absurd hk (hn z hz)) _ s1⟩
 walk_at "go"
 refine Xdy (fun hv => ?_) (fun hv => ?_)
 · walk_at "go"
   refine qe (fun y hy hk2 => ?_) _ s1
   rw [Xdg hc hy hm (by omega), hv]
   exact fun z => nomatch z
 · walk_at "go"
   exact q z hm hk hv t _ s1 ht
def spCut (K : PySem.W.Frag) (CP CR : Addr) : Sp := fun vs H Q E => ∃ (a : Addr) (cs : List Int) (ps : List Pc) (k s L : Int), vs = [.ref a, .int k, .int s, .int L] ∧ SqL K H a (cs.map V.int) ∧ cs.length ≤ 4000 ∧ Xam 0 ps cs.length ∧ Xbc cs ps ∧ 1 ≤ L ∧
 (∀ z ∈ ps, z.a = k → z.v = false → z.a ≤ s → s + L ≤ z.a + z.l → ∀ (p : Addr) (H' : Hp), H p = none → Same H H' → H' p = some (.lst ((cutO cs z.a z.l s L).map V.int)) → Q (.ref p) H') ∧
 (∀ z ∈ ps, z.a = k → z.v = false → ¬ (z.a ≤ s ∧ s + L ≤ z.a + z.l) → ∀ (H' : Hp), Same H H' → E (.ref CR) none H') ∧
 ((∀ z ∈ ps, z.a = k → z.v ≠ false) → ∀ (H' : Hp), Same H H' → E (.ref CP) none H')
theorem d_Z47 (S : Src K mg "cut_out" s_Z47) (T : Txt K mg Y0 Y8 Y4 Y3 Y6 Y9 Y2 Y7 Y5 Y1 Y10 W0_ W1_) (D_Z41 : Defx P w K mg base "free_at" 6 ["cells", "at"] (Xgb K Y3 false)) (D_Z31 : Defx P w K mg base "laid_free" 3 ["cells", "begin", "end"] (Xfc K)) (D_Z66 : Defx P w K mg base "laid" 2 ["cells", "at", "long", "live"] (spLaid K)) : Defx P w K mg base "cut_out" 7 ["cells", "at", "place", "long"] (spCut K Y3 Y7) := by
 refine S.okx sc_Z47 bi_Z47 (fun vs H Q E h => by revert h; walk_at "len") (fun f cdv A outer s H vs Q E hr h => ?_)
 refine ⟨_, (Xad (Xdo (Xen D_Z41 hr (by rfl) (Xaa (pv 0) (Xaa (pv 1) Xag))) (pg_tup rfl (Xba (Xax (i := 4) sc_Z47.nd rfl (Or.inl rfl)) (Xba (Xax (i := 5) sc_Z47.nd rfl (Or.inl rfl)) (Xba (Xax (i := 6) sc_Z47.nd rfl (Or.inl rfl)) Xee))))) (Xad (Xar (i := 7) sc_Z47.nd rfl (Or.inl rfl) (Xai Xau (pv 4) (pv 5))) (Xad (Xbn (PW.pt (Xdk (Xal Xfr (pv 2) (pv 4) (Xan _)) (Xcr (Xal op_gt (Xai Xau (pv 2) (pv 3)) (pv 7) (Xan _))))) (Xah (Xeb T.x_NoRoom hr.hd rfl (Xaa pe_str Xag))) Xat) (Xad (Xar (i := 8) sc_Z47.nd rfl (Or.inl rfl) (Xak D_Z31 hr (by rfl) (Xaa (pv 0) (Xaa (pv 4) (Xaa (pv 2) Xag))))) (Xad (Xar (i := 8) sc_Z47.nd rfl (Or.inl rfl) (Xak D_Z66 hr (by rfl) (Xaa (pv 8) (Xaa (pv 2) (Xaa (pv 3) (Xaa Xdt Xag)))))) (Xah (Xao (Xak D_Z31 hr (by rfl) (Xaa (pv 8) (Xaa (Xai Xau (pv 2) (pv 3)) (Xaa (pv 7) Xag))))))))))), ?_⟩
 obtain ⟨a, cs, ps, k, s, L, rfl, hS, hz, hc, mk, hL, q, qr, qe⟩ := h
 have hw := Xbl hc mk
 walk_at "go"
 refine ⟨a, cs, ps, k, rfl, hS, by omega, hw, hc, fun z hm hk hv t H1 s1 ht => ?_, fun hn H1 s1 => qe hn _ s1⟩
 obtain ⟨z0, z1, _, z4⟩ := hc.mem z hm
 walk_at "go"
 refine Xce (fun h1 => ?_) (fun h1 => ?_)
 · walk_at "go"
   exact qr z hm hk hv (by omega) _ s1
 · walk_at "go"
   refine Xce (fun h2 => ?_) (fun h2 => ?_)
   · walk_at "go"
     exact qr z hm hk hv (by omega) _ s1
   · walk_at "go"
     refine ⟨a, cs, z.a, s, rfl, s1.seq hS, hz, z0, by omega, by omega, fun p2 H2 n2 s2 g2 => ?_⟩
     walk_at "go"
     refine ⟨p2, lfI cs z.a s, s, L, true, rfl, SqL.of g2, by rw [Xco]; exact hz, by omega, hL, by rw [Xco]; omega, fun p3 H3 n3 s3 g3 => ?_⟩
     walk_at "go"
     refine ⟨p3, Xbw (lfI cs z.a s) s L true, s + L, z.a + z.l, rfl, SqL.of g3, by rw [Xbg, Xco]; exact hz, by omega, by omega, by rw [Xbg, Xco]; omega, fun p4 H4 n4 s4 g4 => ?_⟩
     walk_at "go"
     have s13 := (s1.trans s2).trans s3
     exact q z hm hk hv (by omega) (by omega) p4 H4 (s13.free n4) (s13.trans s4) g4
def spFbeg (K : PySem.W.Frag) : Sp := fun vs H Q _ => ∃ (a : Addr) (cs : List Int) (ps : List Pc) (i : Nat) (z : Pc), vs = [.ref a, .int z.a] ∧ SqL K H a (cs.map V.int) ∧ Xam 0 ps cs.length ∧ Xbc cs ps ∧ ps[i]? = some z ∧ Q (.int (fbeg ps i z)) H
def spFend (K : PySem.W.Frag) : Sp := fun vs H Q _ => ∃ (a : Addr) (cs : List Int) (ps : List Pc) (i : Nat) (z : Pc), vs = [.ref a, .int (z.a + z.l)] ∧ SqL K H a (cs.map V.int) ∧ Xam 0 ps cs.length ∧ Xbc cs ps ∧ ps[i]? = some z ∧ Q (.int (fend ps i z)) H
theorem d_Z20 (S : Src K mg "free_begin" s_Z20) (T : Txt K mg Y0 Y8 Y4 Y3 Y6 Y9 Y2 Y7 Y5 Y1 Y10 W0_ W1_) (D_Z42 : Defx P w K mg base "live_of" 1 ["number"] (spLive)) (D_Z43 : Defx P w K mg base "long_of" 1 ["number"] (spLong)) : Defx P w K mg base "free_begin" 2 ["cells", "at"] (spFbeg K) := by
 refine S.okx sc_Z20 bi_Z20 (fun vs H Q E h => by revert h; walk_at "len") (fun f cdv A outer s H vs Q E hr h => ?_)
 refine ⟨_, PSs.nox (Xad (Xbn (PW.pt (Xdk (Xal Xcw (pv 1) Xac (Xan _)) (Xcr (Xem (Xak D_Z42 hr (by rfl) (Xaa (Xaq Xbi (pv 0) (Xai Xcd (pv 1) Xac) (fun _ _ => rfl)) Xag)))))) (Xah (Xao (pv 1))) Xat) (Xah (Xao (Xai Xcd (pv 1) (Xak D_Z43 hr (by rfl) (Xaa (Xaq Xbi (pv 0) (Xai Xcd (pv 1) Xac) (fun _ _ => rfl)) Xag)))))), ?_⟩
 obtain ⟨a, cs, ps, i, z, rfl, hS, hc, mk, hi, q⟩ := h
 obtain ⟨z0, z1, _, z4⟩ := hc.mem z (List.mem_of_getElem? hi)
 cases i with
 | zero =>
   have e := chain_first hc hi
   walk_at "go"
   exact q
 | succ j =>
   have hp := chain_pos hc hi
   have hj : j < ps.length := by have := (List.getElem?_eq_some_iff.mp hi).1; omega
   have hy : ps[j]? = some ps[j] := by simp [hj]
   have hm := mark_ahead hc mk hy hi
   have hn := Xcl hc hy hi
   generalize ps[j] = y at hy hm hn
   have hm' : cs.getD (z.a - 1).toNat 0 = mkOf y.l y.v := hm
   walk_at "go"
   rw [hm', mk_live]
   refine Xdy (fun hv => ?_) (fun hv => ?_)
   · walk_at "go"
     rw [Xfm hy hv] at q
     exact q
   · walk_at "go"
     rw [hm', mk_long, show z.a - y.l = y.a by omega]
     rw [Xfn hy hv] at q
     exact q
theorem d_Z35 (S : Src K mg "free_end" s_Z35) (T : Txt K mg Y0 Y8 Y4 Y3 Y6 Y9 Y2 Y7 Y5 Y1 Y10 W0_ W1_) (D_Z42 : Defx P w K mg base "live_of" 1 ["number"] (spLive)) (D_Z43 : Defx P w K mg base "long_of" 1 ["number"] (spLong)) : Defx P w K mg base "free_end" 2 ["cells", "end"] (spFend K) := by
 refine S.okx sc_Z35 bi_Z35 (fun vs H Q E h => by revert h; walk_at "len") (fun f cdv A outer s H vs Q E hr h => ?_)
 refine ⟨_, PSs.nox (Xad (Xbn (PW.pt (Xdk (Xal Xcw (pv 1) (Xcc Xbp (by rfl) T.n_len PySem.boot_len (Xaa (pv 0) Xag)) (Xan _)) (Xcr (Xem (Xak D_Z42 hr (by rfl) (Xaa (Xaq Xbi (pv 0) (pv 1) (fun _ _ => rfl)) Xag)))))) (Xah (Xao (pv 1))) Xat) (Xah (Xao (Xai Xau (pv 1) (Xak D_Z43 hr (by rfl) (Xaa (Xaq Xbi (pv 0) (pv 1) (fun _ _ => rfl)) Xag)))))), ?_⟩
 obtain ⟨a, cs, ps, i, z, rfl, hS, hc, mk, hi, q⟩ := h
 obtain ⟨z0, z1, _, z4⟩ := hc.mem z (List.mem_of_getElem? hi)
 by_cases hl : ps.length = i + 1
 · have e := chain_last hc hi hl
   walk_at "go"
   rw [Xfk (List.getElem?_eq_none (by omega))] at q
   exact q
 · have hj : i + 1 < ps.length := by have := (List.getElem?_eq_some_iff.mp hi).1; omega
   have hy : ps[i + 1]? = some ps[i + 1] := by simp [hj]
   have hm := mark_behind hc mk hi hy
   have hn := Xcl hc hi hy
   generalize ps[i + 1] = y at hy hm hn
   obtain ⟨y0, y1, _, y4⟩ := hc.mem y (List.mem_of_getElem? hy)
   have hm' : cs.getD (z.a + z.l).toNat 0 = mkOf y.l y.v := hm
   walk_at "go"
   rw [hm', mk_live]
   refine Xdy (fun hv => ?_) (fun hv => ?_)
   · walk_at "go"
     rw [Xeq hy hv] at q
     exact q
   · walk_at "go"
     rw [hm', mk_long, ← hn]
     rw [Xel hy hv] at q
     exact q
def spFreed (K : PySem.W.Frag) (C : Addr) : Sp := fun vs H Q E => ∃ (a : Addr) (cs : List Int) (ps : List Pc) (k : Int), vs = [.ref a, .int k] ∧ SqL K H a (cs.map V.int) ∧ cs.length ≤ 4000 ∧ Xam 0 ps cs.length ∧ Xbc cs ps ∧
 (∀ i z, ps[i]? = some z → z.a = k → z.v = true → ∀ (p : Addr) (H' : Hp), H p = none → Same H H' → H' p = some (.lst ((lfI cs (fbeg ps i z) (fend ps i z)).map V.int)) → Q (.ref p) H') ∧
 ((∀ z ∈ ps, z.a = k → z.v ≠ true) → ∀ (H' : Hp), Same H H' → E (.ref C) none H')
theorem d_Z63 (S : Src K mg "freed" s_Z63) (T : Txt K mg Y0 Y8 Y4 Y3 Y6 Y9 Y2 Y7 Y5 Y1 Y10 W0_ W1_) (D_Z48 : Defx P w K mg base "live_at" 6 ["cells", "at"] (Xgb K Y3 true)) (D_Z20 : Defx P w K mg base "free_begin" 2 ["cells", "at"] (spFbeg K)) (D_Z35 : Defx P w K mg base "free_end" 2 ["cells", "end"] (spFend K)) (D_Z31 : Defx P w K mg base "laid_free" 3 ["cells", "begin", "end"] (Xfc K)) : Defx P w K mg base "freed" 7 ["cells", "at"] (spFreed K Y3) := by
 refine S.okx sc_Z63 bi_Z63 (fun vs H Q E h => by revert h; walk_at "len") (fun f cdv A outer s H vs Q E hr h => ?_)
 refine ⟨_, (Xad (Xdo (Xen D_Z48 hr (by rfl) (Xaa (pv 0) (Xaa (pv 1) Xag))) (pg_tup rfl (Xba (Xax (i := 2) sc_Z63.nd rfl (Or.inl rfl)) (Xba (Xax (i := 3) sc_Z63.nd rfl (Or.inl rfl)) (Xba (Xax (i := 4) sc_Z63.nd rfl (Or.inl rfl)) Xee))))) (Xah (Xao (Xak D_Z31 hr (by rfl) (Xaa (pv 0) (Xaa (Xak D_Z20 hr (by rfl) (Xaa (pv 0) (Xaa (pv 2) Xag))) (Xaa (Xak D_Z35 hr (by rfl) (Xaa (pv 0) (Xaa (Xai Xau (pv 2) (pv 3)) Xag))) Xag))))))), ?_⟩
 obtain ⟨a, cs, ps, k, rfl, hS, hz, hc, mk, q, qe⟩ := h
 have hw := Xbl hc mk
 walk_at "go"
 refine ⟨a, cs, ps, k, rfl, hS, hz, hw, hc, fun z hm hk hv t H1 s1 ht => ?_, fun hn H1 s1 => qe hn _ s1⟩
 obtain ⟨i, hi⟩ := List.getElem?_of_mem hm
 have b1 := fbeg_le hc hi
 have b2 := fend_le hc hi
 have hS1 := s1.seq hS
 obtain ⟨z0, z1, _, z4⟩ := hc.mem z hm
 walk_at "go"
 refine ⟨a, cs, ps, i, z, rfl, hS1, hc, mk, hi, ?_⟩
 walk_at "go"
 refine ⟨a, cs, ps, i, z, rfl, hS1, hc, mk, hi, ?_⟩
 walk_at "go"
 refine ⟨a, cs, _, _, rfl, hS1, hz, b1.1, by omega, by omega, fun p H2 n2 s2 g2 => ?_⟩
 walk_at "go"
 exact q i z hi hk hv p H2 (s1.free n2) (s1.trans s2) g2
def Xfd (L b : Int) (z : Pc) : Option (List V) := if z.v = true then none else (fp z.a z.l L b).map fun p => [V.int z.a, V.int p]
def Xeo (ps : List Pc) (L b : Int) : List (List V) := ps.filterMap (Xfd L b)
theorem spotsOf_take {ps : List Pc} {L b : Int} {i : Nat} {z : Pc} (h : ps[i]? = some z) : Xeo (ps.take (i + 1)) L b = Xeo (ps.take i) L b ++ (Xfd L b z).toList := by
 unfold Xeo
 rw [List.take_add_one, h, List.filterMap_append]
 cases e : Xfd L b z <;> simp [e]
theorem spotsOf_len (ps : List Pc) (L b : Int) : (Xeo ps L b).length ≤ ps.length := List.length_filterMap_le _ _
def spPlace : Sp := fun vs H Q _ => ∃ (t : Addr) (a n L b : Int) (v : Bool), vs = [.ref t, .int L, .int b] ∧ H t = some (.tup [.int a, .int n, .bl v]) ∧ 1 ≤ b ∧ Q (optV (fp a n L b)) H
def spSpots (K : PySem.W.Frag) : Sp := fun vs H Q _ => ∃ (a : Addr) (cs : List Int) (ps : List Pc) (L b : Int), vs = [.ref a, .int L, .int b] ∧ SqL K H a (cs.map V.int) ∧ cs.length ≤ 4000 ∧ Xck cs 0 = (ps, none) ∧ 1 ≤ b ∧
 ∀ (p : Addr) (us : List V) (H' : Hp), H p = none → Same H H' → H' p = some (.lst us) → Xcj H' us (Xeo ps L b) → Q (.ref p) H'
theorem d_Z19 (S : Src K mg "first_place" s_Z19) (T : Txt K mg Y0 Y8 Y4 Y3 Y6 Y9 Y2 Y7 Y5 Y1 Y10 W0_ W1_)  : Defx P w K mg base "first_place" 1 ["piece", "long", "bound"] (spPlace) := by
 refine S.okx sc_Z19 bi_Z19 (fun vs H Q E h => by revert h; walk_at "len") (fun f cdv A outer s H vs Q E hr h => ?_)
 refine ⟨_, PSs.nox (Xad (Xdo (pv 0) (pg_tup rfl (Xba (Xax (i := 3) sc_Z19.nd rfl (Or.inl rfl)) (Xba (Xax (i := 4) sc_Z19.nd rfl (Or.inl rfl)) (Xba (Xax (i := 5) sc_Z19.nd rfl (Or.inl rfl)) Xee))))) (Xad (Xar (i := 6) sc_Z19.nd rfl (Or.inl rfl) (Xai Xau (pv 3) (Xai Xbe (pe_un Xeg (Xai Xau (pv 3) Xac)) (pv 2)))) (Xad (Xbn (Xal op_gt (Xai Xau (pv 6) (pv 1)) (Xai Xau (pv 3) (pv 4)) (Xan _)) (Xah (Xao Xcn)) Xat) (Xah (Xao (pv 6)))))), ?_⟩
 obtain ⟨t, a, n, L, b, v, rfl, ht, hb, q⟩ := h
 have e : a + -(a + 1) % b = fpl a b := by unfold fpl; rw [Xfs hb]
 walk_at "go"
 rw [e]
 refine Xce (fun hc => ?_) (fun hc => ?_)
 · walk_at "go"
   unfold fp at q
   rw [if_neg (by omega)] at q
   exact q
 · walk_at "go"
   unfold fp at q
   rw [if_pos (by omega)] at q
   exact q
def SfW (f0 f1 f2 : Option V) (sp lp : Addr) (us : List V) (ps : List Pc) (L b : Int) (H : Hp) (i : Nat) (σ : L2.St) (H' : Hp) : Prop :=
 ∃ (ws : List V) (x4 x5 : Option V), σ = [f0, f1, f2, some (.ref sp), x4, x5] ∧ Same H H' ∧ H' lp = some (.lst us) ∧ Xas H' us ps ∧ H' sp = some (.lst ws) ∧ Xcj H' ws (Xeo (ps.take i) L b)
theorem d_Z34 (S : Src K mg "spots_for" s_Z34) (T : Txt K mg Y0 Y8 Y4 Y3 Y6 Y9 Y2 Y7 Y5 Y1 Y10 W0_ W1_) (D_Z19 : Defx P w K mg base "first_place" 1 ["piece", "long", "bound"] (spPlace)) (D_Z52 : Defx P w K mg base "looked" 4 ["cells"] (Xed K Y4)) : Defx P w K mg base "spots_for" 5 ["cells", "long", "bound"] (spSpots K) := by
 refine S.okx sc_Z34 bi_Z34 (fun vs H Q E h => by revert h; walk_at "len") (fun f cdv A outer s H vs Q E hr h => ?_)
 refine ⟨_, PSs.nox (Xad (Xar (i := 3) sc_Z34.nd rfl (Or.inl rfl) (Xdi Xag)) (Xad (Xew PassesOwn.never rfl (Xcg (Xak D_Z52 hr (by rfl) (Xaa (pv 0) Xag))) (Xax (i := 4) sc_Z34.nd rfl (Or.inl rfl)) (Xad (Xar (i := 5) sc_Z34.nd rfl (Or.inl rfl) (Xak D_Z19 hr (by rfl) (Xaa (pv 4) (Xaa (pv 1) (Xaa (pv 2) Xag))))) (Xah (Xbn (PW.pt (Xda (Xcm (Xbm (Xaq Xap (pv 4) Xac (fun _ _ => rfl)) (fun _ => rfl))) (Xcu (Xal op_notN (pv 5) Xcn (Xan _))))) (Xah (Xbq (pe_bm PySem.F.plainAttrs_list PySem.F.slot_list_append PySem.F.type_list_append Xcb (pv 3) (Xaa (Xci (Xaa (Xaq Xap (pv 4) Xac (fun _ _ => rfl)) (Xaa (pv 5) Xag))) Xag)))) Xat)))) (Xah (Xao (pv 3))))), ?_⟩
 obtain ⟨a, cs, ps, L, b, rfl, hS, hz, hw, hb, q⟩ := h
 walk_at "go"
 intro sp hsp
 walk_at "go"
 refine ⟨a, cs, rfl, (Same.new hsp).seq hS, hz, (fun c hc => by rw [hw] at hc; cases hc), fun _ lp us H1 nlp s1 hlp pa => ?_⟩
 have pa : Xas H1 us ps := by rw [hw] at pa; exact pa
 have hps : (ps.length : Int) ≤ cs.length := by
   have := walkF_len cs cs.length 0 (by omega) (by omega)
   rw [hw] at this
   exact this
 have hul := pa.1
 have hsp1 := s1 sp _ upd_same
 have hne : lp ≠ sp := fun z => by rw [z, upd_same] at nlp; cases nlp
 have s01 : Same H H1 := (Same.new hsp).trans s1
 refine ⟨lp, rfl, ⟨_, SqL.of hlp⟩, Xcp (K := K) (a := lp) (xs := us) (SfW (some (.ref a)) (some (.int L)) (some (.int b)) sp lp us ps L b H) ⟨[], none, none, rfl, s01, hlp, pa, hsp1, Xcj.nil⟩ (fun i σ H2 _ ⟨_, _, _, _, _, h, _⟩ => SqL.of h) ?_ ?_⟩
 · rintro i y σ H2 hi ⟨ws, x4, x5, rfl, s2, hlp2, pa2, hsp2, ta⟩
   have hil : i < us.length := (List.getElem?_eq_some_iff.mp hi).1
   have hip : i < ps.length := by omega
   obtain ⟨t, et, hT⟩ := pa2.2 i ps[i] (by simp [hip])
   have ey : y = .ref t := Option.some.inj (hi.symm.trans et)
   subst ey
   have ht := spotsOf_take (L := L) (b := b) (show ps[i]? = some ps[i] by simp [hip])
   have hwl : ws.length ≤ 4000 := by
     have h1 := ta.1
     have h2 := spotsOf_len (ps.take i) L b
     rw [List.length_take] at h2
     omega
   generalize ps[i] = z at hT ht
   walk_at "go"
   refine ⟨t, z.a, z.l, L, b, z.v, rfl, hT, hb, ?_⟩
   cases ef : fp z.a z.l L b with
   | none =>
     walk_at "go"
     have e : Xfd L b z = none := by
       unfold Xfd
       split
       · rfl
       · rw [ef]; rfl
     rw [e, Option.toList_none, List.append_nil] at ht
     refine Xdy (fun hv => ?_) (fun hv => ?_)
     · walk_at "go"
       exact ⟨ws, _, _, rfl, s2, hlp2, pa2, hsp2, by rw [ht]; exact ta⟩
     · walk_at "go"
       exact ⟨ws, _, _, rfl, s2, hlp2, pa2, hsp2, by rw [ht]; exact ta⟩
   | some p =>
     walk_at "go"
     refine Xdy (fun hv => ?_) (fun hv => ?_)
     · walk_at "go"
       have e : Xfd L b z = none := by unfold Xfd; rw [if_pos hv]
       rw [e, Option.toList_none, List.append_nil] at ht
       exact ⟨ws, _, _, rfl, s2, hlp2, pa2, hsp2, by rw [ht]; exact ta⟩
     · walk_at "go"
       intro t2 ht2
       have hst : sp ≠ t2 := Xaw hsp2 ht2
       have hlt : lp ≠ t2 := Xaw hlp2 ht2
       walk_at "go"
       have e : Xfd L b z = some [V.int z.a, V.int p] := by unfold Xfd; rw [hv, if_neg Bool.false_ne_true, ef]; rfl
       rw [e] at ht
       exact ⟨ws ++ [.ref t2], _, _, rfl, (s2.put (s2.free ht2)).put hsp, look_ne hne (look_ne hlt hlp2), (pa2.mono (Xeh (.inl ht2))).mono (Xeh (.inr ⟨ws, look_ne hst hsp2⟩)), upd_same, by rw [ht]; exact ta.push hsp2 ht2⟩
 · rintro σ H2 ⟨ws, x4, x5, rfl, s2, hlp2, pa2, hsp2, ta⟩
   walk_at "go"
   rw [List.take_of_length_le (by omega)] at ta
   exact q sp ws H2 hsp s2 hsp2 ta
/-! the spots by numbers -/
def Xfg (L b : Int) (z : Pc) : Option (Int × Int) := if z.v = true then none else (fp z.a z.l L b).map fun p => (z.a, p)
def Xbb (ps : List Pc) (L b : Int) : List (Int × Int) := ps.filterMap (Xfg L b)
theorem spotsOf_I (ps : List Pc) (L b : Int) : Xeo ps L b = (Xbb ps L b).map fun q => [V.int q.1, V.int q.2] := by
 unfold Xeo Xbb
 rw [List.map_filterMap]
 congr 1
 funext z
 unfold Xfd Xfg
 split
 · rfl
 · cases fp z.a z.l L b <;> rfl
theorem spotsI_from : ∀ {ps : List Pc} {s e L b : Int}, Xam s ps e → ∀ q ∈ Xbb ps L b, s ≤ q.1
 | [], s, e, L, b, _, q, hq => by simp [Xbb] at hq
 | z :: r, s, e, L, b, c, q, hq => by
   obtain ⟨h0, h1, h2, h3⟩ := c
   unfold Xbb at hq
   rw [List.filterMap_cons] at hq
   have rest : ∀ q ∈ r.filterMap (Xfg L b), s ≤ q.1 := fun q hq => by
     have := spotsI_from h3 q hq
     omega
   split at hq
   · exact rest q hq
   · rename_i q0 e0
     rcases List.mem_cons.mp hq with g | g
     · subst g
       unfold Xfg at e0
       split at e0
       · cases e0
       · obtain ⟨p, _, e1⟩ := Option.map_eq_some_iff.mp e0
         rw [← e1]
         show s ≤ z.a
         omega
     · exact rest q g
def spLeast : Sp := fun vs H Q _ => ∃ (p : Addr) (us : List V) (xs : List (List Int)), vs = [.ref p] ∧ H p = some (.lst us) ∧ Xcj H us (xs.map fun x => x.map V.int) ∧ (∀ x ∈ xs, x.length = 3) ∧
 (xs = [] → Q .non H) ∧ (0 < xs.length → Q (.int ((xs.getD (Xdx xs (xs.length - 1)) []).getD 2 0)) H)
theorem d_Z16 (S : Src K mg "least_place" s_Z16) (T : Txt K mg Y0 Y8 Y4 Y3 Y6 Y9 Y2 Y7 Y5 Y1 Y10 W0_ W1_)  : Defx P w K mg base "least_place" 1 ["ranked"] (spLeast) := by
 refine S.okx sc_Z16 bi_Z16 (fun vs H Q E h => by revert h; walk_at "len") (fun f cdv A outer s H vs Q E hr h => ?_)
 refine ⟨_, PSs.nox (Xad (Xbn (Xcm (Xbm (pv 0) (fun _ => rfl))) (Xah (Xao Xcn)) Xat) (Xah (Xao (Xaq Xap (Xcc (call_minT rfl hr.units) (by rfl) T.n_min PyProof.Rows.boot_min (Xaa (pv 0) Xag)) Xac (fun _ _ => rfl))))), ?_⟩
 obtain ⟨p, us, xs, rfl, hp, ta, h3, q0, q⟩ := h
 have hl := ta.1
 rw [List.length_map] at hl
 cases hx : us with
 | nil =>
   rw [hx] at hp hl
   walk_at "go"
   refine iteT ?_
   walk_at "go"
   exact q0 (List.length_eq_zero_iff.mp hl.symm)
 | cons u r =>
   have hpos : 0 < xs.length := by rw [← hl, hx, List.length_cons]; omega
   have hm : Xdx xs (xs.length - 1) < xs.length := by have := Xfq xs (xs.length - 1); omega
   rw [hx] at hp ta
   walk_at "go"
   refine iteF ?_
   walk_at "go"
   refine ⟨p, _, xs, rfl, hp, ta, hpos, fun t _ ht => ?_⟩
   have q1 := q hpos
   have hm3 : (xs.getD (Xdx xs (xs.length - 1)) []).length = 3 := by
     have : xs.getD (Xdx xs (xs.length - 1)) [] = xs[Xdx xs (xs.length - 1)] := by simp [hm]
     rw [this]
     exact h3 _ (List.getElem_mem hm)
   generalize xs.getD (Xdx xs (xs.length - 1)) [] = m at ht q1 hm3
   match m, hm3 with
   | [m0, m1, m2], _ =>
     walk_at "go"
     exact q1
def spCarry (K : PySem.W.Frag) : Sp := fun vs H Q _ => ∃ (a : Addr) (cs : List Int) (s g c : Int), vs = [.ref a, .int s, .int g, .int c] ∧ SqL K H a (cs.map V.int) ∧ cs.length ≤ 1200 ∧ 0 ≤ s ∧ 0 ≤ g ∧ 0 ≤ c ∧ s + c ≤ cs.length ∧ g + c ≤ cs.length ∧
 ∀ (p : Addr) (H' : Hp), H p = none → Same H H' → H' p = some (.lst ((carI cs s.toNat g.toNat c.toNat).map V.int)) → Q (.ref p) H'
theorem d_Z46 (S : Src K mg "carried" s_Z46) (T : Txt K mg Y0 Y8 Y4 Y3 Y6 Y9 Y2 Y7 Y5 Y1 Y10 W0_ W1_)  : Defx P w K mg base "carried" 1 ["cells", "source", "goal", "count"] (spCarry K) := by
 refine S.okx sc_Z46 bi_Z46 (fun vs H Q E h => by revert h; walk_at "len") (fun f cdv A outer s H vs Q E hr h => ?_)
 refine ⟨_, PSs.nox (Xad (Xar (i := 4) sc_Z46.nd rfl (Or.inl rfl) (Xev Xcy (by rfl) T.n_list PyProof.Rows.boot_list (Xaa (pv 0) Xag))) (Xah (Xao (Xai op_cat (Xai op_cat (Xfi sl_list (pv 4) po_none (Xfh (pv 2))) (Xfi sl_list (pv 4) (Xfh (pv 1)) (Xfh (Xai Xau (pv 1) (pv 3))))) (Xfi sl_list (pv 4) (Xfh (Xai Xau (pv 2) (pv 3))) po_none))))), ?_⟩
 obtain ⟨a, cs, s, g, c, rfl, hS, hz, h0, h1, h2, h3, h4, q⟩ := h
 have n1 := cutI_len cs none (some g)
 have n2 := cutI_len cs (some s) (some (s + c))
 have n3 := cutI_len cs (some (g + c)) none
 walk_at "go"
 intro p0 m0
 have s0 : Same H (upd H p0 (.lst (cs.map V.int))) := Same.new m0
 have e0 : upd H p0 (.lst (cs.map V.int)) p0 = some (.lst (cs.map V.int)) := upd_same
 generalize upd H p0 (.lst (cs.map V.int)) = H0 at s0 e0 ⊢
 have hS0 : SqL K H0 p0 (cs.map V.int) := SqL.of e0
 clear hS
 walk_at "go"
 intro p1 H1 m1 s1 hh1
 have hS1 := s1.seq hS0
 walk_at "go"
 intro p2 H2 m2 s2 hh2
 have h1' := s2 p1 _ hh1
 have hS2 := s2.seq hS1
 walk_at "go"
 intro p3 H3 m3 s3 hh3
 have hS3 := s3.seq hS2
 walk_at "go"
 intro p4 H4 m4 s4 hh4
 have h3' := s4 p3 _ hh3
 have n4 : (cutI cs none (some g) ++ cutI cs (some s) (some (s + c))).length + (cutI cs (some (g + c)) none).length ≤ 4000 := by rw [List.length_append]; omega
 walk_at "go"
 intro p5 H5 m5 s5 h5
 walk_at "go"
 have s14 := (((s0.trans s1).trans s2).trans s3).trans s4
 refine q p5 H5 (s14.free m5) (s14.trans s5) ?_
 rw [h5, cutI_to h1 (by omega), cutI_mid h0 h2 h3, cutI_from (by omega) h4]
 unfold carI
 rw [show (g + c).toNat = g.toNat + c.toNat by omega]
def spCheck : Sp := fun vs H Q _ => ∃ c b : Int, vs = [.int c, .int b] ∧ 1 ≤ c ∧ 1 ≤ b ∧ Q .non H
theorem d_Z32 (S : Src K mg "check_ask" s_Z32) (T : Txt K mg Y0 Y8 Y4 Y3 Y6 Y9 Y2 Y7 Y5 Y1 Y10 W0_ W1_)  : Defx P w K mg base "check_ask" 1 ["count", "bound"] (spCheck) := by
 refine S.okx sc_Z32 bi_Z32 (fun vs H Q E h => by revert h; walk_at "len") (fun f cdv A outer s H vs Q E hr h => ?_)
 refine ⟨_, PSs.nox (Xah (Xbn (PW.pt (Xdk (Xal Xfr (pv 0) Xac (Xan _)) (Xcr (Xal Xfr (pv 1) Xac (Xan _))))) (Xah ps_never) Xat)), ?_⟩
 obtain ⟨c, b, rfl, h1, h2, q⟩ := h
 walk_at "go"
 exact q
def BgW (H1 : Hp) (ps : List Pc) (s : Int) (D : Addr) (i : Nat) (ys : List V) (H2 : Hp) : Prop := Same H1 H2 ∧ H2 D = some (.lst ys) ∧ ys = (((ps.take i).filter fun z => decide (z.a ≤ s)).map fun z => V.int z.a)
def spAround (K : PySem.W.Frag) : Sp := fun vs H Q _ => ∃ (a : Addr) (cs : List Int) (ps : List Pc) (i : Nat) (z : Pc) (s : Int), vs = [.ref a, .int s] ∧ SqL K H a (cs.map V.int) ∧ cs.length ≤ 4000 ∧ Xam 0 ps cs.length ∧ Xbc cs ps ∧ ps[i]? = some z ∧ z.a ≤ s ∧ s < z.a + z.l ∧ ∀ (H' : Hp), Same H H' → Q (.int z.a) H'
theorem around_is {ps : List Pc} {n s : Int} {i : Nat} {z : Pc} (hc : Xam 0 ps n) (hi : ps[i]? = some z) (h1 : z.a ≤ s) (h2 : s < z.a + z.l) : ∃ D, (ps.filter fun z => decide (z.a ≤ s)) = D ++ [z] := by
 obtain ⟨ds, rs, e1, e2, k1, k2⟩ := Xaz hc hi
 subst e1
 refine ⟨ds.filter fun z => decide (z.a ≤ s), ?_⟩
 have e : (rs.filter fun z => decide (z.a ≤ s)) = [] := List.filter_eq_nil_iff.mpr fun p hp => by
   have := k2.fromOn p hp
   rw [decide_eq_false (by omega)]
   exact Bool.false_ne_true
 rw [List.filter_append, List.filter_cons, if_pos (decide_eq_true h1), e]
theorem d_Z11 (S : Src K mg "begin_around" s_Z11) (T : Txt K mg Y0 Y8 Y4 Y3 Y6 Y9 Y2 Y7 Y5 Y1 Y10 W0_ W1_) (D_Z52 : Defx P w K mg base "looked" 4 ["cells"] (Xed K Y4)) : Defx P w K mg base "begin_around" 5 ["cells", "cell"] (spAround K) := by
 refine S.okx sc_Z11 bi_Z11 (fun vs H Q E h => by revert h; walk_at "len") (fun f cdv A outer s H vs Q E hr h => ?_)
 refine ⟨_, PSs.nox (Xad (ps_setCompG (i := 2) ["at", "long", "live"] ["cell"] [1] sc_Z11.nd rfl (Or.inl rfl) rfl (Xcg (Xak D_Z52 hr (by rfl) (Xaa (pv 0) Xag))) (fun cl C s₀ H₀ ex => (pg_tupK (K := K) (n := 3) rfl rfl (Xba (Xax (i := 0) (show ((["at", "long", "live"] : List Str) ++ (["cell"] : List Str)).Nodup by decide +kernel) rfl (Or.inl rfl)) (Xba (Xax (i := 1) (show ((["at", "long", "live"] : List Str) ++ (["cell"] : List Str)).Nodup by decide +kernel) rfl (Or.inl rfl)) (Xba (Xax (i := 2) (show ((["at", "long", "live"] : List Str) ++ (["cell"] : List Str)).Nodup by decide +kernel) rfl (Or.inl rfl)) Xee))))) (fun cl C s₀ H₀ ex => (pts_one (Xal op_le (pv 0) (pv 3) (Xan _)))) (fun cl C s₀ H₀ ex => (pv 0)) (Xfy rfl rfl rfl) (free_one (n := "cell") (by decide +kernel) rfl) (fun y h => Xdl (by decide +kernel) h)) (Xah (Xao (Xaq Xbi (pv 2) (pe_un Xeg Xac) (fun _ _ => rfl))))), ?_⟩
 obtain ⟨a, cs, ps, i, z, s, rfl, hS, hz, hc, mk, hi, h1, h2, q⟩ := h
 have hw := Xbl hc mk
 have hple := hc.le
 walk_at "go"
 refine ⟨a, cs, rfl, hS, hz, (fun c hc => by rw [hw] at hc; cases hc), fun _ lp us H1 nlp s1 hlp pa => ?_⟩
 have pa : Xas H1 us ps := by rw [hw] at pa; exact pa
 have hul := pa.1
 walk_at "go"
 refine ⟨lp, rfl, ⟨_, SqL.of hlp⟩, Xde (K := K) (a := lp) (xs := us) (fs := [some (.int s)]) (BgW H1 ps s) (fun D hD => ⟨Same.new hD, upd_same, rfl⟩) (fun D i ys H2 _ h => SqL.of (h.1 lp _ hlp)) ?_ ?_⟩
 · rintro D i y ys H2 hD hi ⟨s2, hD2, hy⟩ τ hτ
   have hil : i < us.length := (List.getElem?_eq_some_iff.mp hi).1
   obtain ⟨t, w, rfl, hw1, hT⟩ := Xcz (pa.same s2) hi
   have hfl := take_succ_filter (fun p : Pc => decide (p.a ≤ s)) ps i w hw1
   have hyl : ys.length ≤ i := by
     rw [hy, List.length_map]
     refine Nat.le_trans (List.length_filter_le _ _) ?_
     rw [List.length_take]
     omega
   match τ, hτ with
   | [τ0, τ1, τ2], _ =>
     walk_at "go"
     refine ⟨⟨[_, _, _], rfl, rfl⟩, ?_⟩
     walk_at "go"
     refine Xce (fun hle => ?_) (fun hle => ?_)
     · rw [if_pos (decide_eq_true hle)] at hfl
       walk_at "go"
       refine ⟨hD2, small4000 (by omega), nx_mk hil ⟨s2.put hD, upd_same, ?_⟩⟩
       rw [hfl, List.map_append, ← hy]
       rfl
     · rw [if_neg (by rw [decide_eq_false hle]; exact Bool.false_ne_true), List.append_nil] at hfl
       exact nx_mk hil ⟨s2, hD2, by rw [hfl]; exact hy⟩
 · rintro D ys H2 hD ⟨s2, hD2, hy⟩
   rw [List.take_of_length_le (by omega)] at hy
   obtain ⟨D0, e0⟩ := around_is hc hi h1 h2
   rw [e0, List.map_append] at hy
   subst hy
   walk_at "go"
   refine Xdb (SqL.of hD2) ?_
   walk_at "go"
   exact q H2 (s1.trans s2)
/-! ### the object: its cells, its rover -/
def spMk (C : Addr) : Sp := fun vs H Q _ => ∃ (x dx : Addr) (n : Int), vs = [.ref x, .int n] ∧ H x = some (.ins C dx []) ∧ 1 ≤ n ∧ n ≤ 4000 ∧
 ∀ (a : Addr) (H' : Hp), H a = none → Xay x H H' → H' x = some (.ins C dx [("room_cells", .ref a)]) → H' a = some (.lst ((Xdr n).map V.int)) → Q .non H'
theorem d_Z27 {f₀ : Addr} {fd₀ : FuncData} (F : Fun K "__init__" "Keeper.__init__" Xbt f₀ fd₀) (M : ClsM K Y1 "__init__" f₀) (T : Txt K mg Y0 Y8 Y4 Y3 Y6 Y9 Y2 Y7 Y5 Y1 Y10 W0_ W1_) (D_Z28 : Defx P w K mg base "fresh_room" 2 ["count"] (spFresh Y8)) : Basex P w K mg base "Stretches" "__init__" 3 ["self", "size"] (spMk Y10) := by
 refine ⟨⟨Y1, f₀, fd₀, Xbz F sc_Keeper_init (fun vs H Q E h => by revert h; walk_at "len") (fun cdv A outer s H vs Q E hr h => ?_), M, F.binds bi_Keeper_init, T.c_Stretches⟩⟩
 refine ⟨_, PSs.nox (Xah (Xfl (pv 0) (Xak D_Z28 hr (by rfl) (Xaa (pv 1) Xag)) rfl)), ?_⟩
 obtain ⟨x, dx, n, rfl, hx, h1, h4, q⟩ := h
 have cl := T.cl_Next
 have na := T.na_Next_room_cells
 walk_at "go"
 refine ⟨n, rfl, h4, fun z => absurd z (by omega), fun _ p H1 np s1 hp => ?_⟩
 have hx1 := s1 x _ hx
 have hne : p ≠ x := fun z => by rw [z, hx] at np; cases np
 walk_at "go"
 exact q p _ np (Xay.of s1).put upd_same (look_ne hne hp)
def spMkN (C : Addr) : Sp := fun vs H Q _ => ∃ (x dx : Addr) (n : Int), vs = [.ref x, .int n] ∧ H x = some (.ins C dx []) ∧ 1 ≤ n ∧ n ≤ 4000 ∧
 ∀ (a : Addr) (H' : Hp), H a = none → Xay x H H' → H' x = some (.ins C dx [("room_cells", .ref a), ("room_rover", .int 0)]) → H' a = some (.lst ((Xdr n).map V.int)) → Q .non H'
theorem d_Next {f₀ : Addr} {fd₀ : FuncData} (F : Fun K "__init__" "Next.__init__" Xch f₀ fd₀) (M : Mk K Y10 f₀) (T : Txt K mg Y0 Y8 Y4 Y3 Y6 Y9 Y2 Y7 Y5 Y1 Y10 W0_ W1_) (D_Z27 : Basex P w K mg base "Stretches" "__init__" 3 ["self", "size"] (spMk Y10)) : Makex P w K mg base "Next" Y10 4 ["self", "size"] [] (spMkN Y10) := by
 refine ⟨⟨f₀, fd₀, [], Xbz F sc_Next_init (fun vs H Q E h => by revert h; walk_at "len") (fun cdv A outer s H vs Q E hr h => ?_), M, F.binds bi_Next_init, .nil⟩, T.c_Next⟩
 refine ⟨_, PSs.nox (Xad (Xbq (pe_basep D_Z27 Xbh hr (by rfl) (Xaa (pv 0) (Xaa (pv 1) Xag)))) (Xah (Xfl (pv 0) Xac rfl))), ?_⟩
 obtain ⟨x, dx, n, rfl, hx, h1, h4, q⟩ := h
 have cl := T.cl_Next
 have na := T.na_Next_room_cells
 have nr := T.na_Next_room_rover
 walk_at "go"
 refine ⟨x, dx, n, rfl, hx, h1, h4, fun a H1 na1 k1 hx1 ha1 => ?_⟩
 have hne : a ≠ x := fun z => by rw [z, hx1] at ha1; cases ha1
 walk_at "go"
 exact q a _ na1 (k1.trans Xay.refl.put) upd_same (look_ne hne ha1)
def spBegin (K : PySem.W.Frag) (C : Addr) : Sp := fun vs H Q _ => ∃ (r : Int) (x h dx a : Addr) (cs : List Int) (ps : List Pc), vs = [.ref x, .ref h] ∧ H x = some (.ins C dx [("room_cells", .ref a), ("room_rover", .int r)]) ∧ SqL K H h (cs.map V.int) ∧ cs.length ≤ 4000 ∧ Xam 0 ps cs.length ∧ Xck cs 0 = (ps, none) ∧
 ∀ (a' : Addr) (H' : Hp), H a' = none → Xay x H H' → H' x = some (.ins C dx [("room_cells", .ref a'), ("room_rover", .int 0)]) → H' a' = some (.lst ((Xdh cs (Xcf ps)).map V.int)) → Q .non H'
theorem d_Z21 {f₀ : Addr} {fd₀ : FuncData} (F : Fun K "room_begin" "Next.room_begin" s_Z3 f₀ fd₀) (M : Meth K Y10 "room_begin" f₀) (T : Txt K mg Y0 Y8 Y4 Y3 Y6 Y9 Y2 Y7 Y5 Y1 Y10 W0_ W1_) (D_Z49 : Defx P w K mg base "joined" 5 ["cells"] (spJoined K)) : Methx P w K mg base Y10 "room_begin" 6 ["self", "cells"] [] (spBegin K Y10) := by
 refine ⟨⟨f₀, fd₀, [], Xbz F sc_Z3 (fun vs H Q E h => by revert h; walk_at "len") (fun cdv A outer s H vs Q E hr h => ?_), M, F.binds bi_Z3, .nil⟩, T.cl_Next⟩
 refine ⟨_, PSs.nox (Xad (Xfl (pv 0) (Xak D_Z49 hr (by rfl) (Xaa (pv 1) Xag)) rfl) (Xah (Xfl (pv 0) Xac rfl))), ?_⟩
 obtain ⟨r, x, h, dx, a, cs, ps, rfl, hx, hS, hz, hc, hw, q⟩ := h
 have cl := T.cl_Next
 have na := T.na_Next_room_cells
 have nr := T.na_Next_room_rover
 walk_at "go"
 refine ⟨h, cs, ps, rfl, hS, hz, hc, hw, fun p H1 np s1 hp => ?_⟩
 have hx1 := s1 x _ hx
 have hne : p ≠ x := fun z => by rw [z, hx] at np; cases np
 walk_at "go"
 generalize hH : upd H1 x _ = H2
 have hx2 : H2 x = some (.ins Y10 dx [("room_cells", .ref p), ("room_rover", .int r)]) := by rw [← hH]; exact upd_same
 have hp2 : H2 p = some (.lst ((Xdh cs (Xcf ps)).map V.int)) := by rw [← hH]; exact look_ne hne hp
 have k2 : Xay x H H2 := by rw [← hH]; exact (Xay.of s1).put
 walk_at "go"
 exact q p _ np k2.put upd_same (look_ne hne hp2)
structure NxS (C x dx a : Addr) (r : Int) (cs : List Int) (ps : List Pc) (H : Hp) : Prop where
 hx : H x = some (.ins C dx [("room_cells", .ref a), ("room_rover", .int r)])
 ha : H a = some (.lst (cs.map V.int))
 hz : cs.length ≤ 1200
 hc : Xam 0 ps cs.length
 mm : Xbc cs ps
 nj : Xbf ps
theorem NxS.same {C x dx a : Addr} {r : Int} {cs : List Int} {ps : List Pc} {H H' : Hp} (h : NxS C x dx a r cs ps H) (s : Same H H') : NxS C x dx a r cs ps H' := ⟨s x _ h.hx, s a _ h.ha, h.hz, h.hc, h.mm, h.nj⟩
def spLay (K : PySem.W.Frag) (C CS CB : Addr) : Sp := fun vs H Q E => ∃ (r : Int) (x h dx a : Addr) (cs0 cs : List Int), vs = [.ref x, .ref h] ∧ H x = some (.ins C dx [("room_cells", .ref a), ("room_rover", .int r)]) ∧ H a = some (.lst (cs0.map V.int)) ∧ SqL K H h (cs.map V.int) ∧ cs.length ≤ 4000 ∧ cs0.length ≤ 4000 ∧
 (cs.length ≠ cs0.length → ∀ H', Same H H' → E (.ref CS) none H') ∧
 (cs.length = cs0.length → ∀ b, (Xck cs 0).2 = some b → ∀ (d : Addr) (H' : Hp), Same H H' → H' d = some (.xd [("cell", .int b)]) → E (.ref CB) (some d) H') ∧
 (cs.length = cs0.length → ∀ ps, Xck cs 0 = (ps, none) → Xam 0 ps cs.length ∧ ∀ (a' : Addr) (H' : Hp), H a' = none → Xay x H H' → H' x = some (.ins C dx [("room_cells", .ref a'), ("room_rover", .int 0)]) → H' a' = some (.lst ((Xdh cs (Xcf ps)).map V.int)) → Q .non H')
theorem d_lay {f₀ : Addr} {fd₀ : FuncData} (F : Fun K "lay" "Keeper.lay" s_Z22 f₀ fd₀) (M : Meth K Y10 "lay" f₀) (T : Txt K mg Y0 Y8 Y4 Y3 Y6 Y9 Y2 Y7 Y5 Y1 Y10 W0_ W1_) (D_Z52 : Defx P w K mg base "looked" 4 ["cells"] (Xed K Y4)) (D_Z21 : Methx P w K mg base Y10 "room_begin" 6 ["self", "cells"] [] (spBegin K Y10)) : Methx P w K mg base Y10 "lay" 7 ["self", "cells"] [] (spLay K Y10 Y8 Y4) := by
 refine ⟨⟨f₀, fd₀, [], Xbz F sc_Z22 (fun vs H Q E h => by revert h; walk_at "len") (fun cdv A outer s H vs Q E hr h => ?_), M, F.binds bi_Z22, .nil⟩, T.cl_Next⟩
 refine ⟨_, (Xad (Xbn (Xal op_ne (Xcc Xbp (by rfl) T.n_len PySem.boot_len (Xaa (pv 1) Xag)) (Xcc Xbp (by rfl) T.n_len PySem.boot_len (Xaa (Xcx (pv 0) rfl) Xag)) (Xan _)) (Xah (Xeb T.x_NoSize hr.hd rfl (Xaa pe_str Xag))) Xat) (Xad (Xbq (Xen D_Z52 hr (by rfl) (Xaa (pv 1) Xag))) (Xah (Xbq (Xbr D_Z21 Xbh hr (pv 0) (Xaa (pv 1) Xag)))))), ?_⟩
 obtain ⟨r, x, h, dx, a, cs0, cs, rfl, hx, ha, hS, hz, hz0, qs, qb, q⟩ := h
 have cl := T.cl_Next
 have na := T.na_Next_room_cells
 have nr := T.na_Next_room_rover
 by_cases hl : cs.length = cs0.length
 · walk_at "go"
   refine ⟨h, cs, rfl, hS, hz, fun b hb d H1 s1 hd => qb hl b hb d H1 s1 hd, fun hn lp us H1 nlp s1 hlp pa => ?_⟩
   have hw : Xck cs 0 = ((Xck cs 0).1, none) := Prod.ext rfl hn
   obtain ⟨hc, q⟩ := q hl _ hw
   have hx1 := s1 x _ hx
   walk_at "go"
   refine ⟨r, x, h, dx, a, cs, _, rfl, hx1, s1.seq hS, hz, hc, hw, fun a' H2 na2 k2 hx2 ha2 => ?_⟩
   walk_at "go"
   exact q a' H2 (s1.free na2) ((Xay.of s1).trans k2) hx2 ha2
 · have hl' : (cs.length : Int) ≠ cs0.length := by omega
   walk_at "go"
   exact qs hl _ (Same.refl _)
def spClear (C : Addr) : Sp := fun vs H Q _ => ∃ (r : Int) (x dx a : Addr) (cs : List Int), vs = [.ref x] ∧ H x = some (.ins C dx [("room_cells", .ref a), ("room_rover", .int r)]) ∧ H a = some (.lst (cs.map V.int)) ∧ 1 ≤ cs.length ∧ cs.length ≤ 1200 ∧
 ∀ (a' : Addr) (cs' : List Int) (H' : Hp), H a' = none → Xay x H H' → cs'.length = cs.length → NxS C x dx a' 0 cs' [⟨0, cs.length, false⟩] H' → Q .non H'
theorem fresh_marks {n : Int} (h : 1 ≤ n) : Xam 0 [⟨0, n, false⟩] ((Xdr n).length : Int) ∧ Xbc (Xdr n) [⟨0, n, false⟩] := by
 have hl := Xfv (show 0 ≤ n by omega)
 refine ⟨⟨rfl, h, (fun h => by cases h), ?_⟩, fun p hp => ?_⟩
 · show (0 : Int) + n = _
   rw [hl]; omega
 · rw [List.mem_singleton.mp hp]
   unfold Xdr at hl ⊢
   rw [Xbg] at hl
   exact ⟨laidI_first (Int.le_refl 0) h (by omega), laidI_last (Int.le_refl 0) h (by omega)⟩
theorem d_Z65 {f₀ : Addr} {fd₀ : FuncData} (F : Fun K "clear" "Keeper.clear" s_Z10 f₀ fd₀) (M : Meth K Y10 "clear" f₀) (T : Txt K mg Y0 Y8 Y4 Y3 Y6 Y9 Y2 Y7 Y5 Y1 Y10 W0_ W1_) (D_Z28 : Defx P w K mg base "fresh_room" 2 ["count"] (spFresh Y8)) (D_Z21 : Methx P w K mg base Y10 "room_begin" 6 ["self", "cells"] [] (spBegin K Y10)) : Methx P w K mg base Y10 "clear" 7 ["self"] [] (spClear Y10) := by
 refine ⟨⟨f₀, fd₀, [], Xbz F sc_Z10 (fun vs H Q E h => by revert h; walk_at "len") (fun cdv A outer s H vs Q E hr h => ?_), M, F.binds bi_Z10, .nil⟩, T.cl_Next⟩
 refine ⟨_, PSs.nox (Xah (Xbq (Xbr D_Z21 Xbh hr (pv 0) (Xaa (Xak D_Z28 hr (by rfl) (Xaa (Xcc Xbp (by rfl) T.n_len PySem.boot_len (Xaa (Xcx (pv 0) rfl) Xag)) Xag)) Xag)))), ?_⟩
 obtain ⟨r, x, dx, a, cs, rfl, hx, ha, h1, hz, q⟩ := h
 have cl := T.cl_Next
 have na := T.na_Next_room_cells
 have nr := T.na_Next_room_rover
 walk_at "go"
 refine ⟨(cs.length : Int), rfl, by omega, fun z => absurd z (by omega), fun _ p H1 np s1 hp => ?_⟩
 have hx1 := s1 x _ hx
 obtain ⟨f1, f2⟩ := fresh_marks (n := (cs.length : Int)) (by omega)
 have fl := Xfv (show (0 : Int) ≤ cs.length by omega)
 have fw := Xbl f1 f2
 have hj : Xcf [(⟨0, cs.length, false⟩ : Pc)] = [⟨0, cs.length, false⟩] := rfl
 have f3 := Xej (ds := []) (rs := [⟨0, cs.length, false⟩]) (m := 0) (cs := Xdr cs.length) rfl f1 (Xbc.nil _)
 walk_at "go"
 refine ⟨r, x, p, dx, a, Xdr cs.length, _, rfl, hx1, SqL.of hp, by omega, f1, fw, fun a' H2 na2 k2 hx2 ha2 => ?_⟩
 walk_at "go"
 rw [hj] at ha2
 exact q a' _ H2 (s1.free na2) ((Xay.of s1).trans k2) (by rw [Xdf]; exact Int.ofNat.inj fl) ⟨hx2, ha2, by rw [Xdf]; omega, by rw [Xdf]; exact f1, f3, Xct _⟩
def spPiecesK (C : Addr) : Sp := fun vs H Q _ => ∃ (r : Int) (x dx a : Addr) (cs : List Int) (ps : List Pc), vs = [.ref x] ∧ NxS C x dx a r cs ps H ∧
 ∀ (p : Addr) (us : List V) (H' : Hp), H p = none → Same H H' → H' p = some (.lst us) → Xas H' us ps → Q (.ref p) H'
theorem d_Z51 {f₀ : Addr} {fd₀ : FuncData} (F : Fun K "pieces" "Keeper.pieces" s_Z7 f₀ fd₀) (M : Meth K Y10 "pieces" f₀) (T : Txt K mg Y0 Y8 Y4 Y3 Y6 Y9 Y2 Y7 Y5 Y1 Y10 W0_ W1_) (D_Z52 : Defx P w K mg base "looked" 4 ["cells"] (Xed K Y4)) : Methx P w K mg base Y10 "pieces" 5 ["self"] [] (spPiecesK Y10) := by
 refine ⟨⟨f₀, fd₀, [], Xbz F sc_Z7 (fun vs H Q E h => by revert h; walk_at "len") (fun cdv A outer s H vs Q E hr h => ?_), M, F.binds bi_Z7, .nil⟩, T.cl_Next⟩
 refine ⟨_, PSs.nox (Xah (Xao (Xak D_Z52 hr (by rfl) (Xaa (Xcx (pv 0) rfl) Xag)))), ?_⟩
 obtain ⟨r, x, dx, a, cs, ps, rfl, ⟨hx, ha, hz, hc, mk, nj⟩, q⟩ := h
 have cl := T.cl_Next
 have na := T.na_Next_room_cells
 have nr := T.na_Next_room_rover
 have hw := Xbl hc mk
 walk_at "go"
 refine ⟨a, cs, rfl, SqL.of ha, by omega, (fun c hc => by rw [hw] at hc; cases hc), fun _ lp us H1 nlp s1 hlp pa => ?_⟩
 walk_at "go"
 exact q lp us H1 nlp s1 hlp (by rw [hw] at pa; exact pa)
def spCellsK (C : Addr) : Sp := fun vs H Q _ => ∃ (r : Int) (x dx a : Addr) (cs : List Int), vs = [.ref x] ∧ H x = some (.ins C dx [("room_cells", .ref a), ("room_rover", .int r)]) ∧ H a = some (.lst (cs.map V.int)) ∧
 ∀ (p : Addr) (H' : Hp), H p = none → Same H H' → H' p = some (.lst (cs.map V.int)) → Q (.ref p) H'
theorem d_Z62 {f₀ : Addr} {fd₀ : FuncData} (F : Fun K "cells" "Keeper.cells" s_Z13 f₀ fd₀) (M : Meth K Y10 "cells" f₀) (T : Txt K mg Y0 Y8 Y4 Y3 Y6 Y9 Y2 Y7 Y5 Y1 Y10 W0_ W1_)  : Methx P w K mg base Y10 "cells" 1 ["self"] [] (spCellsK Y10) := by
 refine ⟨⟨f₀, fd₀, [], Xbz F sc_Z13 (fun vs H Q E h => by revert h; walk_at "len") (fun cdv A outer s H vs Q E hr h => ?_), M, F.binds bi_Z13, .nil⟩, T.cl_Next⟩
 refine ⟨_, PSs.nox (Xah (Xao (Xev Xcy (by rfl) T.n_list PyProof.Rows.boot_list (Xaa (Xcx (pv 0) rfl) Xag)))), ?_⟩
 obtain ⟨r, x, dx, a, cs, rfl, hx, ha, q⟩ := h
 have cl := T.cl_Next
 have na := T.na_Next_room_cells
 have nr := T.na_Next_room_rover
 walk_at "go"
 intro p np
 walk_at "go"
 exact q p _ np (Same.new np) upd_same
def spRover (C : Addr) : Sp := fun vs H Q _ => ∃ (r : Int) (x dx a : Addr), vs = [.ref x] ∧ H x = some (.ins C dx [("room_cells", .ref a), ("room_rover", .int r)]) ∧ Q (.int r) H
theorem d_Z64 {f₀ : Addr} {fd₀ : FuncData} (F : Fun K "rover" "Next.rover" s_Z25 f₀ fd₀) (M : Meth K Y10 "rover" f₀) (T : Txt K mg Y0 Y8 Y4 Y3 Y6 Y9 Y2 Y7 Y5 Y1 Y10 W0_ W1_)  : Methx P w K mg base Y10 "rover" 1 ["self"] [] (spRover Y10) := by
 refine ⟨⟨f₀, fd₀, [], Xbz F sc_Z25 (fun vs H Q E h => by revert h; walk_at "len") (fun cdv A outer s H vs Q E hr h => ?_), M, F.binds bi_Z25, .nil⟩, T.cl_Next⟩
 refine ⟨_, PSs.nox (Xah (Xao (Xcx (pv 0) rfl))), ?_⟩
 obtain ⟨r, x, dx, a, rfl, hx, q⟩ := h
 have cl := T.cl_Next
 have na := T.na_Next_room_cells
 have nr := T.na_Next_room_rover
 walk_at "go"
 exact q
def spGrant (C : Addr) : Sp := fun vs H Q _ => ∃ (r r' : Int) (x dx a : Addr), vs = [.ref x, .int r'] ∧ H x = some (.ins C dx [("room_cells", .ref a), ("room_rover", .int r)]) ∧ ∀ H', Xay x H H' → H' x = some (.ins C dx [("room_cells", .ref a), ("room_rover", .int r')]) → Q .non H'
theorem d_Z15 {f₀ : Addr} {fd₀ : FuncData} (F : Fun K "room_granted" "Next.room_granted" s_Z2 f₀ fd₀) (M : Meth K Y10 "room_granted" f₀) (T : Txt K mg Y0 Y8 Y4 Y3 Y6 Y9 Y2 Y7 Y5 Y1 Y10 W0_ W1_)  : Methx P w K mg base Y10 "room_granted" 1 ["self", "behind"] [] (spGrant Y10) := by
 refine ⟨⟨f₀, fd₀, [], Xbz F sc_Z2 (fun vs H Q E h => by revert h; walk_at "len") (fun cdv A outer s H vs Q E hr h => ?_), M, F.binds bi_Z2, .nil⟩, T.cl_Next⟩
 refine ⟨_, PSs.nox (Xah (Xfl (pv 0) (pv 1) rfl)), ?_⟩
 obtain ⟨r, r', x, dx, a, rfl, hx, q⟩ := h
 have cl := T.cl_Next
 have na := T.na_Next_room_cells
 have nr := T.na_Next_room_rover
 walk_at "go"
 exact q _ Xay.refl.put upd_same
def spMany (C : Addr) : Sp := fun vs H Q _ => ∃ (r : Int) (x dx a : Addr) (cs : List Int) (ps : List Pc) (z : Pc), vs = [.ref x, .int (z.a + 1)] ∧ H x = some (.ins C dx [("room_cells", .ref a), ("room_rover", .int r)]) ∧ H a = some (.lst (cs.map V.int)) ∧ cs.length ≤ 4000 ∧ Xam 0 ps cs.length ∧ Xbc cs ps ∧ z ∈ ps ∧ z.v = true ∧
 ∀ (H' : Hp), Same H H' → Q (.int (z.l - 2)) H'
theorem d_Z69 {f₀ : Addr} {fd₀ : FuncData} (F : Fun K "many" "Keeper.many" s_Z18 f₀ fd₀) (M : Meth K Y10 "many" f₀) (T : Txt K mg Y0 Y8 Y4 Y3 Y6 Y9 Y2 Y7 Y5 Y1 Y10 W0_ W1_) (D_Z48 : Defx P w K mg base "live_at" 6 ["cells", "at"] (Xgb K Y3 true)) : Methx P w K mg base Y10 "many" 7 ["self", "place"] [] (spMany Y10) := by
 refine ⟨⟨f₀, fd₀, [], Xbz F sc_Z18 (fun vs H Q E h => by revert h; walk_at "len") (fun cdv A outer s H vs Q E hr h => ?_), M, F.binds bi_Z18, .nil⟩, T.cl_Next⟩
 refine ⟨_, PSs.nox (Xad (Xdo (Xak D_Z48 hr (by rfl) (Xaa (Xcx (pv 0) rfl) (Xaa (Xai Xcd (pv 1) Xac) Xag))) (pg_tup rfl (Xba (Xax (i := 2) sc_Z18.nd rfl (Or.inl rfl)) (Xba (Xax (i := 3) sc_Z18.nd rfl (Or.inl rfl)) (Xba (Xax (i := 4) sc_Z18.nd rfl (Or.inl rfl)) Xee))))) (Xah (Xao (Xai Xcd (pv 3) (pe_glob (v := .int 2) (by rfl) T.g_MARKS ⟨_, rfl⟩))))), ?_⟩
 obtain ⟨r, x, dx, a, cs, ps, z, rfl, hx, ha, hz, hc, mk, hm, hv, q⟩ := h
 have cl := T.cl_Next
 have na := T.na_Next_room_cells
 have nr := T.na_Next_room_rover
 have hw := Xbl hc mk
 walk_at "go"
 refine ⟨a, cs, ps, z.a, by rw [Int.add_sub_cancel], SqL.of ha, hz, hw, hc, fun y hy hk hv' t H1 s1 ht => ?_, fun hn => absurd hv (hn z hm rfl)⟩
 have ey := Xdg hc hy hm (by omega)
 subst ey
 walk_at "go"
 exact q _ s1
def spCellOf (C : Addr) : Sp := fun vs H Q _ => ∃ (r : Int) (x dx a : Addr) (cs : List Int) (ps : List Pc) (z : Pc) (k : Int), vs = [.ref x, .int (z.a + 1), .int k] ∧ H x = some (.ins C dx [("room_cells", .ref a), ("room_rover", .int r)]) ∧ H a = some (.lst (cs.map V.int)) ∧ cs.length ≤ 4000 ∧ Xam 0 ps cs.length ∧ Xbc cs ps ∧ z ∈ ps ∧ z.v = true ∧ 0 ≤ k ∧ k < z.l - 2 ∧
 ∀ (H' : Hp), Same H H' → Q (.int (z.a + 1 + k)) H'
theorem d_Z12 {f₀ : Addr} {fd₀ : FuncData} (F : Fun K "room_cell_of" "Keeper.room_cell_of" s_Z0 f₀ fd₀) (M : Meth K Y10 "room_cell_of" f₀) (T : Txt K mg Y0 Y8 Y4 Y3 Y6 Y9 Y2 Y7 Y5 Y1 Y10 W0_ W1_) (D_Z69 : Methx P w K mg base Y10 "many" 7 ["self", "place"] [] (spMany Y10)) : Methx P w K mg base Y10 "room_cell_of" 8 ["self", "place", "k"] [] (spCellOf Y10) := by
 refine ⟨⟨f₀, fd₀, [], Xbz F sc_Z0 (fun vs H Q E h => by revert h; walk_at "len") (fun cdv A outer s H vs Q E hr h => ?_), M, F.binds bi_Z0, .nil⟩, T.cl_Next⟩
 refine ⟨_, PSs.nox (Xad (Xar (i := 3) sc_Z0.nd rfl (Or.inl rfl) (Xbr D_Z69 Xbh hr (pv 0) (Xaa (pv 1) Xag))) (Xad (Xbn (PW.pt (Xdk (Xal Xfr (pv 2) Xac (Xan _)) (Xcr (Xal op_ge (pv 2) (pv 3) (Xan _))))) (Xah ps_never) Xat) (Xah (Xao (Xai Xau (pv 1) (pv 2)))))), ?_⟩
 obtain ⟨r, x, dx, a, cs, ps, z, k, rfl, hx, ha, hz, hc, mk, hm, hv, k0, k1, q⟩ := h
 have cl := T.cl_Next
 have na := T.na_Next_room_cells
 have nr := T.na_Next_room_rover
 walk_at "go"
 refine ⟨r, x, dx, a, cs, ps, z, rfl, hx, ha, hz, hc, mk, hm, hv, fun H1 s1 => ?_⟩
 walk_at "go"
 exact q H1 s1
def spPut (C : Addr) : Sp := fun vs H Q _ => ∃ (r : Int) (x dx a : Addr) (cs : List Int) (ps : List Pc) (z : Pc) (k n : Int), vs = [.ref x, .int (z.a + 1), .int k, .int n] ∧ H x = some (.ins C dx [("room_cells", .ref a), ("room_rover", .int r)]) ∧ H a = some (.lst (cs.map V.int)) ∧ cs.length ≤ 4000 ∧ Xam 0 ps cs.length ∧ Xbc cs ps ∧ z ∈ ps ∧ z.v = true ∧ 0 ≤ k ∧ k < z.l - 2 ∧
 ∀ (H' : Hp), Xay a H H' → H' a = some (.lst ((cs.set (z.a + 1 + k).toNat n).map V.int)) → Q .non H'
theorem d_put {f₀ : Addr} {fd₀ : FuncData} (F : Fun K "put" "Keeper.put" s_Z23 f₀ fd₀) (M : Meth K Y10 "put" f₀) (T : Txt K mg Y0 Y8 Y4 Y3 Y6 Y9 Y2 Y7 Y5 Y1 Y10 W0_ W1_) (D_Z12 : Methx P w K mg base Y10 "room_cell_of" 8 ["self", "place", "k"] [] (spCellOf Y10)) : Methx P w K mg base Y10 "put" 9 ["self", "place", "k", "number"] [] (spPut Y10) := by
 refine ⟨⟨f₀, fd₀, [], Xbz F sc_Z23 (fun vs H Q E h => by revert h; walk_at "len") (fun cdv A outer s H vs Q E hr h => ?_), M, F.binds bi_Z23, .nil⟩, T.cl_Next⟩
 refine ⟨_, PSs.nox (Xad (Xar (i := 4) sc_Z23.nd rfl (Or.inl rfl) (Xbr D_Z12 Xbh hr (pv 0) (Xaa (pv 1) (Xaa (pv 2) Xag)))) (Xah (Xdo (pv 3) (Xfu (Xcx (pv 0) rfl) (pv 4) Xdd)))), ?_⟩
 obtain ⟨r, x, dx, a, cs, ps, z, k, n, rfl, hx, ha, hz, hc, mk, hm, hv, k0, k1, q⟩ := h
 have cl := T.cl_Next
 have na := T.na_Next_room_cells
 have nr := T.na_Next_room_rover
 obtain ⟨z0, z1, z3, z4⟩ := hc.mem z hm
 walk_at "go"
 refine ⟨r, x, dx, a, cs, ps, z, k, rfl, hx, ha, hz, hc, mk, hm, hv, k0, k1, fun H1 s1 => ?_⟩
 have hx1 := s1 x _ hx
 have ha1 := s1 a _ ha
 walk_at "go"
 exact q _ (Xay.of s1).put upd_same
def spGet (C : Addr) : Sp := fun vs H Q _ => ∃ (r : Int) (x dx a : Addr) (cs : List Int) (ps : List Pc) (z : Pc) (k : Int), vs = [.ref x, .int (z.a + 1), .int k] ∧ H x = some (.ins C dx [("room_cells", .ref a), ("room_rover", .int r)]) ∧ H a = some (.lst (cs.map V.int)) ∧ cs.length ≤ 4000 ∧ Xam 0 ps cs.length ∧ Xbc cs ps ∧ z ∈ ps ∧ z.v = true ∧ 0 ≤ k ∧ k < z.l - 2 ∧
 ∀ (H' : Hp), Same H H' → Q (.int (cs.getD (z.a + 1 + k).toNat 0)) H'
theorem d_get {f₀ : Addr} {fd₀ : FuncData} (F : Fun K "get" "Keeper.get" s_Z24 f₀ fd₀) (M : Meth K Y10 "get" f₀) (T : Txt K mg Y0 Y8 Y4 Y3 Y6 Y9 Y2 Y7 Y5 Y1 Y10 W0_ W1_) (D_Z12 : Methx P w K mg base Y10 "room_cell_of" 8 ["self", "place", "k"] [] (spCellOf Y10)) : Methx P w K mg base Y10 "get" 9 ["self", "place", "k"] [] (spGet Y10) := by
 refine ⟨⟨f₀, fd₀, [], Xbz F sc_Z24 (fun vs H Q E h => by revert h; walk_at "len") (fun cdv A outer s H vs Q E hr h => ?_), M, F.binds bi_Z24, .nil⟩, T.cl_Next⟩
 refine ⟨_, PSs.nox (Xah (Xao (Xaq Xbi (Xcx (pv 0) rfl) (Xbr D_Z12 Xbh hr (pv 0) (Xaa (pv 1) (Xaa (pv 2) Xag))) (fun _ _ => rfl)))), ?_⟩
 obtain ⟨r, x, dx, a, cs, ps, z, k, rfl, hx, ha, hz, hc, mk, hm, hv, k0, k1, q⟩ := h
 have cl := T.cl_Next
 have na := T.na_Next_room_cells
 have nr := T.na_Next_room_rover
 obtain ⟨z0, z1, z3, z4⟩ := hc.mem z hm
 walk_at "go"
 refine ⟨r, x, dx, a, cs, ps, z, k, rfl, hx, ha, hz, hc, mk, hm, hv, k0, k1, fun H1 s1 => ?_⟩
 have hx1 := s1 x _ hx
 have ha1 := s1 a _ ha
 walk_at "go"
 exact q _ s1
theorem pe_fldK {X : Cx} {K : PySem.W.Frag} {e : Expr} {f : Str} {pos : Pos} {ta : TE} (hK : X.K = K) (he : PE X e ta) (hb : attributeBase e f X.env (eval e X.env) = eval e X.env) : PE X (.Attribute e f pos) (tFld K ta f) := hK ▸ Xcx he hb
theorem spotI_is {L b : Int} {z : Pc} {q : Int × Int} (hb : 1 ≤ b) (h : Xfg L b z = some q) : z.v = false ∧ q = (z.a, fpl z.a b) ∧ z.a ≤ fpl z.a b ∧ fpl z.a b + L ≤ z.a + z.l := by
 unfold Xfg at h
 split at h
 · cases h
 · rename_i hv
   unfold fp at h
   split at h
   · rename_i hf
     have h : (z.a, fpl z.a b) = q := by simpa using h
     refine ⟨by simpa using hv, h.symm, ?_, hf⟩
     have := Int.emod_lt_of_pos z.a (show 0 < b by omega)
     unfold fpl
     omega
   · cases h
theorem spotsI_pw : ∀ {ps : List Pc} {s e L b : Int}, 1 ≤ b → Xam s ps e → (Xbb ps L b).Pairwise (fun p q => p.1 < q.1)
 | [], _, _, _, _, _, _ => List.Pairwise.nil
 | z :: r, s, e, L, b, hb, ⟨h0, h1, h2, h3⟩ => by
   unfold Xbb
   rw [List.filterMap_cons]
   cases hs : Xfg L b z with
   | none => exact spotsI_pw hb h3
   | some q =>
     obtain ⟨_, e1, _, _⟩ := spotI_is hb hs
     refine List.Pairwise.cons (fun q' hq' => ?_) (spotsI_pw hb h3)
     have := spotsI_from h3 q' hq'
     rw [e1]
     show z.a < q'.1
     omega
theorem nx_mem {qs : List (Int × Int)} {r s : Int} (h : nxQ qs r = some s) : ∃ q ∈ qs, q.2 = s := by
 unfold nxQ at h
 split at h
 · rename_i q hq
   exact ⟨q, List.mem_of_find?_eq_some hq, Option.some.inj h⟩
 · obtain ⟨q, h1, h2⟩ := Option.map_eq_some_iff.mp h
   exact ⟨q, List.mem_of_head? h1, h2⟩
theorem nx_in {ps : List Pc} {L b r s : Int} (hb : 1 ≤ b) (h : nxQ (Xbb ps L b) r = some s) : ∃ (i : Nat) (z : Pc), ps[i]? = some z ∧ z.v = false ∧ z.a ≤ s ∧ s + L ≤ z.a + z.l := by
 obtain ⟨q, hq, rfl⟩ := nx_mem h
 obtain ⟨z, hz, e⟩ := List.mem_filterMap.mp hq
 obtain ⟨i, hi⟩ := List.getElem?_of_mem hz
 obtain ⟨h1, h2, h3, h4⟩ := spotI_is hb e
 rw [h2]
 exact ⟨i, z, hi, h1, h3, h4⟩
def spChosen (C : Addr) : Sp := fun vs H Q _ => ∃ (r : Int) (x dx a : Addr) (cs : List Int) (ps : List Pc) (L b : Int), vs = [.ref x, .int L, .int b] ∧ NxS C x dx a r cs ps H ∧ 1 ≤ b ∧ ∀ (H' : Hp), Same H H' → Q (optV (nxQ (Xbb ps L b) r)) H'
def ChW (H1 : Hp) (r : Int) (qs : List (Int × Int)) (D : Addr) (i : Nat) (ys : List V) (H2 : Hp) : Prop := Same H1 H2 ∧ H2 D = some (.lst ys) ∧ Xcj H2 ys (((qs.take i).map (rkN r)).map fun x => x.map V.int)
theorem d_Z55 {f₀ : Addr} {fd₀ : FuncData} (F : Fun K "chosen" "Next.chosen" s_Z17 f₀ fd₀) (M : Meth K Y10 "chosen" f₀) (T : Txt K mg Y0 Y8 Y4 Y3 Y6 Y9 Y2 Y7 Y5 Y1 Y10 W0_ W1_) (D_Z34 : Defx P w K mg base "spots_for" 5 ["cells", "long", "bound"] (spSpots K)) (D_Z16 : Defx P w K mg base "least_place" 1 ["ranked"] (spLeast)) : Methx P w K mg base Y10 "chosen" 6 ["self", "long", "bound"] [] (spChosen Y10) := by
 refine ⟨⟨f₀, fd₀, [], Xbz F sc_Z17 (fun vs H Q E h => by revert h; walk_at "len") (fun cdv A outer s H vs Q E hr h => ?_), M, F.binds bi_Z17, .nil⟩, T.cl_Next⟩
 refine ⟨_, PSs.nox (Xad (Xar (i := 3) sc_Z17.nd rfl (Or.inl rfl) (Xak D_Z34 hr (by rfl) (Xaa (Xcx (pv 0) rfl) (Xaa (pv 1) (Xaa (pv 2) Xag))))) (Xah (Xao (Xak D_Z16 hr (by rfl) (Xaa (pe_compG ["at", "place"] ["self"] [0] rfl (Xcg (pv 3)) (fun cl C s₀ H₀ ex => (pg_tupK (K := K) (n := 2) rfl rfl (Xba (Xax (i := 0) (show ((["at", "place"] : List Str) ++ (["self"] : List Str)).Nodup by decide +kernel) rfl (Or.inl rfl)) (Xba (Xax (i := 1) (show ((["at", "place"] : List Str) ++ (["self"] : List Str)).Nodup by decide +kernel) rfl (Or.inl rfl)) Xee)))) (fun cl C s₀ H₀ ex => pts_nil) (fun cl C s₀ H₀ ex => (Xci (Xaa (pe_ifExp (Xal op_ge (pv 0) (pe_fldK (K := K) rfl (pv 2) rfl) (Xan _)) Xac Xac) (Xaa (pv 0) (Xaa (pv 1) Xag))))) (Xfy rfl rfl rfl) (free_one (n := "self") (by decide +kernel) rfl) (fun y h => Xdl (by decide +kernel) h)) Xag))))), ?_⟩
 obtain ⟨r, x, dx, a, cs, ps, L, b, rfl, ⟨hx, ha, hz, hc, mk, nj⟩, hb, q⟩ := h
 have cl := T.cl_Next
 have na := T.na_Next_room_cells
 have nr := T.na_Next_room_rover
 have hw := Xbl hc mk
 walk_at "go"
 refine ⟨a, cs, ps, L, b, rfl, SqL.of ha, by omega, hw, hb, fun sp us H1 nsp s1 hsp tsp => ?_⟩
 rw [spotsOf_I] at tsp
 have hql : (Xbb ps L b).length ≤ 1200 := by
   have h1 : (Xbb ps L b).length ≤ ps.length := List.length_filterMap_le _ _
   have h2 := hc.le
   omega
 have hpw := List.pairwise_iff_getElem.mp (spotsI_pw (L := L) hb hc)
 generalize Xbb ps L b = qs at tsp hql hpw q
 have htl := tsp.1
 rw [List.length_map] at htl
 have hx1 := s1 x _ hx
 walk_at "go"
 refine ⟨sp, rfl, ⟨_, SqL.of hsp⟩, Xde (K := K) (a := sp) (xs := us) (fs := [some (.ref x)]) (ChW H1 r qs) (fun D hD => ⟨Same.new hD, upd_same, Xcj.nil⟩) (fun D i ys H2 _ h => SqL.of (h.1 sp _ hsp)) ?_ ?_⟩
 · rintro D i y ys H2 hD hi ⟨s2, hD2, ta⟩ τ hτ
   have hil : i < us.length := (List.getElem?_eq_some_iff.mp hi).1
   have hiq : i < qs.length := by omega
   obtain ⟨t, et, hT⟩ := tsp.2 i [V.int qs[i].1, V.int qs[i].2] (by simp [hiq])
   have ey : y = .ref t := Option.some.inj (hi.symm.trans et)
   subst ey
   have hT2 := s2 t _ hT
   have hx2 := s2 x _ hx1
   have etk : qs.take (i + 1) = qs.take i ++ [qs[i]] := by rw [List.take_add_one, List.getElem?_eq_getElem hiq]; rfl
   have hyl := ta.1
   rw [List.length_map, List.length_map, List.length_take] at hyl
   generalize qs[i] = w at hT2 etk
   match τ, hτ with
   | [τ0, τ1], _ =>
     walk_at "go"
     refine ⟨⟨[_, _], rfl, rfl⟩, ?_⟩
     walk_at "go"
     refine Xce (fun hge => ?_) (fun hge => ?_)
     · walk_at "go"
       intro t2 ht2
       refine ⟨look_put ht2 hD2, small4000 (by omega), nx_mk hil ⟨(s2.put (s2.free ht2)).put hD, upd_same, ?_⟩⟩
       rw [etk, List.map_append, List.map_append]
       have e : rkN r w = [0, w.1, w.2] := by unfold rkN; rw [if_pos hge]
       rw [List.map_singleton, List.map_singleton, e]
       exact ta.push hD2 ht2
     · walk_at "go"
       intro t2 ht2
       refine ⟨look_put ht2 hD2, small4000 (by omega), nx_mk hil ⟨(s2.put (s2.free ht2)).put hD, upd_same, ?_⟩⟩
       rw [etk, List.map_append, List.map_append]
       have e : rkN r w = [1, w.1, w.2] := by unfold rkN; rw [if_neg hge]
       rw [List.map_singleton, List.map_singleton, e]
       exact ta.push hD2 ht2
 · rintro D ys H2 hD ⟨s2, hD2, ta⟩
   rw [List.take_of_length_le (by omega)] at ta
   have h3 : ∀ x ∈ qs.map (rkN r), x.length = 3 := fun x hx => by
     obtain ⟨w, _, rfl⟩ := List.mem_map.mp hx
     rfl
   have := q H2 (s1.trans s2)
   walk_at "go"
   refine ⟨D, ys, qs.map (rkN r), rfl, hD2, ta, h3, fun z => ?_, fun hp => ?_⟩
   · walk_at "go"
     have e0 : qs = [] := List.map_eq_nil_iff.mp z
     rw [e0] at this
     exact this
   · walk_at "go"
     rw [List.length_map] at hp
     rw [nx_min (r := r) (fun i j h hj => hpw i j (Nat.lt_trans h hj) hj h) hp] at this
     exact this
theorem Xay.free {x b : Addr} {H H' : Hp} {o : HO} (k : Xay x H H') (hx : H' x = some o) (hn : H' b = none) : H b = none := by
 cases e : H b with
 | none => rfl
 | some o' =>
   have := k b o' (fun z => by rw [z, hx] at hn; cases hn) e
   rw [hn] at this
   cases this
def spAsk (C CN : Addr) : Sp := fun vs H Q E => ∃ (r : Int) (x dx a : Addr) (cs : List Int) (ps : List Pc) (c b : Int), vs = [.ref x, .int c, .int b] ∧ NxS C x dx a r cs ps H ∧ 1 ≤ c ∧ 1 ≤ b ∧
 (nxQ (Xbb ps (c + 2) b) r = none → ∀ H', Same H H' → E (.ref CN) none H') ∧
 (∀ s, nxQ (Xbb ps (c + 2) b) r = some s → ∀ (a' : Addr) (cs' : List Int) (H' : Hp), H a' = none → Xay x H H' → cs'.length = cs.length → NxS C x dx a' (s + (c + 2)) cs' (cutL ps s (c + 2)) H' → Q (.int (s + 1)) H')
theorem d_ask {f₀ T₀ : Addr} {fd₀ : FuncData} {tk₀ : Tok} {tc₀ : Value} {td₀ : Option Addr} {tn₀ : Nat} {ts₀ : Array (Option Value)} (F : FunD K "ask" "Stretches.ask" s_Z8 (.ref T₀) f₀ fd₀) (LT : K.lookup T₀ = some ⟨tc₀, td₀, .seq [.int 1 tk₀].toArray tn₀, ts₀⟩) (M : Meth K Y10 "ask" f₀) (T : Txt K mg Y0 Y8 Y4 Y3 Y6 Y9 Y2 Y7 Y5 Y1 Y10 W0_ W1_) (D_Z32 : Defx P w K mg base "check_ask" 1 ["count", "bound"] (spCheck)) (D_Z55 : Methx P w K mg base Y10 "chosen" 6 ["self", "long", "bound"] [] (spChosen Y10)) (D_Z47 : Defx P w K mg base "cut_out" 7 ["cells", "at", "place", "long"] (spCut K Y3 Y7)) (D_Z11 : Defx P w K mg base "begin_around" 5 ["cells", "cell"] (spAround K)) (D_Z15 : Methx P w K mg base Y10 "room_granted" 1 ["self", "behind"] [] (spGrant Y10)) : MethD P w K mg base Y10 "ask" 8 ["self", "count", "bound"] [.int 1] (spAsk Y10 Y7) := by
 refine MethD.made (fd := fd₀) ?_ M (F.bindsA LT (bi_Z8 T₀ _)) (F.bindsD LT (bd_Z8 T₀ _)) (.cons ⟨tk₀, rfl⟩ .nil) T.cl_Next
 refine funD_okx F sc_Z8 (fun vs H Q E h => by revert h; walk_at "len") (fun cdv A outer s H vs Q E hr h => ?_)
 refine ⟨_, (Xad (Xbq (Xak D_Z32 hr (by rfl) (Xaa (pv 1) (Xaa (pv 2) Xag)))) (Xad (Xar (i := 3) sc_Z8.nd rfl (Or.inl rfl) (Xai Xau (pv 1) (pe_glob (v := .int 2) (by rfl) T.g_MARKS ⟨_, rfl⟩))) (Xad (Xar (i := 4) sc_Z8.nd rfl (Or.inl rfl) (Xbr D_Z55 Xbh hr (pv 0) (Xaa (pv 3) (Xaa (pv 2) Xag)))) (Xad (Xbn (Xal op_isN (pv 4) Xcn (Xan _)) (Xah (Xeb T.x_NoRoom hr.hd rfl (Xaa pe_str Xag))) Xat) (Xad (Xfl (pv 0) (Xen D_Z47 hr (by rfl) (Xaa (Xcx (pv 0) rfl) (Xaa (Xak D_Z11 hr (by rfl) (Xaa (Xcx (pv 0) rfl) (Xaa (pv 4) Xag))) (Xaa (pv 4) (Xaa (pv 3) Xag))))) rfl) (Xad (Xbq (Xbr D_Z15 Xbh hr (pv 0) (Xaa (Xai Xau (pv 4) (pv 3)) Xag))) (Xah (Xao (Xai Xau (pv 4) Xac))))))))), ?_⟩
 obtain ⟨r, x, dx, a, cs, ps, c, b, rfl, S, h1, h2, qn, q⟩ := h
 have cl := T.cl_Next
 have na := T.na_Next_room_cells
 have nr := T.na_Next_room_rover
 obtain ⟨hx, ha, hz, hc, mk, nj⟩ := id S
 walk_at "go"
 refine ⟨c, b, rfl, h1, h2, ?_⟩
 walk_at "go"
 refine ⟨r, x, dx, a, cs, ps, _, b, rfl, S, h2, fun H1 s1 => ?_⟩
 have hx1 := s1 x _ hx
 have ha1 := s1 a _ ha
 cases hn : nxQ (Xbb ps (c + 2) b) r with
 | none =>
   walk_at "go"
   exact qn hn H1 s1
 | some s =>
   obtain ⟨i, z, hi, hv, g1, g2⟩ := nx_in h2 hn
   have hzm := List.mem_of_getElem? hi
   walk_at "go"
   refine ⟨a, cs, ps, i, z, s, rfl, SqL.of ha1, by omega, hc, mk, hi, g1, by omega, fun H2 s2 => ?_⟩
   have hx2 := s2 x _ hx1
   have ha2 := s2 a _ ha1
   walk_at "go"
   refine ⟨a, cs, ps, z.a, s, c + 2, rfl, SqL.of ha2, by omega, hc, mk, by omega, fun y hy hk hv' e1 e2 p H3 np s3 hp => ?_, fun y hy hk hv' hn' => ?_, fun hn' => absurd hv (hn' z hzm rfl)⟩
   · have ey := Xdg hc hy hzm hk
     subst ey
     have hx3 := s3 x _ hx2
     have hne : p ≠ x := fun z => by rw [z, hx2] at np; cases np
     have s13 := (s1.trans s2).trans s3
     walk_at "go"
     generalize hH : upd H3 x _ = H4
     have hx4 : H4 x = some (.ins Y10 dx [("room_cells", .ref p), ("room_rover", .int r)]) := by rw [← hH]; exact upd_same
     have hp4 : H4 p = some (.lst ((cutO cs y.a y.l s (c + 2)).map V.int)) := by rw [← hH]; exact look_ne hne hp
     have k4 : Xay x H H4 := by rw [← hH]; exact (Xay.of s13).put
     refine ⟨r, s + (c + 2), x, dx, p, rfl, hx4, fun H5 k5 hx5 => ?_⟩
     walk_at "go"
     obtain ⟨y0, y1, y3, y4⟩ := hc.mem y hzm
     obtain ⟨ds, rs, e3, e4, c1, c2⟩ := Xaz hc hi
     subst e3
     have ecut := cutL_is hc hv (show 1 ≤ c + 2 by omega) g1 g2
     refine q s hn p _ H5 ((s1.trans s2).free np) (k4.trans k5) (by rw [cutO_len]) ⟨hx5, k5 p _ hne hp4, by rw [cutO_len]; exact hz, ?_, ?_, ?_⟩
     · rw [cutO_len, ecut]
       exact cutP_chain (by omega) g1 g2 c1 c2
     · rw [ecut]
       exact cutP_marks y0 (by omega) g1 g2 (by omega) (c1.endBy (Int.le_refl 0)) c2.fromOn mk
     · rw [ecut]
       exact cutP_noAdj nj hv
   · have ey := Xdg hc hy hzm hk
     subst ey
     exact absurd ⟨g1, g2⟩ hn'
def spGive (C : Addr) : Sp := fun vs H Q _ => ∃ (r : Int) (x dx a : Addr) (cs : List Int) (ps : List Pc) (i : Nat) (z : Pc), vs = [.ref x, .int (z.a + 1)] ∧ NxS C x dx a r cs ps H ∧ ps[i]? = some z ∧ z.v = true ∧
 ∀ (a' : Addr) (cs' : List Int) (H' : Hp), H a' = none → Xay x H H' → cs'.length = cs.length → NxS C x dx a' r cs' (Xcf (modF ps z.a)) H' → Q .non H'
theorem d_Z67 {f₀ : Addr} {fd₀ : FuncData} (F : Fun K "give" "Stretches.give" s_Z5 f₀ fd₀) (M : Meth K Y10 "give" f₀) (T : Txt K mg Y0 Y8 Y4 Y3 Y6 Y9 Y2 Y7 Y5 Y1 Y10 W0_ W1_) (D_Z63 : Defx P w K mg base "freed" 7 ["cells", "at"] (spFreed K Y3)) : Methx P w K mg base Y10 "give" 8 ["self", "place"] [] (spGive Y10) := by
 refine ⟨⟨f₀, fd₀, [], Xbz F sc_Z5 (fun vs H Q E h => by revert h; walk_at "len") (fun cdv A outer s H vs Q E hr h => ?_), M, F.binds bi_Z5, .nil⟩, T.cl_Next⟩
 refine ⟨_, PSs.nox (Xah (Xfl (pv 0) (Xak D_Z63 hr (by rfl) (Xaa (Xcx (pv 0) rfl) (Xaa (Xai Xcd (pv 1) Xac) Xag))) rfl)), ?_⟩
 obtain ⟨r, x, dx, a, cs, ps, i, z, rfl, ⟨hx, ha, hz, hc, mk, nj⟩, hi, hv, q⟩ := h
 have cl := T.cl_Next
 have na := T.na_Next_room_cells
 have nr := T.na_Next_room_rover
 walk_at "go"
 refine ⟨a, cs, ps, z.a, by rw [Int.add_sub_cancel], SqL.of ha, by omega, hc, mk, fun j y hj hk hv' p H1 np s1 hp => ?_, fun hn => absurd hv (hn z (List.mem_of_getElem? hi) rfl)⟩
 have ej := Xfp hc hj hi (by omega)
 subst ej
 have ey : y = z := Option.some.inj (hj.symm.trans hi)
 subst ey
 have hx1 := s1 x _ hx
 have hne : p ≠ x := fun z => by rw [z, hx] at np; cases np
 walk_at "go"
 obtain ⟨ds, rs, e1, e2, _, _⟩ := Xaz hc hi
 subst e1 e2
 obtain ⟨k1, k3, k4⟩ := given_is hc mk nj hv
 exact q p _ _ np (Xay.of s1).put (by rw [Xco]) ⟨upd_same, look_ne hne hp, by rw [Xco]; exact hz, by rw [Xco]; exact k1, k4, k3⟩
theorem cutL_keep {ps : List Pc} {p : Pc} {s L : Int} (hp : p ∈ ps) (hv : p.v = true) : p ∈ cutL ps s L := by
 unfold cutL
 refine List.mem_flatten.mpr ⟨ct1 s L p, List.mem_map.mpr ⟨p, hp, rfl⟩, ?_⟩
 unfold ct1
 rw [if_pos (.inl hv)]
 exact List.mem_singleton.mpr rfl
theorem cutL_new {ps : List Pc} {p : Pc} {s L : Int} (hp : p ∈ ps) (hv : p.v = false) (h1 : p.a ≤ s) (h2 : s < p.a + p.l) : (⟨s, L, true⟩ : Pc) ∈ cutL ps s L := by
 unfold cutL
 refine List.mem_flatten.mpr ⟨ct1 s L p, List.mem_map.mpr ⟨p, hp, rfl⟩, ?_⟩
 unfold ct1
 rw [if_neg (by rw [hv]; simp; omega)]
 simp
def spMoved (C CN : Addr) : Sp := fun vs H Q E => ∃ (r : Int) (x dx a : Addr) (cs : List Int) (ps : List Pc) (z : Pc) (c b : Int), vs = [.ref x, .int (z.a + 1), .int c, .int b] ∧ NxS C x dx a r cs ps H ∧ z ∈ ps ∧ z.v = true ∧ 1 ≤ c ∧ 1 ≤ b ∧
 (nxQ (Xbb ps (c + 2) b) r = none → ∀ H', Same H H' → E (.ref CN) none H') ∧
 (∀ s, nxQ (Xbb ps (c + 2) b) r = some s → ∀ (a' : Addr) (cs' : List Int) (H' : Hp), H a' = none → Xay x H H' → cs'.length = cs.length → NxS C x dx a' (s + (c + 2)) cs' (Xcf (modF (cutL ps s (c + 2)) z.a)) H' → Q (.int (s + 1)) H')
theorem d_Z26 {f₀ : Addr} {fd₀ : FuncData} (F : Fun K "room_moved" "Keeper.room_moved" s_Z1 f₀ fd₀) (M : Meth K Y10 "room_moved" f₀) (T : Txt K mg Y0 Y8 Y4 Y3 Y6 Y9 Y2 Y7 Y5 Y1 Y10 W0_ W1_) (D_ask : MethD P w K mg base Y10 "ask" 8 ["self", "count", "bound"] [.int 1] (spAsk Y10 Y7)) (D_Z46 : Defx P w K mg base "carried" 1 ["cells", "source", "goal", "count"] (spCarry K)) (D_Z69 : Methx P w K mg base Y10 "many" 7 ["self", "place"] [] (spMany Y10)) (D_Z67 : Methx P w K mg base Y10 "give" 8 ["self", "place"] [] (spGive Y10)) : Methx P w K mg base Y10 "room_moved" 9 ["self", "place", "count", "bound"] [] (spMoved Y10 Y7) := by
 refine ⟨⟨f₀, fd₀, [], Xbz F sc_Z1 (fun vs H Q E h => by revert h; walk_at "len") (fun cdv A outer s H vs Q E hr h => ?_), M, F.binds bi_Z1, .nil⟩, T.cl_Next⟩
 refine ⟨_, (Xad (Xar (i := 4) sc_Z1.nd rfl (Or.inl rfl) (Xbr D_ask.all pass_x hr (pv 0) (Xaa (pv 2) (Xaa (pv 3) Xag)))) (Xad (Xfl (pv 0) (Xak D_Z46 hr (by rfl) (Xaa (Xcx (pv 0) rfl) (Xaa (pv 1) (Xaa (pv 4) (Xaa (Xcc (call_min2 rfl) (by rfl) T.n_min PyProof.Rows.boot_min (Xaa (Xbr D_Z69 Xbh hr (pv 0) (Xaa (pv 1) Xag)) (Xaa (pv 2) Xag))) Xag))))) rfl) (Xad (Xbq (Xbr D_Z67 Xbh hr (pv 0) (Xaa (pv 1) Xag))) (Xah (Xao (pv 4)))))), ?_⟩
 obtain ⟨r, x, dx, a, cs, ps, z, c, b, rfl, S, hm, hv, h1, h2, qn, q⟩ := h
 have cl := T.cl_Next
 have na := T.na_Next_room_cells
 have nr := T.na_Next_room_rover
 have hx := S.hx
 walk_at "go"
 refine ⟨r, x, dx, a, cs, ps, c, b, rfl, S, h1, h2, fun hn H1 s1 => qn hn H1 s1, fun s hn a1 cs1 H1 na1 k1 l1 S1 => ?_⟩
 obtain ⟨i0, z0, hi0, hv0, g1, g2⟩ := nx_in h2 hn
 have hzc := cutL_keep (s := s) (L := c + 2) hm hv
 have hnc := cutL_new (L := c + 2) (List.mem_of_getElem? hi0) hv0 g1 (by omega)
 have hz := S1.hz
 obtain ⟨z1, z2, z3, z4⟩ := S1.hc.mem z hzc
 have z3 := z3 hv
 obtain ⟨n1, n2, n3, n4⟩ := S1.hc.mem _ hnc
 have n4 : s + (c + 2) ≤ cs1.length := n4
 have n1 : 0 ≤ s := n1
 have hx1 := S1.hx
 have ha1 := S1.ha
 walk_at "go"
 refine ⟨_, x, dx, a1, cs1, cutL ps s (c + 2), z, rfl, hx1, ha1, by omega, S1.hc, S1.mm, hzc, hv, fun H2 s2 => ?_⟩
 have hx2 := s2 x _ hx1
 have ha2 := s2 a1 _ ha1
 walk_at "go"
 have b1 : (if c < z.l - 2 then c else z.l - 2) ≤ c := by split <;> omega
 have b2 : (if c < z.l - 2 then c else z.l - 2) ≤ z.l - 2 := by split <;> omega
 have b3 : 0 ≤ (if c < z.l - 2 then c else z.l - 2) := by split <;> omega
 generalize (if c < z.l - 2 then c else z.l - 2) = m at b1 b2 b3 ⊢
 refine ⟨a1, cs1, z.a + 1, s + 1, m, rfl, SqL.of ha2, hz, by omega, by omega, b3, by omega, by omega, fun p H3 np s3 hp => ?_⟩
 have hx3 := s3 x _ hx2
 have hne : p ≠ x := fun z => by rw [z, hx2] at np; cases np
 have lc : (carI cs1 (z.a + 1).toNat (s + 1).toNat m.toNat).length = cs1.length := carI_len (by omega) (by omega)
 have mc := marks_carry (s := (z.a + 1).toNat) (c := m.toNat) S1.hc rfl S1.mm hnc rfl (by omega) (show (m.toNat : Int) ≤ c + 2 - 2 by omega)
 have mc : Xbc (carI cs1 (z.a + 1).toNat (s + 1).toNat m.toNat) (cutL ps s (c + 2)) := mc
 walk_at "go"
 generalize hH : upd H3 x _ = H4
 have S4 : NxS Y10 x dx p (s + (c + 2)) (carI cs1 (z.a + 1).toNat (s + 1).toNat m.toNat) (cutL ps s (c + 2)) H4 := ⟨by rw [← hH]; exact upd_same, by rw [← hH]; exact look_ne hne hp, by rw [lc]; exact hz, by rw [lc]; exact S1.hc, mc, S1.nj⟩
 have k4 : Xay x H H4 := by rw [← hH]; exact (k1.trans (Xay.of (s2.trans s3))).put
 obtain ⟨j, hj⟩ := List.getElem?_of_mem hzc
 refine ⟨_, x, dx, p, _, _, j, z, rfl, S4, hj, hv, fun a' cs' H5 na5 k5 l5 S5 => ?_⟩
 walk_at "go"
 exact q s hn a' cs' H5 (k4.free S4.hx na5) (k4.trans k5) (by omega) S5
def spGrow (C CN : Addr) : Sp := fun vs H Q E => ∃ (r : Int) (x dx a : Addr) (cs : List Int) (ps : List Pc) (i : Nat) (z : Pc) (c b : Int), vs = [.ref x, .int (z.a + 1), .int c, .int b] ∧ NxS C x dx a r cs ps H ∧ ps[i]? = some z ∧ z.v = true ∧ 1 ≤ c ∧ 1 ≤ b ∧
 (¬ ((z.a + 1) % b = 0 ∧ z.a + (c + 2) ≤ enF ps z.a) → nxQ (Xbb ps (c + 2) b) r = none → ∀ H', Same H H' → E (.ref CN) none H') ∧
 (¬ ((z.a + 1) % b = 0 ∧ z.a + (c + 2) ≤ enF ps z.a) → ∀ s, nxQ (Xbb ps (c + 2) b) r = some s → ∀ (a' : Addr) (cs' : List Int) (H' : Hp), H a' = none → Xay x H H' → cs'.length = cs.length → NxS C x dx a' (s + (c + 2)) cs' (Xcf (modF (cutL ps s (c + 2)) z.a)) H' → Q (.int (s + 1)) H') ∧
 ((z.a + 1) % b = 0 ∧ z.a + (c + 2) ≤ enF ps z.a → ∀ (a' : Addr) (cs' : List Int) (H' : Hp), H a' = none → Xay x H H' → cs'.length = cs.length → NxS C x dx a' r cs' (regF ps z.a (c + 2) (enF ps z.a)) H' → Q (.int (z.a + 1)) H')
theorem d_Z68 {f₀ T₀ : Addr} {fd₀ : FuncData} {tk₀ : Tok} {tc₀ : Value} {td₀ : Option Addr} {tn₀ : Nat} {ts₀ : Array (Option Value)} (F : FunD K "grow" "Stretches.grow" s_Z6 (.ref T₀) f₀ fd₀) (LT : K.lookup T₀ = some ⟨tc₀, td₀, .seq [.int 1 tk₀].toArray tn₀, ts₀⟩) (M : Meth K Y10 "grow" f₀) (T : Txt K mg Y0 Y8 Y4 Y3 Y6 Y9 Y2 Y7 Y5 Y1 Y10 W0_ W1_) (D_Z48 : Defx P w K mg base "live_at" 6 ["cells", "at"] (Xgb K Y3 true)) (D_Z32 : Defx P w K mg base "check_ask" 1 ["count", "bound"] (spCheck)) (D_Z35 : Defx P w K mg base "free_end" 2 ["cells", "end"] (spFend K)) (D_Z26 : Methx P w K mg base Y10 "room_moved" 9 ["self", "place", "count", "bound"] [] (spMoved Y10 Y7)) (D_Z66 : Defx P w K mg base "laid" 2 ["cells", "at", "long", "live"] (spLaid K)) (D_Z31 : Defx P w K mg base "laid_free" 3 ["cells", "begin", "end"] (Xfc K)) : MethD P w K mg base Y10 "grow" 10 ["self", "place", "count", "bound"] [.int 1] (spGrow Y10 Y7) := by
 refine MethD.made (fd := fd₀) ?_ M (F.bindsA LT (bi_Z6 T₀ _)) (F.bindsD LT (bd_Z6 T₀ _)) (.cons ⟨tk₀, rfl⟩ .nil) T.cl_Next
 refine funD_okx F sc_Z6 (fun vs H Q E h => by revert h; walk_at "len") (fun cdv A outer s H vs Q E hr h => ?_)
 refine ⟨_, (Xad (Xdo (Xen D_Z48 hr (by rfl) (Xaa (Xcx (pv 0) rfl) (Xaa (Xai Xcd (pv 1) Xac) Xag))) (pg_tup rfl (Xba (Xax (i := 4) sc_Z6.nd rfl (Or.inl rfl)) (Xba (Xax (i := 5) sc_Z6.nd rfl (Or.inl rfl)) (Xba (Xax (i := 6) sc_Z6.nd rfl (Or.inl rfl)) Xee))))) (Xad (Xbq (Xak D_Z32 hr (by rfl) (Xaa (pv 2) (Xaa (pv 3) Xag)))) (Xad (Xar (i := 7) sc_Z6.nd rfl (Or.inl rfl) (Xai Xau (pv 2) (pe_glob (v := .int 2) (by rfl) T.g_MARKS ⟨_, rfl⟩))) (Xad (Xar (i := 8) sc_Z6.nd rfl (Or.inl rfl) (Xak D_Z35 hr (by rfl) (Xaa (Xcx (pv 0) rfl) (Xaa (Xai Xau (pv 4) (pv 5)) Xag)))) (Xad (Xbn (PW.pt (Xdk (Xal op_ne (Xai Xbe (pv 1) (pv 3)) Xac (Xan _)) (Xcr (Xal op_gt (Xai Xau (pv 4) (pv 7)) (pv 8) (Xan _))))) (Xah (Xao (Xbr D_Z26 pass_x hr (pv 0) (Xaa (pv 1) (Xaa (pv 2) (Xaa (pv 3) Xag)))))) Xat) (Xad (Xfl (pv 0) (Xak D_Z31 hr (by rfl) (Xaa (Xak D_Z66 hr (by rfl) (Xaa (Xcx (pv 0) rfl) (Xaa (pv 4) (Xaa (pv 7) (Xaa Xdt Xag))))) (Xaa (Xai Xau (pv 4) (pv 7)) (Xaa (pv 8) Xag)))) rfl) (Xah (Xao (pv 1))))))))), ?_⟩
 obtain ⟨r, x, dx, a, cs, ps, i, z, c, b, rfl, S, hi, hv, h1, h2, qn, qm, q⟩ := h
 have cl := T.cl_Next
 have na := T.na_Next_room_cells
 have nr := T.na_Next_room_rover
 obtain ⟨hx, ha, hz, hc, mk, nj⟩ := id S
 have hw := Xbl hc mk
 have hm := List.mem_of_getElem? hi
 obtain ⟨z0, z1, z3, z4⟩ := hc.mem z hm
 obtain ⟨f1, f2⟩ := fend_le hc hi
 have hen : enF ps z.a = fend ps i z := by
   obtain ⟨ds, rs, e1, e2, _, _⟩ := Xaz hc hi
   subst e1 e2
   exact en_is hc nj
 rw [hen] at qn qm q
 walk_at "go"
 refine ⟨a, cs, ps, z.a, by rw [Int.add_sub_cancel], SqL.of ha, by omega, hw, hc, fun y hy hk hv' t H1 s1 ht => ?_, fun hn => absurd hv (hn z hm rfl)⟩
 have ey := Xdg hc hy hm (by omega)
 subst ey
 have hx1 := s1 x _ hx
 have ha1 := s1 a _ ha
 have S1 := S.same s1
 walk_at "go"
 refine ⟨c, b, rfl, h1, h2, ?_⟩
 walk_at "go"
 refine ⟨a, cs, ps, i, y, rfl, SqL.of ha1, hc, mk, hi, ?_⟩
 walk_at "go"
 refine Xce (fun h3 => ?_) (fun h3 => ?_)
 · walk_at "go"
   refine Xce (fun h4 => ?_) (fun h4 => ?_)
   · walk_at "go"
     exact ⟨r, x, dx, a, cs, ps, y, c, b, rfl, S1, hm, hv, h1, h2, fun hn H2 s2 => qn (fun z => by omega) hn H2 (s1.trans s2), fun s hn a' cs' H2 na2 k2 l2 S2 => qm (fun z => by omega) s hn a' cs' H2 (s1.free na2) ((Xay.of s1).trans k2) l2 S2⟩
   · walk_at "go"
     refine ⟨a, cs, y.a, c + 2, true, rfl, SqL.of ha1, by omega, z0, by omega, by omega, fun p H2 np s2 hp => ?_⟩
     walk_at "go"
     refine ⟨p, _, _, _, rfl, SqL.of hp, by rw [Xbg]; omega, by omega, by omega, by rw [Xbg]; omega, fun p2 H3 np2 s3 hp2 => ?_⟩
     have s13 := (s1.trans s2).trans s3
     have hx3 := s13 x _ hx
     have hne : p2 ≠ x := fun z => by rw [z, (s1.trans s2) x _ hx] at np2; cases np2
     walk_at "go"
     obtain ⟨ds, rs, e1, e2, _, _⟩ := Xaz hc hi
     subst e1 e2
     obtain ⟨k1, k3, k4⟩ := grown_is hc mk nj (show 3 ≤ c + 2 by omega) (by omega)
     exact q ⟨h3, by omega⟩ p2 _ _ ((s1.trans s2).free np2) (Xay.of s13).put (by rw [Xco, Xbg]) ⟨upd_same, look_ne hne hp2, by rw [Xco, Xbg]; exact hz, by rw [Xco, Xbg]; exact k1, k4, k3⟩
 · walk_at "go"
   exact ⟨r, x, dx, a, cs, ps, y, c, b, rfl, S1, hm, hv, h1, h2, fun hn H2 s2 => qn (fun z => h3 z.1) hn H2 (s1.trans s2), fun s hn a' cs' H2 na2 k2 l2 S2 => qm (fun z => h3 z.1) s hn a' cs' H2 (s1.free na2) ((Xay.of s1).trans k2) l2 S2⟩
theorem d_Z30 (S : Src K mg "_law_cell_at" s_Z30) (T : Txt K mg Y0 Y8 Y4 Y3 Y6 Y9 Y2 Y7 Y5 Y1 Y10 W0_ W1_)  : Defx P w K mg base "_law_cell_at" 1 ["_law_script", "_law_k"] (spCell K) := by
 refine S.okx sc_Z30 bi_Z30 (fun vs H Q E h => by revert h; walk_at "len") (fun f cdv A outer s H vs Q E hr h => ?_)
 refine ⟨_, PSs.nox (Xad (Xbn (Xal Xfr (pv 1) (Xcc Xbp (by rfl) T.n_len PySem.boot_len (Xaa (pv 0) Xag)) (Xan _)) (Xah (Xao (Xaq Xbi (pv 0) (pv 1) (fun _ _ => rfl)))) Xat) (Xah (Xao Xac))), ?_⟩
 obtain ⟨a, ns, k, rfl, hS, h0, q⟩ := h
 walk_at "go"
 refine Xce (fun hc => ?_) (fun hc => ?_)
 · walk_at "go"
   exact q
 · walk_at "go"
   have e : ns.getD k.toNat 0 = 0 := by
     rw [List.getD_eq_getElem?_getD, List.getElem?_eq_none (by omega)]
     rfl
   rw [e] at q
   exact q
theorem d_Z45 (S : Src K mg "_law_whole" s_Z45) (T : Txt K mg Y0 Y8 Y4 Y3 Y6 Y9 Y2 Y7 Y5 Y1 Y10 W0_ W1_)  : Defx P w K mg base "_law_whole" 1 ["_law_found"] (Xfz) := by
 refine S.okx sc_Z45 bi_Z45 (fun vs H Q E h => by revert h; walk_at "len") (fun f cdv A outer s H vs Q E hr h => ?_)
 refine ⟨_, PSs.nox (Xah (Xao (pe_and (Xcc call_isi (by rfl) T.n_isinstance PyProof.Rows.boot_isinstance (Xaa (pv 0) (Xaa (pe_bltn (v := .ty "int") (by rfl) T.n_int PyProof.Rows.boot_int rfl) Xag))) (Xgd (pe_not (Xcc call_isi (by rfl) T.n_isinstance PyProof.Rows.boot_isinstance (Xaa (pv 0) (Xaa (pe_bltn (v := .ty "bool") (by rfl) T.n_bool PyProof.Rows.boot_bool rfl) Xag)))))))), ?_⟩
 obtain ⟨n, rfl, q⟩ := h
 walk_at "go"
 exact q
def AoW (f0 : Option V) (b p : Addr) (us : List V) (ps : List Pc) (H : Hp) (i : Nat) (σ : L2.St) (H' : Hp) : Prop :=
 ∃ (ws : List V) (x2 : Option V), σ = [f0, some (.ref p), x2] ∧ Same H H' ∧ H' p = some (.lst ws) ∧ Xas H' ws (Xcf (ps.take i))
theorem d_Z36 (S : Src K mg "_law_as_one" s_Z36) (T : Txt K mg Y0 Y8 Y4 Y3 Y6 Y9 Y2 Y7 Y5 Y1 Y10 W0_ W1_)  : Defx P w K mg base "_law_as_one" 1 ["_law_pieces"] (spJoinP K) := by
 refine S.okx sc_Z36 bi_Z36 (fun vs H Q E h => by revert h; walk_at "len") (fun f cdv A outer s H vs Q E hr h => ?_)
 refine ⟨_, PSs.nox (Xad (Xar (i := 1) sc_Z36.nd rfl (Or.inl rfl) (Xdi Xag)) (Xad (Xew PassesOwn.never rfl (Xcg (pv 0)) (Xax (i := 2) sc_Z36.nd rfl (Or.inl rfl)) (Xah (Xbn (PW.pt (Xda (Xbm (pv 1) (fun _ => rfl)) (Xda (Xcm (Xbm (Xaq Xap (pv 2) Xac (fun _ _ => rfl)) (fun _ => rfl))) (Xcu (Xcm (Xbm (Xaq Xap (Xaq Xbi (pv 1) (pe_un Xeg Xac) (fun _ _ => rfl)) Xac (fun _ _ => rfl)) (fun _ => rfl))))))) (Xah (Xdo (Xci (Xaa (Xaq Xap (Xaq Xbi (pv 1) (pe_un Xeg Xac) (fun _ _ => rfl)) Xac (fun _ _ => rfl)) (Xaa (Xai Xau (Xaq Xap (Xaq Xbi (pv 1) (pe_un Xeg Xac) (fun _ _ => rfl)) Xac (fun _ _ => rfl)) (Xaq Xap (pv 2) Xac (fun _ _ => rfl))) (Xaa Xdt Xag)))) (Xfu (pv 1) (pe_un Xeg Xac) Xdd))) (Xah (Xbq (pe_bm PySem.F.plainAttrs_list PySem.F.slot_list_append PySem.F.type_list_append Xcb (pv 1) (Xaa (pv 2) Xag))))))) (Xah (Xao (pv 1))))), ?_⟩
 obtain ⟨b, us, ps, rfl, hb, pa, hz, q⟩ := h
 have hul := pa.1
 walk_at "go"
 intro p hp
 walk_at "go"
 refine ⟨b, rfl, ⟨_, SqL.of (Same.new hp b _ hb)⟩, Xcp (K := K) (a := b) (xs := us) (AoW (some (.ref b)) b p us ps H) ⟨[], none, rfl, Same.new hp, upd_same, Xas.nil⟩ (fun i σ H2 _ ⟨_, _, _, s2, _⟩ => SqL.of (s2 b _ hb)) ?_ ?_⟩
 · rintro i y σ H2 hi ⟨ws, x2, rfl, s2, hp2, pw⟩
   have hil : i < us.length := (List.getElem?_eq_some_iff.mp hi).1
   have hip : i < ps.length := by omega
   have hz1 : ps[i]? = some ps[i] := by simp [hip]
   obtain ⟨t, et, hT⟩ := pa.2 i ps[i] hz1
   have ey : y = .ref t := Option.some.inj (hi.symm.trans et)
   subst ey
   have hT2 := s2 t _ hT
   have hj := Xds hz1
   have hle := Xet ps i (by omega)
   generalize ps[i] = z at hT2 hj
   have hwl := pw.1
   have more : ∀ ws', H2 p = some (.lst ws') → Xas H2 ws' (Xcf (ps.take i)) → Xas (upd H2 p (.lst (ws' ++ [.ref t]))) (ws' ++ [.ref t]) (Xcf (ps.take i) ++ [z]) := fun ws' h1 h2 =>
     (h2.mono (Xeh (o := .lst (ws' ++ [.ref t])) (.inr ⟨_, h1⟩))).snoc (look_tup h1 hT2)
   rcases Xbk (Xcf (ps.take i)) with e | ⟨D, w, e⟩
   · rw [e] at pw hj hwl more
     have ew : ws = [] := List.length_eq_zero_iff.mp hwl
     subst ew
     walk_at "go"
     refine iteT ?_
     walk_at "go"
     exact ⟨_, _, rfl, s2.put hp, upd_same, by rw [hj]; exact more [] hp2 pw⟩
   · rw [e] at pw hj hle more
     obtain ⟨ui, t1, rfl, pi, h1⟩ := pw.unsnoc
     have hem : (ui ++ [V.ref t1]).isEmpty = false := by simp
     rw [List.length_append, List.length_singleton] at hle
     have hpl := pi.1
     have hsz : (ui ++ [V.ref t1]).length < 4000 := by rw [List.length_append, List.length_singleton]; omega
     walk_at "go"
     rw [hem]
     walk_at "go"
     refine Xdy (fun hv => ?_) (fun hv => ?_)
     · walk_at "go"
       exact ⟨_, _, rfl, s2.put hp, upd_same, by rw [hj, Xby hv]; exact more _ hp2 pw⟩
     · walk_at "go"
       refine Xdb (SqL.of hp2) ?_
       walk_at "go"
       refine Xdy (fun hv2 => ?_) (fun hv2 => ?_)
       · walk_at "go"
         exact ⟨_, _, rfl, s2.put hp, upd_same, by rw [hj, Xbx hv2]; exact more _ hp2 pw⟩
       · walk_at "go"
         refine Xdb (SqL.of hp2) ?_
         walk_at "go"
         refine Xdb (SqL.of hp2) ?_
         walk_at "go"
         intro t2 ht2
         walk_at "go"
         refine r_setLast (xs := ui) (v := .ref t1) (look_put ht2 hp2) ?_
         walk_at "go"
         have g := Xas.relast (z := ⟨w.a, w.l + z.l, false⟩) pi hp2 ht2
         exact ⟨_, _, rfl, (s2.put (s2.free ht2)).put hp, upd_same, by rw [hj, Xbs hv2 hv]; exact g⟩
 · rintro σ H2 ⟨ws, x2, rfl, s2, hp2, pw⟩
   walk_at "go"
   rw [List.take_of_length_le (by omega)] at pw
   exact q p ws H2 hp s2 hp2 pw
def spCutL : Sp := fun vs H Q _ => ∃ (b : Addr) (us : List V) (ps : List Pc) (s L : Int), vs = [.ref b, .int s, .int L] ∧ H b = some (.lst us) ∧ Xas H us ps ∧ ps.length ≤ 1200 ∧ ∀ (p : Addr) (ws : List V) (H' : Hp), H p = none → Same H H' → H' p = some (.lst ws) → Xas H' ws (cutL ps s L) → Q (.ref p) H'
def CtW (b p : Addr) (s L : Int) (ps : List Pc) (H : Hp) (i : Nat) (σ : L2.St) (H' : Hp) : Prop :=
 ∃ (ws : List V) (x4 x5 : Option V), σ = [some (.ref b), some (.int s), some (.int L), some (.ref p), x4, x5] ∧ Same H H' ∧ H' p = some (.lst ws) ∧ Xas H' ws (cutL (ps.take i) s L) ∧ ws.length ≤ 3 * i
theorem d_Z59 (S : Src K mg "_law_cut" s_Z59) (T : Txt K mg Y0 Y8 Y4 Y3 Y6 Y9 Y2 Y7 Y5 Y1 Y10 W0_ W1_)  : Defx P w K mg base "_law_cut" 1 ["_law_pieces", "_law_spot", "_law_long"] (spCutL) := by
 refine S.okx sc_Z59 bi_Z59 (fun vs H Q E h => by revert h; walk_at "len") (fun f cdv A outer s H vs Q E hr h => ?_)
 refine ⟨_, PSs.nox (Xad (Xar (i := 3) sc_Z59.nd rfl (Or.inl rfl) (Xdi Xag)) (Xad (Xew PassesOwn.never rfl (Xcg (pv 0)) (Xax (i := 4) sc_Z59.nd rfl (Or.inl rfl)) (Xad (Xar (i := 5) sc_Z59.nd rfl (Or.inl rfl) (Xai Xau (Xaq Xap (pv 4) Xac (fun _ _ => rfl)) (Xaq Xap (pv 4) Xac (fun _ _ => rfl)))) (Xah (Xbn (PW.pt (Xdk (Xbm (Xaq Xap (pv 4) Xac (fun _ _ => rfl)) (fun _ => rfl)) (Xdk (Xal Xfr (pv 1) (Xaq Xap (pv 4) Xac (fun _ _ => rfl)) (Xan _)) (Xcr (Xal op_ge (pv 1) (pv 5) (Xan _)))))) (Xah (Xbq (pe_bm PySem.F.plainAttrs_list PySem.F.slot_list_append PySem.F.type_list_append Xcb (pv 3) (Xaa (pv 4) Xag)))) (Xad (Xbn (Xal op_gt (pv 1) (Xaq Xap (pv 4) Xac (fun _ _ => rfl)) (Xan _)) (Xah (Xbq (pe_bm PySem.F.plainAttrs_list PySem.F.slot_list_append PySem.F.type_list_append Xcb (pv 3) (Xaa (Xci (Xaa (Xaq Xap (pv 4) Xac (fun _ _ => rfl)) (Xaa (Xai Xcd (pv 1) (Xaq Xap (pv 4) Xac (fun _ _ => rfl))) (Xaa Xdt Xag)))) Xag)))) Xat) (Xad (Xbq (pe_bm PySem.F.plainAttrs_list PySem.F.slot_list_append PySem.F.type_list_append Xcb (pv 3) (Xaa (Xci (Xaa (pv 1) (Xaa (pv 2) (Xaa Xdt Xag)))) Xag))) (Xah (Xbn (Xal Xfr (Xai Xau (pv 1) (pv 2)) (pv 5) (Xan _)) (Xah (Xbq (pe_bm PySem.F.plainAttrs_list PySem.F.slot_list_append PySem.F.type_list_append Xcb (pv 3) (Xaa (Xci (Xaa (Xai Xau (pv 1) (pv 2)) (Xaa (Xai Xcd (Xai Xcd (pv 5) (pv 1)) (pv 2)) (Xaa Xdt Xag)))) Xag)))) Xat)))))))) (Xah (Xao (pv 3))))), ?_⟩
 obtain ⟨b, us, ps, s, L, rfl, hb, pa, hz, q⟩ := h
 have hul := pa.1
 walk_at "go"
 intro p hp
 walk_at "go"
 refine ⟨b, rfl, ⟨_, SqL.of ((Same.new hp) b _ hb)⟩, Xcp (K := K) (a := b) (xs := us) (CtW b p s L ps H) ⟨[], none, none, rfl, Same.new hp, upd_same, Xas.nil, Nat.le_refl _⟩ (fun i σ H2 _ ⟨_, _, _, _, s2, _⟩ => SqL.of (s2 b _ hb)) ?_ ?_⟩
 · rintro i y σ H2 hi ⟨ws, x4, x5, rfl, s2, hp2, pw, hwl⟩
   have hil : i < us.length := (List.getElem?_eq_some_iff.mp hi).1
   obtain ⟨t, z, rfl, hz1, hT⟩ := Xcz (pa.same s2) hi
   have hst := cutL_take (s := s) (L := L) hz1
   unfold ct1 at hst
   generalize cutL (ps.take i) s L = X at hst pw
   have more : Xas (upd H2 p (.lst (ws ++ [.ref t]))) (ws ++ [.ref t]) (X ++ [z]) := (pw.mono (Xeh (o := .lst (ws ++ [.ref t])) (.inr ⟨_, hp2⟩))).snoc (look_tup hp2 hT)
   have keep : (z.v = true ∨ s < z.a ∨ z.a + z.l ≤ s) → CtW b p s L ps H (i + 1) [some (.ref b), some (.int s), some (.int L), some (.ref p), some (.ref t), some (.int (z.a + z.l))] (upd H2 p (.lst (ws ++ [.ref t]))) := fun hc => by
     refine ⟨_, _, _, rfl, s2.put hp, upd_same, ?_, by rw [List.length_append, List.length_singleton]; omega⟩
     rw [hst, if_pos hc]
     exact more
   walk_at "go"
   refine Xdy (fun hv => ?_) (fun hv => ?_)
   · walk_at "go"
     exact keep (.inl hv)
   · walk_at "go"
     refine Xce (fun h1 => ?_) (fun h1 => ?_)
     · walk_at "go"
       exact keep (.inr (.inl h1))
     · walk_at "go"
       refine Xce (fun h2 => ?_) (fun h2 => ?_)
       · walk_at "go"
         exact keep (.inr (.inr h2))
       · rw [if_neg (by rw [hv]; simp; omega)] at hst
         have fin : ∀ (us' : List V) (Y : List Pc) (H3 : Hp), Same H H3 → H3 p = some (.lst us') → Xas H3 us' (X ++ Y ++ [⟨s, L, true⟩]) → Y = (if z.a < s then [⟨z.a, s - z.a, false⟩] else []) → us'.length ≤ 3 * i + 2 → True := fun _ _ _ _ _ _ _ _ => trivial
         by_cases h3 : z.a < s
         · rw [if_pos h3] at hst
           walk_at "go"
           intro t1 ht1
           walk_at "go"
           obtain ⟨g1, g2⟩ := Xas.push (z := ⟨z.a, s - z.a, false⟩) pw hp2 ht1
           have s3 := (s2.put (o := .tup [.int z.a, .int (s - z.a), .bl false]) (s2.free ht1)).put (o := .lst (ws ++ [.ref t1])) hp
           have hl3 : (ws ++ [V.ref t1]).length ≤ 3 * i + 1 := by rw [List.length_append, List.length_singleton]; omega
           generalize upd (upd H2 t1 (.tup [.int z.a, .int (s - z.a), .bl false])) p (.lst (ws ++ [.ref t1])) = H3 at g1 g2 s3 ⊢
           generalize ws ++ [V.ref t1] = ws3 at g1 g2 hl3 ⊢
           walk_at "go"
           intro t2 ht2
           walk_at "go"
           obtain ⟨g3, g4⟩ := Xas.push (z := ⟨s, L, true⟩) g2 g1 ht2
           have s4 := (s3.put (o := .tup [.int s, .int L, .bl true]) (s3.free ht2)).put (o := .lst (ws3 ++ [.ref t2])) hp
           have hl4 : (ws3 ++ [V.ref t2]).length ≤ 3 * i + 2 := by rw [List.length_append, List.length_singleton]; omega
           generalize upd (upd H3 t2 (.tup [.int s, .int L, .bl true])) p (.lst (ws3 ++ [.ref t2])) = H4 at g3 g4 s4 ⊢
           generalize ws3 ++ [V.ref t2] = ws4 at g3 g4 hl4 ⊢
           by_cases h4 : s + L < z.a + z.l
           · rw [if_pos h4] at hst
             walk_at "go"
             intro t5 ht5
             walk_at "go"
             obtain ⟨g5, g6⟩ := Xas.push (z := ⟨s + L, z.a + z.l - s - L, false⟩) g4 g3 ht5
             refine ⟨_, _, _, rfl, (s4.put (s4.free ht5)).put hp, g5, ?_, by rw [List.length_append, List.length_singleton]; omega⟩
             rw [hst, ← List.append_assoc, ← List.append_assoc]
             exact g6
           · rw [if_neg h4, List.append_nil] at hst
             walk_at "go"
             refine ⟨_, _, _, rfl, s4, g3, ?_, by omega⟩
             rw [hst, ← List.append_assoc]
             exact g4
         · rw [if_neg h3, List.nil_append] at hst
           walk_at "go"
           intro t2 ht2
           walk_at "go"
           obtain ⟨g3, g4⟩ := Xas.push (z := ⟨s, L, true⟩) pw hp2 ht2
           have s4 := (s2.put (o := .tup [.int s, .int L, .bl true]) (s2.free ht2)).put (o := .lst (ws ++ [.ref t2])) hp
           have hl4 : (ws ++ [V.ref t2]).length ≤ 3 * i + 1 := by rw [List.length_append, List.length_singleton]; omega
           generalize upd (upd H2 t2 (.tup [.int s, .int L, .bl true])) p (.lst (ws ++ [.ref t2])) = H4 at g3 g4 s4 ⊢
           generalize ws ++ [V.ref t2] = ws4 at g3 g4 hl4 ⊢
           by_cases h4 : s + L < z.a + z.l
           · rw [if_pos h4] at hst
             walk_at "go"
             intro t5 ht5
             walk_at "go"
             obtain ⟨g5, g6⟩ := Xas.push (z := ⟨s + L, z.a + z.l - s - L, false⟩) g4 g3 ht5
             refine ⟨_, _, _, rfl, (s4.put (s4.free ht5)).put hp, g5, ?_, by rw [List.length_append, List.length_singleton]; omega⟩
             rw [hst, ← List.append_assoc]
             exact g6
           · rw [if_neg h4, List.append_nil] at hst
             walk_at "go"
             refine ⟨_, _, _, rfl, s4, g3, ?_, by omega⟩
             rw [hst]
             exact g4
 · rintro σ H2 ⟨ws, x4, x5, rfl, s2, hp2, pw, hwl⟩
   rw [List.take_of_length_le (by omega)] at pw
   walk_at "go"
   exact q p ws H2 hp s2 hp2 pw
def MdW (H1 : Hp) (ps : List Pc) (k : Int) (D : Addr) (i : Nat) (ys : List V) (H2 : Hp) : Prop := Same H1 H2 ∧ H2 D = some (.lst ys) ∧ Xas H2 ys (modF (ps.take i) k)
theorem modF_take {ps : List Pc} {i : Nat} {z : Pc} {k : Int} (h : ps[i]? = some z) : modF (ps.take (i + 1)) k = modF (ps.take i) k ++ [⟨z.a, z.l, z.v && !decide (z.a = k)⟩] := by
 unfold modF
 rw [List.take_add_one, h, List.map_append]
 rfl
def spFreeL : Sp := fun vs H Q _ => ∃ (b : Addr) (us : List V) (ps : List Pc) (k : Int), vs = [.ref b, .int k] ∧ H b = some (.lst us) ∧ Xas H us ps ∧ ps.length ≤ 3600 ∧ ∀ (p : Addr) (ws : List V) (H' : Hp), H p = none → Same H H' → H' p = some (.lst ws) → Xas H' ws (Xcf (modF ps k)) → Q (.ref p) H'
theorem d_Z57 (S : Src K mg "_law_free" s_Z57) (T : Txt K mg Y0 Y8 Y4 Y3 Y6 Y9 Y2 Y7 Y5 Y1 Y10 W0_ W1_) (D_Z36 : Defx P w K mg base "_law_as_one" 1 ["_law_pieces"] (spJoinP K)) : Defx P w K mg base "_law_free" 2 ["_law_pieces", "_law_at"] (spFreeL) := by
 refine S.okx sc_Z57 bi_Z57 (fun vs H Q E h => by revert h; walk_at "len") (fun f cdv A outer s H vs Q E hr h => ?_)
 refine ⟨_, PSs.nox (Xah (Xao (Xak D_Z36 hr (by rfl) (Xaa (pe_compG ["_law_piece"] ["_law_at"] [1] rfl (Xcg (pv 0)) (fun cl C s₀ H₀ ex => (Xax (i := 0) (show ((["_law_piece"] : List Str) ++ (["_law_at"] : List Str)).Nodup by decide +kernel) rfl (Or.inl rfl))) (fun cl C s₀ H₀ ex => pts_nil) (fun cl C s₀ H₀ ex => (Xci (Xaa (Xaq (Xes (K := K) rfl) (pv 0) Xac (fun _ _ => rfl)) (Xaa (Xaq (Xes (K := K) rfl) (pv 0) Xac (fun _ _ => rfl)) (Xaa (pe_and (Xaq (Xes (K := K) rfl) (pv 0) Xac (fun _ _ => rfl)) (Xgd (Xcv op_ne (Xaq (Xes (K := K) rfl) (pv 0) Xac (fun _ _ => rfl)) (pv 1) (Xan _)))) Xag))))) (Xfy rfl rfl rfl) (free_one (n := "_law_at") (by decide +kernel) rfl) (fun y h => Xdl (by decide +kernel) h)) Xag)))), ?_⟩
 obtain ⟨b, us, ps, k, rfl, hb2, pa2, hz, q⟩ := h
 have hul := pa2.1
 walk_at "go"
 refine ⟨b, rfl, ⟨_, SqL.of hb2⟩, Xde (K := K) (a := b) (xs := us) (fs := [some (.int k)]) (MdW H ps k) (fun D hD => ⟨Same.new hD, upd_same, Xas.nil⟩) (fun D i ys H3 _ h => SqL.of (h.1 b _ hb2)) ?_ ?_⟩
 · rintro E j y ws H3 hE hj ⟨s3, hE3, pm⟩ τ hτ
   have hjl : j < us.length := (List.getElem?_eq_some_iff.mp hj).1
   obtain ⟨t3, w, rfl, hw1, hT3⟩ := Xcz (pa2.same s3) hj
   have hmt := modF_take (k := k) hw1
   have hwl := pm.1
   have hml : (modF (ps.take j) k).length ≤ j := by unfold modF; rw [List.length_map, List.length_take]; omega
   match τ, hτ with
   | [τ0], _ =>
     walk_at "go"
     refine ⟨⟨[_], rfl, rfl⟩, ?_⟩
     walk_at "ga"
     refine r_pick (fun B => B = (w.v && !decide (w.a = k))) (fun Q' hQ' => ?_) (fun B hB => ?_)
     · walk_at "go"
       refine Xdy (fun hv => ?_) (fun hv => ?_)
       · walk_at "go"
         exact hQ' _ (by rw [hv]; rfl)
       · exact hQ' _ (by rw [hv]; rfl)
     · walk_at "go"
       intro t4 ht4
       obtain ⟨g1, g2⟩ := Xas.push (z := ⟨w.a, w.l, B⟩) pm hE3 ht4
       refine ⟨look_put ht4 hE3, small4000 (by omega), nx_mk hjl ⟨(s3.put (s3.free ht4)).put hE, upd_same, ?_⟩⟩
       rw [hmt, ← hB]
       exact g2
 · rintro E ws H3 hE ⟨s3, hE3, pm⟩
   rw [List.take_of_length_le (by omega)] at pm
   have hml : (modF ps k).length = ps.length := by unfold modF; rw [List.length_map]
   walk_at "go"
   refine ⟨E, ws, modF ps k, rfl, hE3, pm, by omega, fun p vs H4 np s4 hp pj => ?_⟩
   walk_at "go"
   exact q p vs H4 (s3.free np) (s3.trans s4) hp pj
def spEnd : Sp := fun vs H Q _ => ∃ (b : Addr) (us : List V) (ps : List Pc) (k : Int), vs = [.ref b, .int k] ∧ H b = some (.lst us) ∧ Xas H us ps ∧ Q (.int (enF ps k)) H
def EnW (f0 f1 : Option V) (ps : List Pc) (k : Int) (H : Hp) (i : Nat) (σ : L2.St) (H' : Hp) : Prop := H = H' ∧ ∃ x3 : Option V, σ = [f0, f1, some (.int (enF (ps.take i) k)), x3]
theorem d_Z60 (S : Src K mg "_law_end" s_Z60) (T : Txt K mg Y0 Y8 Y4 Y3 Y6 Y9 Y2 Y7 Y5 Y1 Y10 W0_ W1_)  : Defx P w K mg base "_law_end" 1 ["_law_pieces", "_law_at"] (spEnd) := by
 refine S.okx sc_Z60 bi_Z60 (fun vs H Q E h => by revert h; walk_at "len") (fun f cdv A outer s H vs Q E hr h => ?_)
 refine ⟨_, PSs.nox (Xad (Xar (i := 2) sc_Z60.nd rfl (Or.inl rfl) (pv 1)) (Xad (Xew PassesOwn.never rfl (Xcg (pv 0)) (Xax (i := 3) sc_Z60.nd rfl (Or.inl rfl)) (Xah (Xbn (PW.pt (Xdk (Xal Xcw (Xaq Xap (pv 3) Xac (fun _ _ => rfl)) (pv 1) (Xan _)) (Xcr (PW.pt (Xda (Xal Xcw (Xaq Xap (pv 3) Xac (fun _ _ => rfl)) (pv 2) (Xan _)) (Xda (Xcm (Xbm (Xaq Xap (pv 3) Xac (fun _ _ => rfl)) (fun _ => rfl))) (Xcu (Xal op_gt (pv 2) (pv 1) (Xan _))))))))) (Xah (Xar (i := 2) sc_Z60.nd rfl (Or.inl rfl) (Xai Xau (Xaq Xap (pv 3) Xac (fun _ _ => rfl)) (Xaq Xap (pv 3) Xac (fun _ _ => rfl))))) Xat))) (Xah (Xao (pv 2))))), ?_⟩
 obtain ⟨b, us, ps, k, rfl, hb, pa, q⟩ := h
 have hul := pa.1
 walk_at "go"
 refine ⟨b, rfl, ⟨_, SqL.of hb⟩, Xcp (K := K) (a := b) (xs := us) (EnW (some (.ref b)) (some (.int k)) ps k H) ⟨rfl, none, rfl⟩ (fun i σ H2 _ ⟨h, _⟩ => h ▸ SqL.of hb) ?_ ?_⟩
 · rintro i y σ H2 hi ⟨rfl, x3, rfl⟩
   obtain ⟨t, z, rfl, hz1, hT⟩ := Xcz pa hi
   have hst := enF_take (k := k) hz1
   unfold en1 at hst
   generalize enF (ps.take i) k = e at hst
   walk_at "go"
   refine Xce (fun h1 => ?_) (fun h1 => ?_)
   · walk_at "go"
     exact ⟨rfl, _, by rw [hst, if_pos (.inl h1)]⟩
   · walk_at "go"
     refine Xce (fun h2 => ?_) (fun h2 => ?_)
     · walk_at "go"
       refine Xdy (fun h3 => ?_) (fun h3 => ?_)
       · walk_at "go"
         exact ⟨rfl, _, by rw [hst, if_neg (fun z => z.elim h1 fun z => by rw [h3] at z; cases z.2.1)]⟩
       · walk_at "go"
         refine Xce (fun h4 => ?_) (fun h4 => ?_)
         · walk_at "go"
           exact ⟨rfl, _, by rw [hst, if_pos (.inr ⟨h2, h3, h4⟩)]⟩
         · walk_at "go"
           exact ⟨rfl, _, by rw [hst, if_neg (fun z => z.elim h1 fun z => h4 z.2.2)]⟩
     · walk_at "go"
       exact ⟨rfl, _, by rw [hst, if_neg (fun z => z.elim h1 fun z => h2 z.1)]⟩
 · rintro σ H2 ⟨rfl, x3, rfl⟩
   rw [List.take_of_length_le (by omega)]
   walk_at "go"
   exact q
def spReg : Sp := fun vs H Q _ => ∃ (b : Addr) (us : List V) (ps : List Pc) (k L e : Int), vs = [.ref b, .int k, .int L, .int e] ∧ H b = some (.lst us) ∧ Xas H us ps ∧ ps.length ≤ 1200 ∧ ∀ (p : Addr) (ws : List V) (H' : Hp), H p = none → Same H H' → H' p = some (.lst ws) → Xas H' ws (regF ps k L e) → Q (.ref p) H'
def RgW (b p : Addr) (k L e : Int) (ps : List Pc) (H : Hp) (i : Nat) (σ : L2.St) (H' : Hp) : Prop :=
 ∃ (ws : List V) (x5 : Option V), σ = [some (.ref b), some (.int k), some (.int L), some (.int e), some (.ref p), x5] ∧ Same H H' ∧ H' p = some (.lst ws) ∧ Xas H' ws (regF (ps.take i) k L e) ∧ ws.length ≤ 3 * i
theorem d_Z29 (S : Src K mg "_law_regrown" s_Z29) (T : Txt K mg Y0 Y8 Y4 Y3 Y6 Y9 Y2 Y7 Y5 Y1 Y10 W0_ W1_)  : Defx P w K mg base "_law_regrown" 1 ["_law_pieces", "_law_at", "_law_long", "_law_end_here"] (spReg) := by
 refine S.okx sc_Z29 bi_Z29 (fun vs H Q E h => by revert h; walk_at "len") (fun f cdv A outer s H vs Q E hr h => ?_)
 refine ⟨_, PSs.nox (Xad (Xar (i := 4) sc_Z29.nd rfl (Or.inl rfl) (Xdi Xag)) (Xad (Xew PassesOwn.never rfl (Xcg (pv 0)) (Xax (i := 5) sc_Z29.nd rfl (Or.inl rfl)) (Xad (Xbn (PW.pt (Xdk (Xal Xfr (Xaq Xap (pv 5) Xac (fun _ _ => rfl)) (pv 1) (Xan _)) (Xcr (Xal op_ge (Xaq Xap (pv 5) Xac (fun _ _ => rfl)) (pv 3) (Xan _))))) (Xah (Xbq (pe_bm PySem.F.plainAttrs_list PySem.F.slot_list_append PySem.F.type_list_append Xcb (pv 4) (Xaa (pv 5) Xag)))) Xat) (Xad (Xbn (Xal Xcw (Xaq Xap (pv 5) Xac (fun _ _ => rfl)) (pv 1) (Xan _)) (Xah (Xbq (pe_bm PySem.F.plainAttrs_list PySem.F.slot_list_append PySem.F.type_list_append Xcb (pv 4) (Xaa (Xci (Xaa (pv 1) (Xaa (pv 2) (Xaa Xdt Xag)))) Xag)))) Xat) (Xah (Xbn (PW.pt (Xda (Xal Xcw (Xaq Xap (pv 5) Xac (fun _ _ => rfl)) (pv 1) (Xan _)) (Xcu (Xal Xfr (Xai Xau (pv 1) (pv 2)) (pv 3) (Xan _))))) (Xah (Xbq (pe_bm PySem.F.plainAttrs_list PySem.F.slot_list_append PySem.F.type_list_append Xcb (pv 4) (Xaa (Xci (Xaa (Xai Xau (pv 1) (pv 2)) (Xaa (Xai Xcd (Xai Xcd (pv 3) (pv 1)) (pv 2)) (Xaa Xdt Xag)))) Xag)))) Xat))))) (Xah (Xao (pv 4))))), ?_⟩
 obtain ⟨b, us, ps, k, L, e, rfl, hb, pa, hz, q⟩ := h
 have hul := pa.1
 walk_at "go"
 intro p hp
 walk_at "go"
 refine ⟨b, rfl, ⟨_, SqL.of ((Same.new hp) b _ hb)⟩, Xcp (K := K) (a := b) (xs := us) (RgW b p k L e ps H) ⟨[], none, rfl, Same.new hp, upd_same, Xas.nil, Nat.le_refl _⟩ (fun i σ H2 _ ⟨_, _, _, s2, _⟩ => SqL.of (s2 b _ hb)) ?_ ?_⟩
 · rintro i y σ H2 hi ⟨ws, x5, rfl, s2, hp2, pw, hwl⟩
   have hil : i < us.length := (List.getElem?_eq_some_iff.mp hi).1
   obtain ⟨t, z, rfl, hz1, hT⟩ := Xcz (pa.same s2) hi
   have hst := regF_take (k := k) (L := L) (e := e) hz1
   unfold rg1 at hst
   generalize regF (ps.take i) k L e = X at hst pw
   walk_at "gs"
   refine r_seqM (M := fun σ' H' => ∃ ws, σ' = [some (.ref b), some (.int k), some (.int L), some (.int e), some (.ref p), some (.ref t)] ∧ Same H H' ∧ H' p = some (.lst ws) ∧ Xas H' ws (X ++ (if z.a < k ∨ e ≤ z.a then [z] else [])) ∧ ws.length ≤ 3 * i + 1) ?_ (fun nx hM => ?_)
   · rintro σ' H3 ⟨ws, rfl, s3, hp3, pw3, hw3⟩
     have hT3 : H3 t = some (.tup [.int z.a, .int z.l, .bl z.v]) := by
       obtain ⟨t', z', e1, e2, e3⟩ := Xcz (pa.same s3) hi
       have : t = t' := by cases e1; rfl
       subst this
       have : z = z' := Option.some.inj (hz1.symm.trans e2)
       subst this
       exact e3
     rw [← List.append_assoc, ← List.append_assoc] at hst
     generalize X ++ (if z.a < k ∨ e ≤ z.a then [z] else []) = X1 at hst pw3
     walk_at "gs"
     refine r_seqM (M := fun σ' H' => ∃ ws, σ' = [some (.ref b), some (.int k), some (.int L), some (.int e), some (.ref p), some (.ref t)] ∧ Same H H' ∧ H' p = some (.lst ws) ∧ Xas H' ws (X1 ++ (if z.a = k then [⟨k, L, true⟩] else [])) ∧ ws.length ≤ 3 * i + 2) ?_ (fun nx hM => ?_)
     · rintro σ' H4 ⟨ws, rfl, s4, hp4, pw4, hw4⟩
       have hT4 : H4 t = some (.tup [.int z.a, .int z.l, .bl z.v]) := by
         obtain ⟨t', z', e1, e2, e3⟩ := Xcz (pa.same s4) hi
         have : t = t' := by cases e1; rfl
         subst this
         have : z = z' := Option.some.inj (hz1.symm.trans e2)
         subst this
         exact e3
       walk_at "go"
       refine Xce (fun h1 => ?_) (fun h1 => ?_)
       · walk_at "go"
         refine Xce (fun h2 => ?_) (fun h2 => ?_)
         · walk_at "go"
           intro t2 ht2
           walk_at "go"
           obtain ⟨g1, g2⟩ := Xas.push (z := ⟨k + L, e - k - L, false⟩) pw4 hp4 ht2
           refine ⟨_, _, rfl, (s4.put (s4.free ht2)).put hp, g1, ?_, by rw [List.length_append, List.length_singleton]; omega⟩
           rw [hst, if_pos (show z.a = k ∧ k + L < e from ⟨h1, h2⟩)]
           exact g2
         · walk_at "go"
           refine ⟨_, _, rfl, s4, hp4, ?_, by omega⟩
           rw [hst, if_neg (show ¬ (z.a = k ∧ k + L < e) from fun z => h2 z.2), List.append_nil]
           exact pw4
       · walk_at "go"
         refine ⟨_, _, rfl, s4, hp4, ?_, by omega⟩
         rw [hst, if_neg (show ¬ (z.a = k ∧ k + L < e) from fun z => h1 z.1), List.append_nil]
         exact pw4
     · walk_at "go"
       refine Xce (fun h1 => ?_) (fun h1 => ?_)
       · walk_at "go"
         intro t2 ht2
         walk_at "go"
         obtain ⟨g1, g2⟩ := Xas.push (z := ⟨k, L, true⟩) pw3 hp3 ht2
         refine hM _ _ ⟨_, rfl, (s3.put (s3.free ht2)).put hp, g1, ?_, by rw [List.length_append, List.length_singleton]; omega⟩
         rw [if_pos h1]
         exact g2
       · walk_at "go"
         refine hM _ _ ⟨_, rfl, s3, hp3, ?_, by omega⟩
         rw [if_neg h1, List.append_nil]
         exact pw3
   · have more : Xas (upd H2 p (.lst (ws ++ [.ref t]))) (ws ++ [.ref t]) (X ++ [z]) := (pw.mono (Xeh (o := .lst (ws ++ [.ref t])) (.inr ⟨_, hp2⟩))).snoc (look_tup hp2 hT)
     walk_at "go"
     refine Xce (fun h1 => ?_) (fun h1 => ?_)
     · walk_at "go"
       refine hM _ _ ⟨_, rfl, s2.put hp, upd_same, ?_, by rw [List.length_append, List.length_singleton]; omega⟩
       rw [if_pos (.inl h1)]
       exact more
     · walk_at "go"
       refine Xce (fun h2 => ?_) (fun h2 => ?_)
       · walk_at "go"
         refine hM _ _ ⟨_, rfl, s2.put hp, upd_same, ?_, by rw [List.length_append, List.length_singleton]; omega⟩
         rw [if_pos (.inr h2)]
         exact more
       · walk_at "go"
         refine hM _ _ ⟨_, rfl, s2, hp2, ?_, by omega⟩
         rw [if_neg (fun z => z.elim h1 h2), List.append_nil]
         exact pw
 · rintro σ H2 ⟨ws, x5, rfl, s2, hp2, pw, hwl⟩
   rw [List.take_of_length_le (by omega)] at pw
   walk_at "go"
   exact q p ws H2 hp s2 hp2 pw
theorem spotsI_take {ps : List Pc} {L b : Int} {i : Nat} {z : Pc} (h : ps[i]? = some z) : Xbb (ps.take (i + 1)) L b = Xbb (ps.take i) L b ++ (Xfg L b z).toList := by
 unfold Xbb
 rw [List.take_add_one, h, List.filterMap_append]
 cases e : Xfg L b z <;> simp [e]
theorem spotsI_split {ps : List Pc} {L b : Int} {i : Nat} {z : Pc} (h : ps[i]? = some z) : Xbb ps L b = Xbb (ps.take i) L b ++ ((Xfg L b z).toList ++ Xbb (ps.drop (i + 1)) L b) := by
 have hi : i < ps.length := (List.getElem?_eq_some_iff.mp h).1
 have ep : ps = ps.take (i + 1) ++ ps.drop (i + 1) := (List.take_append_drop _ _).symm
 have e : Xbb ps L b = Xbb (ps.take (i + 1)) L b ++ Xbb (ps.drop (i + 1)) L b := by
   unfold Xbb
   rw [← List.filterMap_append, ← ep]
 rw [e, spotsI_take h, List.append_assoc]
def spNext : Sp := fun vs H Q _ => ∃ (st b : Addr) (us : List V) (ps : List Pc) (r L bd : Int), vs = [.ref st, .int L, .int bd] ∧ H st = some (.tup [.ref b, .int r]) ∧ H b = some (.lst us) ∧ Xas H us ps ∧ 1 ≤ bd ∧ Q (optV (nxQ (Xbb ps L bd) r)) H
def NeW (f0 f1 f2 : Option V) (ps : List Pc) (r L bd : Int) (H : Hp) (i : Nat) (σ : L2.St) (H' : Hp) : Prop :=
 H = H' ∧ ∃ (x4 x5 : Option V), σ = [f0, f1, f2, some (optV ((Xbb (ps.take i) L bd).head?.map (·.2))), x4, x5] ∧ ∀ q ∈ Xbb (ps.take i) L bd, q.1 < r
theorem d_Z56 (S : Src K mg "_law_next" s_Z56) (T : Txt K mg Y0 Y8 Y4 Y3 Y6 Y9 Y2 Y7 Y5 Y1 Y10 W0_ W1_)  : Defx P w K mg base "_law_next" 1 ["_law_state", "_law_long", "_law_bound"] (spNext) := by
 refine S.okx sc_Z56 bi_Z56 (fun vs H Q E h => by revert h; walk_at "len") (fun f cdv A outer s H vs Q E hr h => ?_)
 refine ⟨_, PSs.nox (Xad (Xar (i := 3) sc_Z56.nd rfl (Or.inl rfl) Xcn) (Xad (Xew PassesOwn.never rfl (Xcg (Xaq Xap (pv 0) Xac (fun _ _ => rfl))) (Xax (i := 4) sc_Z56.nd rfl (Or.inl rfl)) (Xad (Xar (i := 5) sc_Z56.nd rfl (Or.inl rfl) (Xai Xau (Xaq Xap (pv 4) Xac (fun _ _ => rfl)) (Xai Xbe (Xai Xcd (Xai Xcd Xac (Xaq Xap (pv 4) Xac (fun _ _ => rfl))) Xac) (pv 2)))) (Xah (Xbn (PW.pt (Xda (Xcm (Xbm (Xaq Xap (pv 4) Xac (fun _ _ => rfl)) (fun _ => rfl))) (Xcu (Xal op_le (Xai Xau (pv 5) (pv 1)) (Xai Xau (Xaq Xap (pv 4) Xac (fun _ _ => rfl)) (Xaq Xap (pv 4) Xac (fun _ _ => rfl))) (Xan _))))) (Xad (Xbn (Xal op_ge (Xaq Xap (pv 4) Xac (fun _ _ => rfl)) (Xaq Xap (pv 0) Xac (fun _ _ => rfl)) (Xan _)) (Xah (Xao (pv 5))) Xat) (Xah (Xbn (Xal op_isN (pv 3) Xcn (Xan _)) (Xah (Xar (i := 3) sc_Z56.nd rfl (Or.inl rfl) (pv 5))) Xat))) Xat)))) (Xah (Xao (pv 3))))), ?_⟩
 obtain ⟨st, b, us, ps, r, L, bd, rfl, hst, hb, pa, hbd, q⟩ := h
 have hul := pa.1
 walk_at "go"
 refine ⟨b, rfl, ⟨_, SqL.of hb⟩, Xcp (K := K) (a := b) (xs := us) (NeW (some (.ref st)) (some (.int L)) (some (.int bd)) ps r L bd H) ⟨rfl, none, none, rfl, fun q hq => by simp [Xbb] at hq⟩ (fun i σ H2 _ ⟨h, _⟩ => h ▸ SqL.of hb) ?_ ?_⟩
 · rintro i y σ H2 hi ⟨rfl, x4, x5, rfl, hlow⟩
   obtain ⟨t, z, rfl, hz1, hT⟩ := Xcz pa hi
   have htk := spotsI_take (L := L) (b := bd) hz1
   have hsp := spotsI_split (L := L) (b := bd) hz1
   have es : z.a + (0 - z.a - 1) % bd = fpl z.a bd := by
     unfold fpl
     rw [show 0 - z.a - 1 = -(z.a + 1) by omega, Xfs hbd]
   generalize Xbb (ps.take i) L bd = A at hlow htk hsp
   have stay : Xfg L bd z = none → NeW (some (.ref st)) (some (.int L)) (some (.int bd)) ps r L bd H (i + 1) [some (.ref st), some (.int L), some (.int bd), some (optV (A.head?.map (·.2))), some (.ref t), some (.int (fpl z.a bd))] H := fun e => by
     rw [e, show (none : Option (Int × Int)).toList = [] from rfl, List.append_nil] at htk
     exact ⟨rfl, _, _, by rw [htk], by rw [htk]; exact hlow⟩
   walk_at "go"
   rw [es]
   refine Xdy (fun hv => ?_) (fun hv => ?_)
   · walk_at "go"
     exact stay (by unfold Xfg; rw [if_pos hv])
   · walk_at "go"
     refine Xce (fun hf => ?_) (fun hf => ?_)
     · have hs : Xfg L bd z = some (z.a, fpl z.a bd) := by
         unfold Xfg fp
         rw [if_neg (by rw [hv]; exact Bool.false_ne_true), if_pos hf]
         rfl
       rw [hs] at htk hsp
       walk_at "go"
       refine Xce (fun hr => ?_) (fun hr => ?_)
       · walk_at "go"
         rw [hsp, show (some (z.a, fpl z.a bd)).toList ++ Xbb (ps.drop (i + 1)) L bd = (z.a, fpl z.a bd) :: Xbb (ps.drop (i + 1)) L bd from rfl, nx_hit hlow (show r ≤ (z.a, fpl z.a bd).1 from hr)] at q
         exact q
       · have hlow' : ∀ q ∈ A ++ [(z.a, fpl z.a bd)], q.1 < r := fun q hq => by
           rcases List.mem_append.mp hq with g | g
           · exact hlow q g
           · rw [List.mem_singleton.mp g]
             show z.a < r
             omega
         have htk : Xbb (ps.take (i + 1)) L bd = A ++ [(z.a, fpl z.a bd)] := htk
         cases A with
         | nil =>
           walk_at "go"
           exact ⟨rfl, _, _, by rw [htk]; rfl, by rw [htk]; exact hlow'⟩
         | cons q0 R =>
           walk_at "go"
           exact ⟨rfl, _, _, by rw [htk]; rfl, by rw [htk]; exact hlow'⟩
     · walk_at "go"
       refine stay ?_
       unfold Xfg fp
       rw [if_neg (by rw [hv]; exact Bool.false_ne_true), if_neg hf]
       rfl
 · rintro σ H2 ⟨rfl, x4, x5, rfl, hlow⟩
   rw [List.take_of_length_le (by omega)] at hlow ⊢
   walk_at "go"
   rw [nx_none hlow] at q
   exact q
def Stay (ps : List Pc) (z : Pc) (c b : Int) : Prop := (z.a + 1) % b = 0 ∧ z.a + (c + 2) ≤ enF ps z.a
def spAnsw (C : Addr) : Sp := fun vs H Q _ => ∃ (w pl r : Int) (x dx a : Addr) (cs : List Int) (ps : List Pc) (c b : Int) (br : Bool), vs = [.ref x, .int w, .int pl, .int c, .int b, .bl br] ∧ NxS C x dx a r cs ps H ∧ 1 ≤ c ∧ 1 ≤ b ∧ (br = true → b = 1) ∧
 ((w = 0 ∧ (nxQ (Xbb ps (c + 2) b) r = none → ∀ H', Same H H' → Q .non H') ∧
    (∀ s, nxQ (Xbb ps (c + 2) b) r = some s → ∀ (a' : Addr) (cs' : List Int) (H' : Hp), H a' = none → Xay x H H' → cs'.length = cs.length → NxS C x dx a' (s + (c + 2)) cs' (cutL ps s (c + 2)) H' → Q (.int (s + 1)) H')) ∨
  (w = 1 ∧ ∃ (i : Nat) (z : Pc), pl = z.a + 1 ∧ ps[i]? = some z ∧ z.v = true ∧ (¬ Stay ps z c b → nxQ (Xbb ps (c + 2) b) r = none → ∀ H', Same H H' → Q .non H') ∧
    (¬ Stay ps z c b → ∀ s, nxQ (Xbb ps (c + 2) b) r = some s → ∀ (a' : Addr) (cs' : List Int) (H' : Hp), H a' = none → Xay x H H' → cs'.length = cs.length → NxS C x dx a' (s + (c + 2)) cs' (Xcf (modF (cutL ps s (c + 2)) z.a)) H' → Q (.int (s + 1)) H') ∧
    (Stay ps z c b → ∀ (a' : Addr) (cs' : List Int) (H' : Hp), H a' = none → Xay x H H' → cs'.length = cs.length → NxS C x dx a' r cs' (regF ps z.a (c + 2) (enF ps z.a)) H' → Q (.int (z.a + 1)) H')))
theorem d_Z39 (S : Src K mg "_law_answer" s_Z39) (T : Txt K mg Y0 Y8 Y4 Y3 Y6 Y9 Y2 Y7 Y5 Y1 Y10 W0_ W1_) (D_ask : MethD P w K mg base Y10 "ask" 8 ["self", "count", "bound"] [.int 1] (spAsk Y10 Y7)) (D_Z68 : MethD P w K mg base Y10 "grow" 10 ["self", "place", "count", "bound"] [.int 1] (spGrow Y10 Y7)) : Defx P w K mg base "_law_answer" 11 ["_law_keeper", "_law_way", "_law_place", "_law_count", "_law_bound", "_law_brief"] (spAnsw Y10) := by
 refine S.okx sc_Z39 bi_Z39 (fun vs H Q E h => by revert h; walk_at "len") (fun f cdv A outer s H vs Q E hr h => ?_)
 refine ⟨_, PSs.nox (Xad (Xar (i := 6) sc_Z39.nd rfl (Or.inl rfl) Xcn) (Xad (ps_tryS (pxs_if (PW.pt (Xda (Xal Xcw (pv 1) Xac (Xan _)) (Xcu (Xbm (pv 5) (fun _ => rfl))))) (pxs_set (i := 6) sc_Z39.nd rfl (Or.inl rfl) (Xfa D_ask.less hr (pv 0) (Xaa (pv 3) Xag))) (pxs_if (Xal Xcw (pv 1) Xac (Xan _)) (pxs_set (i := 6) sc_Z39.nd rfl (Or.inl rfl) (Xfa D_ask.all hr (pv 0) (Xaa (pv 3) (Xaa (pv 4) Xag)))) (pxs_if (Xbm (pv 5) (fun _ => rfl)) (pxs_set (i := 6) sc_Z39.nd rfl (Or.inl rfl) (Xfa D_Z68.less hr (pv 0) (Xaa (pv 2) (Xaa (pv 3) Xag)))) (pxs_set (i := 6) sc_Z39.nd rfl (Or.inl rfl) (Xfa D_Z68.all hr (pv 0) (Xaa (pv 2) (Xaa (pv 3) (Xaa (pv 4) Xag)))))))) ⟨rfl, rfl⟩ (ph_cons (by rfl) T.c_NoRoom (fun x => (Xah (Xar (i := 6) sc_Z39.nd rfl (Or.inl rfl) Xcn))) ph_nil)) (Xah (Xao (pv 6))))), ?_⟩
 obtain ⟨w, pl, r, x, dx, a, cs, ps, c, b, br, rfl, S, h1, h2, hbr, h⟩ := h
 have hx := S.hx
 rcases h with ⟨rfl, qn, q⟩ | ⟨rfl, i, z, rfl, hi, hv, qn, qm, qs⟩
 · cases br with
   | true =>
     have hb := hbr rfl
     subst hb
     walk_at "go"
     refine ⟨r, x, dx, a, cs, ps, c, 1, rfl, S, h1, h2, fun hn H1 s1 => ⟨_, rfl, fun y hy => Or.inl ⟨T.f_NoRoom_NoRoom, ?_⟩⟩, fun s hn a' cs' H1 na k1 l1 S1 => ?_⟩
     · have s2 := s1.put (o := ExcO y Y7 none) (s1.free hy)
       generalize upd H1 y (ExcO y Y7 none) = H2 at s2 ⊢
       walk_at "go"
       exact qn hn H2 s2
     · walk_at "go"
       exact q s hn a' cs' H1 na k1 l1 S1
   | false =>
     walk_at "go"
     refine ⟨r, x, dx, a, cs, ps, c, b, rfl, S, h1, h2, fun hn H1 s1 => ⟨_, rfl, fun y hy => Or.inl ⟨T.f_NoRoom_NoRoom, ?_⟩⟩, fun s hn a' cs' H1 na k1 l1 S1 => ?_⟩
     · have s2 := s1.put (o := ExcO y Y7 none) (s1.free hy)
       generalize upd H1 y (ExcO y Y7 none) = H2 at s2 ⊢
       walk_at "go"
       exact qn hn H2 s2
     · walk_at "go"
       exact q s hn a' cs' H1 na k1 l1 S1
 · cases br with
   | true =>
     have hb := hbr rfl
     subst hb
     walk_at "go"
     refine ⟨r, x, dx, a, cs, ps, i, z, c, 1, rfl, S, hi, hv, h1, h2, fun hs hn H1 s1 => ⟨_, rfl, fun y hy => Or.inl ⟨T.f_NoRoom_NoRoom, ?_⟩⟩, fun hs s hn a' cs' H1 na k1 l1 S1 => ?_, fun hs a' cs' H1 na k1 l1 S1 => ?_⟩
     · have s2 := s1.put (o := ExcO y Y7 none) (s1.free hy)
       generalize upd H1 y (ExcO y Y7 none) = H2 at s2 ⊢
       walk_at "go"
       exact qn hs hn H2 s2
     · walk_at "go"
       exact qm hs s hn a' cs' H1 na k1 l1 S1
     · walk_at "go"
       exact qs hs a' cs' H1 na k1 l1 S1
   | false =>
     walk_at "go"
     refine ⟨r, x, dx, a, cs, ps, i, z, c, b, rfl, S, hi, hv, h1, h2, fun hs hn H1 s1 => ⟨_, rfl, fun y hy => Or.inl ⟨T.f_NoRoom_NoRoom, ?_⟩⟩, fun hs s hn a' cs' H1 na k1 l1 S1 => ?_, fun hs a' cs' H1 na k1 l1 S1 => ?_⟩
     · have s2 := s1.put (o := ExcO y Y7 none) (s1.free hy)
       generalize upd H1 y (ExcO y Y7 none) = H2 at s2 ⊢
       walk_at "go"
       exact qn hs hn H2 s2
     · walk_at "go"
       exact qm hs s hn a' cs' H1 na k1 l1 S1
     · walk_at "go"
       exact qs hs a' cs' H1 na k1 l1 S1
def StP (C x dx a : Addr) (n : Nat) (H : Hp) (Q : VK) : Prop := ∀ (a' st b : Addr) (r : Int) (cs : List Int) (us : List V) (ps : List Pc) (H' : Hp), Xay x H H' → (a' = a ∨ H a' = none) → cs.length = n → NxS C x dx a' r cs ps H' → H' st = some (.tup [.ref b, .int r]) → H' b = some (.lst us) → Xas H' us ps → 0 ≤ r → Q (.ref st) H'
def spNew (C : Addr) : Sp := fun vs H Q _ => ∃ (w pl r : Int) (x dx a st bb : Addr) (cs : List Int) (us : List V) (ps : List Pc) (c b : Int) (br : Bool), vs = [.ref x, .ref st, .int w, .int pl, .int c, .int b, .bl br] ∧ NxS C x dx a r cs ps H ∧ H st = some (.tup [.ref bb, .int r]) ∧ H bb = some (.lst us) ∧ Xas H us ps ∧ 0 ≤ r ∧ 1 ≤ c ∧ 1 ≤ b ∧ (br = true → b = 1) ∧
 (w = 0 ∨ (w = 1 ∧ ∃ (i : Nat) (z : Pc), pl = z.a + 1 ∧ ps[i]? = some z ∧ z.v = true ∧ ¬ Stay ps z c b)) ∧ StP C x dx a cs.length H Q
theorem d_Z58 (S : Src K mg "_law_new" s_Z58) (T : Txt K mg Y0 Y8 Y4 Y3 Y6 Y9 Y2 Y7 Y5 Y1 Y10 W0_ W1_) (D_Z56 : Defx P w K mg base "_law_next" 1 ["_law_state", "_law_long", "_law_bound"] (spNext)) (D_Z55 : Methx P w K mg base Y10 "chosen" 6 ["self", "long", "bound"] [] (spChosen Y10)) (D_Z39 : Defx P w K mg base "_law_answer" 11 ["_law_keeper", "_law_way", "_law_place", "_law_count", "_law_bound", "_law_brief"] (spAnsw Y10)) (D_Z45 : Defx P w K mg base "_law_whole" 1 ["_law_found"] (Xfz)) (D_Z59 : Defx P w K mg base "_law_cut" 1 ["_law_pieces", "_law_spot", "_law_long"] (spCutL)) (D_Z57 : Defx P w K mg base "_law_free" 2 ["_law_pieces", "_law_at"] (spFreeL)) : Defx P w K mg base "_law_new" 12 ["_law_keeper", "_law_state", "_law_way", "_law_place", "_law_count", "_law_bound", "_law_brief"] (spNew Y10) := by
 refine S.okx sc_Z58 bi_Z58 (fun vs H Q E h => by revert h; walk_at "len") (fun f cdv A outer s H vs Q E hr h => ?_)
 refine ⟨_, PSs.nox (Xad (Xar (i := 7) sc_Z58.nd rfl (Or.inl rfl) (Xak D_Z56 hr (by rfl) (Xaa (pv 1) (Xaa (Xai Xau (pv 4) Xac) (Xaa (pv 5) Xag))))) (Xad (Xar (i := 8) sc_Z58.nd rfl (Or.inl rfl) (Xbr D_Z55 Xbh hr (pv 0) (Xaa (Xai Xau (pv 4) Xac) (Xaa (pv 5) Xag)))) (Xad (Xbn (PW.pt (Xdk (Xal op_ne (pv 8) (pv 7) (Xan _)) (Xcr (PW.pt (Xda (Xal op_notN (pv 7) Xcn (Xan _)) (Xcu (Xcm (Xem (Xak D_Z45 hr (by rfl) (Xaa (pv 8) Xag)))))))))) (Xah (Xao Xcn)) Xat) (Xad (Xar (i := 9) sc_Z58.nd rfl (Or.inl rfl) (Xak D_Z39 hr (by rfl) (Xaa (pv 0) (Xaa (pv 2) (Xaa (pv 3) (Xaa (pv 4) (Xaa (pv 5) (Xaa (pv 6) Xag)))))))) (Xad (Xbn (PW.pt (Xda (Xal op_isN (pv 7) Xcn (Xan _)) (Xcu (Xal op_isN (pv 9) Xcn (Xan _))))) (Xah (Xao (pv 1))) Xat) (Xad (Xbn (PW.pt (Xdk (Xal op_isN (pv 7) Xcn (Xan _)) (Xdk (Xcm (Xem (Xak D_Z45 hr (by rfl) (Xaa (pv 9) Xag)))) (Xcr (Xal op_ne (pv 9) (Xai Xau (pv 7) Xac) (Xan _)))))) (Xah (Xao Xcn)) Xat) (Xad (Xar (i := 10) sc_Z58.nd rfl (Or.inl rfl) (Xak D_Z59 hr (by rfl) (Xaa (Xaq Xap (pv 1) Xac (fun _ _ => rfl)) (Xaa (pv 7) (Xaa (Xai Xau (pv 4) Xac) Xag))))) (Xad (Xbn (Xal Xcw (pv 2) Xac (Xan _)) (Xah (Xar (i := 10) sc_Z58.nd rfl (Or.inl rfl) (Xak D_Z57 hr (by rfl) (Xaa (pv 10) (Xaa (Xai Xcd (pv 3) Xac) Xag))))) Xat) (Xah (Xao (Xci (Xaa (pv 10) (Xaa (Xai Xau (Xai Xau (pv 7) (pv 4)) Xac) Xag))))))))))))), ?_⟩
 obtain ⟨w, pl, r, x, dx, a, st, bb, cs, us, ps, c, b, br, rfl, S, hst, hbb, pa, r0, h1, h2, hbr, hw, q⟩ := h
 have hx := S.hx
 have hple := S.hc.le
 have hz := S.hz
 have hnx := fun s (hn : nxQ (Xbb ps (c + 2) b) r = some s) => nx_in h2 hn
 walk_at "go"
 refine ⟨st, bb, us, ps, r, c + 2, b, rfl, hst, hbb, pa, h2, ?_⟩
 walk_at "go"
 refine ⟨r, x, dx, a, cs, ps, c + 2, b, rfl, S, h2, fun H1 s1 => ?_⟩
 have S1 := S.same s1
 have hx1 := S1.hx
 have hst1 := s1 st _ hst
 have hbb1 := s1 bb _ hbb
 have pa1 := pa.same s1
 cases hn : nxQ (Xbb ps (c + 2) b) r with
 | none =>
   walk_at "go"
   have fin : ∀ H2, Same H1 H2 → Q (.ref st) H2 := fun H2 s2 => q a st bb r cs us ps H2 (Xay.of (s1.trans s2)) (.inl rfl) rfl (S1.same s2) (s2 st _ hst1) (s2 bb _ hbb1) (pa1.same s2) r0
   refine ⟨rfl, false, by simp, ?_⟩
   walk_at "go"
   refine ⟨w, pl, r, x, dx, a, cs, ps, c, b, br, rfl, S1, h1, h2, hbr, ?_⟩
   rcases hw with rfl | ⟨rfl, i, z, rfl, hi, hv, hns⟩
   · refine .inl ⟨rfl, fun _ H2 s2 => ?_, fun s hs => (by rw [hn] at hs; cases hs)⟩
     walk_at "go"
     exact fin H2 s2
   · refine .inr ⟨rfl, i, z, rfl, hi, hv, fun _ _ H2 s2 => ?_, fun _ s hs => (by rw [hn] at hs; cases hs), fun hs => absurd hs hns⟩
     walk_at "go"
     exact fin H2 s2
 | some s =>
   obtain ⟨i0, z0, hi0, hv0, g1, g2⟩ := hnx s hn
   obtain ⟨m0, m1, m3, m4⟩ := S.hc.mem z0 (List.mem_of_getElem? hi0)
   have hcl := cutL_len s (c + 2) ps
   walk_at "go"
   refine ⟨w, pl, r, x, dx, a, cs, ps, c, b, br, rfl, S1, h1, h2, hbr, ?_⟩
   have hsx : st ≠ x := fun e => by rw [e, hx1] at hst1; cases hst1
   have hbx : bb ≠ x := fun e => by rw [e, hx1] at hbb1; cases hbb1
   have er : s + c + 2 = s + (c + 2) := by omega
   rcases hw with rfl | ⟨rfl, i, z, rfl, hi, hv, hns⟩
   · refine .inl ⟨rfl, fun hs => (by rw [hn] at hs; cases hs), fun s' hs a' cs' H2 na2 k2 l2 S2 => ?_⟩
     have es : s = s' := by rw [hn] at hs; exact Option.some.inj hs
     subst es
     have hst2 := k2 st _ hsx hst1
     have hbb2 := k2 bb _ hbx hbb1
     have pa2 : Xas H2 us ps := pa1.mono fun d xs h => k2 d _ (fun w => by rw [w, hx1] at h; cases h) h
     walk_at "go"
     refine ⟨bb, us, ps, s, c + 2, rfl, hbb2, pa2, by omega, fun p ws H3 np s3 hp pw => ?_⟩
     walk_at "go"
     rw [er]
     intro t ht
     have s4 : Same H2 (upd H3 t (.tup [.ref p, .int (s + (c + 2))])) := s3.trans (Same.new ht)
     exact q a' t p _ cs' ws _ _ ((Xay.of s1).trans (k2.trans (Xay.of s4))) (.inr (s1.free na2)) l2 (S2.same s4) upd_same ((Same.new ht) p _ hp) (pw.same (Same.new ht)) (by omega)
   · refine .inr ⟨rfl, i, z, rfl, hi, hv, fun _ hs => (by rw [hn] at hs; cases hs), fun _ s' hs a' cs' H2 na2 k2 l2 S2 => ?_, fun hs => absurd hs hns⟩
     have es : s = s' := by rw [hn] at hs; exact Option.some.inj hs
     subst es
     have hst2 := k2 st _ hsx hst1
     have hbb2 := k2 bb _ hbx hbb1
     have pa2 : Xas H2 us ps := pa1.mono fun d xs h => k2 d _ (fun w => by rw [w, hx1] at h; cases h) h
     walk_at "go"
     refine ⟨bb, us, ps, s, c + 2, rfl, hbb2, pa2, by omega, fun p ws H3 np s3 hp pw => ?_⟩
     walk_at "go"
     refine ⟨p, ws, cutL ps s (c + 2), z.a, by rw [Int.add_sub_cancel], hp, pw, by omega, fun p2 ws2 H4 np2 s4 hp2 pw2 => ?_⟩
     walk_at "go"
     rw [er]
     intro t ht
     have s5 : Same H2 (upd H4 t (.tup [.ref p2, .int (s + (c + 2))])) := (s3.trans s4).trans (Same.new ht)
     exact q a' t p2 _ cs' ws2 _ _ ((Xay.of s1).trans (k2.trans (Xay.of s5))) (.inr (s1.free na2)) l2 (S2.same s5) upd_same ((Same.new ht) p2 _ hp2) (pw2.same (Same.new ht)) (by omega)
def spGrowL (C : Addr) : Sp := fun vs H Q _ => ∃ (r : Int) (x dx a st bb : Addr) (cs : List Int) (us : List V) (ps : List Pc) (i : Nat) (z : Pc) (c b : Int) (br : Bool), vs = [.ref x, .ref st, .int z.a, .int c, .int b, .bl br] ∧ NxS C x dx a r cs ps H ∧ H st = some (.tup [.ref bb, .int r]) ∧ H bb = some (.lst us) ∧ Xas H us ps ∧ 0 ≤ r ∧ 1 ≤ c ∧ 1 ≤ b ∧ (br = true → b = 1) ∧ ps[i]? = some z ∧ z.v = true ∧ StP C x dx a cs.length H Q
theorem d_Z53 (S : Src K mg "_law_grow" s_Z53) (T : Txt K mg Y0 Y8 Y4 Y3 Y6 Y9 Y2 Y7 Y5 Y1 Y10 W0_ W1_) (D_Z60 : Defx P w K mg base "_law_end" 1 ["_law_pieces", "_law_at"] (spEnd)) (D_Z58 : Defx P w K mg base "_law_new" 12 ["_law_keeper", "_law_state", "_law_way", "_law_place", "_law_count", "_law_bound", "_law_brief"] (spNew Y10)) (D_Z39 : Defx P w K mg base "_law_answer" 11 ["_law_keeper", "_law_way", "_law_place", "_law_count", "_law_bound", "_law_brief"] (spAnsw Y10)) (D_Z45 : Defx P w K mg base "_law_whole" 1 ["_law_found"] (Xfz)) (D_Z29 : Defx P w K mg base "_law_regrown" 1 ["_law_pieces", "_law_at", "_law_long", "_law_end_here"] (spReg)) : Defx P w K mg base "_law_grow" 13 ["_law_keeper", "_law_state", "_law_at", "_law_count", "_law_bound", "_law_brief"] (spGrowL Y10) := by
 refine S.okx sc_Z53 bi_Z53 (fun vs H Q E h => by revert h; walk_at "len") (fun f cdv A outer s H vs Q E hr h => ?_)
 refine ⟨_, PSs.nox (Xad (Xar (i := 6) sc_Z53.nd rfl (Or.inl rfl) (Xak D_Z60 hr (by rfl) (Xaa (Xaq Xap (pv 1) Xac (fun _ _ => rfl)) (Xaa (pv 2) Xag)))) (Xad (Xbn (PW.pt (Xdk (Xal op_gt (Xai Xbe (Xai Xau (pv 2) Xac) (pv 4)) Xac (Xan _)) (Xcr (Xal op_gt (Xai Xau (Xai Xau (pv 2) (pv 3)) Xac) (pv 6) (Xan _))))) (Xah (Xao (Xak D_Z58 hr (by rfl) (Xaa (pv 0) (Xaa (pv 1) (Xaa Xac (Xaa (Xai Xau (pv 2) Xac) (Xaa (pv 3) (Xaa (pv 4) (Xaa (pv 5) Xag)))))))))) Xat) (Xad (Xar (i := 7) sc_Z53.nd rfl (Or.inl rfl) (Xak D_Z39 hr (by rfl) (Xaa (pv 0) (Xaa Xac (Xaa (Xai Xau (pv 2) Xac) (Xaa (pv 3) (Xaa (pv 4) (Xaa (pv 5) Xag)))))))) (Xad (Xbn (PW.pt (Xdk (Xcm (Xem (Xak D_Z45 hr (by rfl) (Xaa (pv 7) Xag)))) (Xcr (Xal op_ne (pv 7) (Xai Xau (pv 2) Xac) (Xan _))))) (Xah (Xao Xcn)) Xat) (Xah (Xao (Xci (Xaa (Xak D_Z29 hr (by rfl) (Xaa (Xaq Xap (pv 1) Xac (fun _ _ => rfl)) (Xaa (pv 2) (Xaa (Xai Xau (pv 3) Xac) (Xaa (pv 6) Xag))))) (Xaa (Xaq Xap (pv 1) Xac (fun _ _ => rfl)) Xag))))))))), ?_⟩
 obtain ⟨r, x, dx, a, st, bb, cs, us, ps, i, z, c, b, br, rfl, S, hst, hbb, pa, r0, h1, h2, hbr, hi, hv, q⟩ := h
 have hx := S.hx
 have hple := S.hc.le
 have hz := S.hz
 walk_at "go"
 refine ⟨bb, us, ps, z.a, rfl, hbb, pa, ?_⟩
 have hsx : st ≠ x := fun e => by rw [e, hx] at hst; cases hst
 have hbx : bb ≠ x := fun e => by rw [e, hx] at hbb; cases hbb
 have m0 := Int.emod_nonneg (z.a + 1) (show b ≠ 0 by omega)
 have move : ¬ Stay ps z c b → spNew Y10 [.ref x, .ref st, .int 1, .int (z.a + 1), .int c, .int b, .bl br] H Q E := fun hs => ⟨1, z.a + 1, r, x, dx, a, st, bb, cs, us, ps, c, b, br, rfl, S, hst, hbb, pa, r0, h1, h2, hbr, .inr ⟨rfl, i, z, rfl, hi, hv, hs⟩, q⟩
 walk_at "go"
 refine Xce (fun h3 => ?_) (fun h3 => ?_)
 · walk_at "go"
   exact move (fun hs => by have := hs.1; omega)
 · walk_at "go"
   refine Xce (fun h4 => ?_) (fun h4 => ?_)
   · walk_at "go"
     exact move (fun hs => by have := hs.2; omega)
   · have hs : Stay ps z c b := ⟨by omega, by omega⟩
     walk_at "go"
     refine ⟨1, z.a + 1, r, x, dx, a, cs, ps, c, b, br, rfl, S, h1, h2, hbr, .inr ⟨rfl, i, z, rfl, hi, hv, fun hn => absurd hs hn, fun hn => absurd hs hn, fun _ a' cs' H2 na2 k2 l2 S2 => ?_⟩⟩
     have hst2 := k2 st _ hsx hst
     have hbb2 := k2 bb _ hbx hbb
     have pa2 : Xas H2 us ps := pa.mono fun d xs h => k2 d _ (fun w => by rw [w, hx] at h; cases h) h
     walk_at "go"
     refine ⟨bb, us, ps, z.a, c + 2, enF ps z.a, rfl, hbb2, pa2, by omega, fun p ws H3 np s3 hp pw => ?_⟩
     have hst3 := s3 st _ hst2
     walk_at "go"
     intro t ht
     have s4 : Same H2 (upd H3 t (.tup [.ref p, .int r])) := s3.trans (Same.new ht)
     exact q a' t p r cs' ws _ _ (k2.trans (Xay.of s4)) (.inr na2) l2 (S2.same s4) upd_same ((Same.new ht) p _ hp) (pw.same (Same.new ht)) r0
theorem walk_zero (l : List Int) : (Xck (0 :: l) 0).2 = some 0 := by
 have hb : Xdj (0 :: l) 0 = some 0 := bad_no (by
   unfold Xbu
   exact if_pos (Or.inl (show (0 : Int) / 2 < 1 by decide)))
 rw [Xck, dif_neg (fun z => by rw [hb] at z; cases z.2), if_pos (by rw [List.length_cons]; omega), hb]
def spLaidL (C : Addr) : Sp := fun vs H Q _ => ∃ (r : Int) (x dx a : Addr) (cs : List Int) (ps : List Pc) (mo : Bool), vs = [.ref x, .bl mo] ∧ NxS C x dx a r cs ps H ∧ 1 ≤ cs.length ∧ ∀ H', Same H H' → Q (.bl false) H'
theorem d_Z54 (S : Src K mg "_law_laid" s_Z54) (T : Txt K mg Y0 Y8 Y4 Y3 Y6 Y9 Y2 Y7 Y5 Y1 Y10 W0_ W1_) (D_lay : Methx P w K mg base Y10 "lay" 7 ["self", "cells"] [] (spLay K Y10 Y8 Y4)) (D_Z62 : Methx P w K mg base Y10 "cells" 1 ["self"] [] (spCellsK Y10)) : Defx P w K mg base "_law_laid" 8 ["_law_keeper", "_law_more"] (spLaidL Y10) := by
 refine S.okx sc_Z54 bi_Z54 (fun vs H Q E h => by revert h; walk_at "len") (fun f cdv A outer s H vs Q E hr h => ?_)
 refine ⟨_, PSs.nox (Xad (Xar (i := 2) sc_Z54.nd rfl (Or.inl rfl) Xdt) (Xad (ps_tryS (pxs_if (Xbm (pv 1) (fun _ => rfl)) (pxs_exp (Xfa D_lay hr (pv 0) (Xaa (Xai op_cat (Xcs D_Z62 Xbh hr (pv 0)) (Xdi (Xaa Xac Xag))) Xag))) (pxs_exp (Xfa D_lay hr (pv 0) (Xaa (Xai op_cat (Xdi (Xaa Xac Xag)) (Xfi sl_list (Xcs D_Z62 Xbh hr (pv 0)) (Xfh Xac) po_none)) Xag)))) ⟨rfl, rfl⟩ (ph_cons (by rfl) T.c_NoSize (fun x => (Xah (Xar (i := 2) sc_Z54.nd rfl (Or.inl rfl) (pe_not (pv 1))))) (ph_cons (by rfl) T.c_Broken (fun x => (Xah (Xar (i := 2) sc_Z54.nd rfl (Or.inl rfl) (pv 1)))) ph_nil))) (Xah (Xao (pv 2))))), ?_⟩
 obtain ⟨r, x, dx, a, cs, ps, mo, rfl, ⟨hx, ha, hz, hc, mk, nj⟩, hpos, q⟩ := h
 cases mo with
 | true =>
   walk_at "go"
   refine r_xExp ?_
   walk_at "go"
   refine ⟨r, x, dx, a, cs, rfl, hx, ha, fun p H1 np s1 hp => ?_⟩
   walk_at "go"
   intro p2 np2
   have s2 := s1.trans (Same.new (o := .lst [.int 2]) np2)
   have hp' : upd H1 p2 (.lst [.int 2]) p = some (.lst (cs.map V.int)) := (Same.new np2) p _ hp
   have hp2 : upd H1 p2 (.lst [.int 2]) p2 = some (.lst [.int 2]) := upd_same
   generalize upd H1 p2 (.lst [.int 2]) = H2 at s2 hp' hp2 ⊢
   refine ⟨p, p2, cs.map V.int, [.int 2], rfl, rfl, hp', hp2, Nat.le_of_lt (small4000 (by rw [List.length_map]; show cs.length + 1 ≤ 4000; omega)), fun p3 np3 => ?_⟩
   have s3 := s2.trans (Same.new (o := .lst (cs.map V.int ++ [.int 2])) np3)
   have hp3 : upd H2 p3 (.lst (cs.map V.int ++ [.int 2])) p3 = some (.lst ((cs ++ [2]).map V.int)) := by rw [upd_same, List.map_append]; rfl
   generalize upd H2 p3 (.lst (cs.map V.int ++ [.int 2])) = H3 at s3 hp3 ⊢
   walk_at "go"
   refine ⟨r, x, p3, dx, a, cs, cs ++ [2], rfl, s3 x _ hx, s3 a _ ha, SqL.of hp3, by rw [List.length_append, List.length_singleton]; omega, by omega, fun _ H4 s4 => ⟨_, rfl, fun y hy => Or.inl ⟨T.f_NoSize_NoSize, ?_⟩⟩, fun hl => ?_, fun hl => ?_⟩
   · have s5 := (s3.trans s4).put (o := ExcO y Y8 none) ((s3.trans s4).free hy)
     generalize upd H4 y (ExcO y Y8 none) = H5 at s5 ⊢
     walk_at "go"
     exact q H5 s5
   · rw [List.length_append, List.length_singleton] at hl
     omega
   · rw [List.length_append, List.length_singleton] at hl
     omega
 | false =>
   walk_at "go"
   refine r_xExp ?_
   walk_at "go"
   intro p0 np0
   have s0 : Same H (upd H p0 (.lst [.int 0])) := Same.new np0
   have hp0 : upd H p0 (.lst [.int 0]) p0 = some (.lst [.int 0]) := upd_same
   generalize upd H p0 (.lst [.int 0]) = H0 at s0 hp0 ⊢
   have hx0 := s0 x _ hx
   walk_at "go"
   refine ⟨r, x, dx, a, cs, rfl, hx0, s0 a _ ha, fun p H1 np s1 hp => ?_⟩
   have hp01 := s1 p0 _ hp0
   have s01 := s0.trans s1
   walk_at "go"
   intro p1 H2 np1 s2 hp1
   have hp02 := s2 p0 _ hp01
   have ec : cutI cs (some 1) none = cs.drop 1 := cutI_from (by omega) (by omega)
   rw [ec] at hp1
   have s02 := s01.trans s2
   have ld : (cs.drop 1).length = cs.length - 1 := List.length_drop
   refine ⟨p0, p1, [.int 0], (cs.drop 1).map V.int, rfl, rfl, hp02, hp1, Nat.le_of_lt (small4000 (by rw [List.length_map]; show 1 + (cs.drop 1).length ≤ 4000; omega)), fun p3 np3 => ?_⟩
   have s3 := s02.trans (Same.new (o := .lst ([.int 0] ++ (cs.drop 1).map V.int)) np3)
   have hp3 : upd H2 p3 (.lst ([.int 0] ++ (cs.drop 1).map V.int)) p3 = some (.lst (((0 : Int) :: cs.drop 1).map V.int)) := by rw [upd_same]; rfl
   generalize upd H2 p3 (.lst ([.int 0] ++ (cs.drop 1).map V.int)) = H3 at s3 hp3 ⊢
   have hl : ((0 : Int) :: cs.drop 1).length = cs.length := by rw [List.length_cons]; omega
   walk_at "go"
   refine ⟨r, x, p3, dx, a, cs, 0 :: cs.drop 1, rfl, s3 x _ hx, s3 a _ ha, SqL.of hp3, by omega, by omega, fun hn => absurd hl hn, fun _ bd hbd d H4 s4 hd => ⟨_, rfl, fun y hy => ?_⟩, fun _ ps' hw => ?_⟩
   · have s5 := (s3.trans s4).put (o := ExcO y Y4 (some d)) ((s3.trans s4).free hy)
     generalize upd H4 y (ExcO y Y4 (some d)) = H5 at s5 ⊢
     refine Or.inr ⟨T.f_Broken_NoSize, Or.inl ⟨T.f_Broken_Broken, ?_⟩⟩
     walk_at "go"
     exact q H5 s5
   · have := walk_zero (cs.drop 1)
     rw [hw] at this
     cases this
def WdW (H1 : Hp) (ps : List Pc) (D : Addr) (i : Nat) (ys : List V) (H2 : Hp) : Prop := Same H1 H2 ∧ H2 D = some (.lst ys) ∧ Xas H2 ys ((ps.take i).filter fun z => !z.v && decide (1 < z.l)) ∧ ys.length ≤ i
def spParted : Sp := fun vs H Q _ => ∃ (q b : Addr) (cs : List Int) (us : List V) (ps : List Pc) (c0 : Int), vs = [.ref q, .ref b, .int c0] ∧ H q = some (.lst (cs.map V.int)) ∧ H b = some (.lst us) ∧ Xas H us ps ∧ Xam 0 ps cs.length ∧ Xbc cs ps ∧ Xbf ps ∧ cs.length ≤ 1200 ∧
 ∀ (cs' : List Int) (ps' : List Pc) (H' : Hp), Xay q H H' → H' q = some (.lst (cs'.map V.int)) → cs'.length = cs.length → Xam 0 ps' cs.length → Xbc cs' ps' → Xcf ps' = ps → Q (.ref q) H'
def haF (cs : List Int) (z : Pc) (k : Int) : Nat → List Int
 | 0 => cs
 | 1 => Xbw cs z.a k false
 | _ => Xbw (Xbw cs z.a k false) (z.a + k) (z.l - k) false
def HaW (f0 f1 f2 f3 f4 f5 : Option V) (q : Addr) (cs : List Int) (z : Pc) (k : Int) (H : Hp) (i : Nat) (σ : L2.St) (H' : Hp) : Prop :=
 ∃ x6 : Option V, σ = [f0, f1, f2, f3, f4, f5, x6] ∧ Xay q H H' ∧ H' q = some (.lst ((haF cs z k i).map V.int))
theorem d_Z38 (S : Src K mg "_law_parted" s_Z38) (T : Txt K mg Y0 Y8 Y4 Y3 Y6 Y9 Y2 Y7 Y5 Y1 Y10 W0_ W1_)  : Defx P w K mg base "_law_parted" 1 ["_law_cells", "_law_pieces", "_law_c"] (spParted) := by
 refine S.okx sc_Z38 bi_Z38 (fun vs H Q E h => by revert h; walk_at "len") (fun f cdv A outer s H vs Q E hr h => ?_)
 refine ⟨_, PSs.nox (Xad (Xff (i := 3) ["_law_piece"] sc_Z38.nd rfl (Or.inl rfl) rfl (Xcg (pv 1)) (fun cl C s₀ H₀ ex => (Xax (i := 0) (show ((["_law_piece"] : List Str) ++ ([] : List Str)).Nodup by decide +kernel) rfl (Or.inl rfl))) (fun cl C s₀ H₀ ex => (pts_one (PW.pt (Xda (Xcm (pt_truthK (K := K) rfl (Xaq (Xes (K := K) rfl) (pv 0) Xac (fun _ _ => rfl)) (fun _ => rfl))) (Xcu (Xal op_gt (Xaq (Xes (K := K) rfl) (pv 0) Xac (fun _ _ => rfl)) Xac (Xan _))))))) (fun cl C s₀ H₀ ex => (pv 0)) ) (Xad (Xbn (Xbm (pv 3) (fun _ => rfl)) (Xad (Xar (i := 4) sc_Z38.nd rfl (Or.inl rfl) (Xaq Xbi (pv 3) (Xai Xbe (Xai Xbe (Xai Xdm (pv 2) Xac) Xac) (Xcc Xbp (by rfl) T.n_len PySem.boot_len (Xaa (pv 3) Xag))) (fun _ _ => rfl))) (Xad (Xar (i := 5) sc_Z38.nd rfl (Or.inl rfl) (Xai Xau Xac (Xai Xbe (Xai Xbe (Xai Xdm (pv 2) Xac) Xac) (Xai Xcd (Xaq Xap (pv 4) Xac (fun _ _ => rfl)) Xac)))) (Xah (Xew PassesOwn.never rfl (Xcg (Xdi (Xaa (Xci (Xaa (Xaq Xap (pv 4) Xac (fun _ _ => rfl)) (Xaa (pv 5) Xag))) (Xaa (Xci (Xaa (Xai Xau (Xaq Xap (pv 4) Xac (fun _ _ => rfl)) (pv 5)) (Xaa (Xai Xcd (Xaq Xap (pv 4) Xac (fun _ _ => rfl)) (pv 5)) Xag))) Xag)))) (Xax (i := 6) sc_Z38.nd rfl (Or.inl rfl)) (Xad (Xdo (Xai Xdm (Xaq Xap (pv 6) Xac (fun _ _ => rfl)) Xac) (Xfu (pv 0) (Xaq Xap (pv 6) Xac (fun _ _ => rfl)) Xdd)) (Xah (Xdo (Xai Xdm (Xaq Xap (pv 6) Xac (fun _ _ => rfl)) Xac) (Xfu (pv 0) (Xai Xcd (Xai Xau (Xaq Xap (pv 6) Xac (fun _ _ => rfl)) (Xaq Xap (pv 6) Xac (fun _ _ => rfl))) Xac) Xdd)))))))) Xat) (Xah (Xao (pv 0))))), ?_⟩
 obtain ⟨q0, b, cs, us, ps, c0, rfl, hq, hb, pa, hc, mk, nj, hz, q⟩ := h
 have hul := pa.1
 have hple := hc.le
 walk_at "go"
 refine ⟨b, rfl, ⟨_, SqL.of hb⟩, Xde (K := K) (a := b) (xs := us) (fs := []) (WdW H ps) (fun D hD => ⟨Same.new hD, upd_same, Xas.nil, Nat.le_refl _⟩) (fun D i ys H2 _ h => SqL.of (h.1 b _ hb)) ?_ ?_⟩
 · rintro D i y ys H2 hD hi ⟨s2, hD2, py, hyl⟩ τ hτ
   have hil : i < us.length := (List.getElem?_eq_some_iff.mp hi).1
   obtain ⟨t, z, rfl, hz1, hT⟩ := Xcz (pa.same s2) hi
   have hfl := take_succ_filter (fun z : Pc => !z.v && decide (1 < z.l)) ps i z hz1
   match τ, hτ with
   | [τ0], _ =>
     walk_at "go"
     refine ⟨⟨[_], rfl, rfl⟩, ?_⟩
     walk_at "go"
     refine Xdy (fun hv => ?_) (fun hv => ?_)
     · rw [if_neg (by rw [hv]; exact Bool.false_ne_true), List.append_nil] at hfl
       walk_at "go"
       exact nx_mk hil ⟨s2, hD2, by rw [hfl]; exact py, by omega⟩
     · walk_at "go"
       refine Xce (fun h1 => ?_) (fun h1 => ?_)
       · rw [if_pos (by rw [hv, decide_eq_true h1]; rfl)] at hfl
         walk_at "go"
         refine ⟨hD2, small4000 (by omega), nx_mk hil ⟨s2.put hD, upd_same, ?_, by rw [List.length_append, List.length_singleton]; omega⟩⟩
         rw [hfl]
         exact (py.mono (Xeh (o := .lst (ys ++ [.ref t])) (.inr ⟨_, hD2⟩))).snoc (look_tup hD2 hT)
       · rw [if_neg (by rw [hv, decide_eq_false h1]; exact Bool.false_ne_true), List.append_nil] at hfl
         walk_at "go"
         exact nx_mk hil ⟨s2, hD2, by rw [hfl]; exact py, by omega⟩
 rintro D ys H1 hD ⟨s1, hD1, py, hyl⟩
 rw [List.take_of_length_le (by omega)] at py
 have hq1 := s1 q0 _ hq
 cases hys : ys with
 | nil =>
   rw [hys] at hD1
   walk_at "go"
   refine iteT ?_
   walk_at "go"
   exact q cs ps H1 (Xay.of s1) hq1 rfl hc mk (by have := joinF_id nj ps.length (Nat.le_refl _); rwa [List.take_length] at this)
 | cons y0 yr =>
   have hyl0 : 0 < ys.length := by rw [hys, List.length_cons]; omega
   rw [hys] at hD1
   walk_at "go"
   refine iteF ?_
   rw [← hys] at hD1
   have i0 := Int.emod_nonneg (c0 * 39373 % 28657) (show (ys.length : Int) ≠ 0 by omega)
   have i1 := Int.emod_lt_of_pos (c0 * 39373 % 28657) (show (0 : Int) < ys.length by omega)
   walk_at "go"
   obtain ⟨t, z, et, hz1, hT⟩ := py.at i0 i1
   refine r_ixL (SqL.of hD1) et ?_
   obtain ⟨hzm, hzf⟩ := List.mem_filter.mp (List.mem_of_getElem? hz1)
   have hzv : z.v = false := by
     cases hv : z.v with
     | false => rfl
     | true => rw [hv] at hzf; cases hzf
   have hzl : 1 < z.l := by
     rw [hzv] at hzf
     simpa using hzf
   obtain ⟨i, hi⟩ := List.getElem?_of_mem hzm
   clear hz1 i0 i1 et
   obtain ⟨z0, z1, z3, z4⟩ := hc.mem z hzm
   have k0 := Int.emod_nonneg (c0 * 30903 % 17389) (show z.l - 1 ≠ 0 by omega)
   have k1 := Int.emod_lt_of_pos (c0 * 30903 % 17389) (show 0 < z.l - 1 by omega)
   obtain ⟨k, ek, kk1, kk2⟩ : ∃ k : Int, 1 + c0 * 30903 % 17389 % (z.l - 1) = k ∧ 1 ≤ k ∧ k < z.l := ⟨_, rfl, by omega, by omega⟩
   walk_at "go"
   rw [ek]
   clear k0 k1 ek
   intro t1 ht1
   walk_at "go"
   intro t2 ht2
   walk_at "go"
   intro l hl
   have s2 : Same H1 (upd (upd (upd H1 t1 (.tup [.int z.a, .int k])) t2 (.tup [.int (z.a + k), .int (z.l - k)])) l (.lst [.ref t1, .ref t2])) := ((Same.new ht1).trans (Same.new ht2)).trans (Same.new hl)
   have h1 : upd (upd (upd H1 t1 (.tup [.int z.a, .int k])) t2 (.tup [.int (z.a + k), .int (z.l - k)])) l (.lst [.ref t1, .ref t2]) t1 = some (.tup [.int z.a, .int k]) := (Same.new hl) t1 _ ((Same.new ht2) t1 _ upd_same)
   have h2 : upd (upd (upd H1 t1 (.tup [.int z.a, .int k])) t2 (.tup [.int (z.a + k), .int (z.l - k)])) l (.lst [.ref t1, .ref t2]) t2 = some (.tup [.int (z.a + k), .int (z.l - k)]) := (Same.new hl) t2 _ upd_same
   have h3 : upd (upd (upd H1 t1 (.tup [.int z.a, .int k])) t2 (.tup [.int (z.a + k), .int (z.l - k)])) l (.lst [.ref t1, .ref t2]) l = some (.lst [.ref t1, .ref t2]) := upd_same
   have n1 : t1 ≠ q0 := fun e => by rw [e, hq1] at ht1; cases ht1
   have n2 : t2 ≠ q0 := fun e => by rw [e, (Same.new ht1) q0 _ hq1] at ht2; cases ht2
   have n3 : l ≠ q0 := fun e => by rw [e, (Same.new ht2) q0 _ ((Same.new ht1) q0 _ hq1)] at hl; cases hl
   have hq2 := s2 q0 _ hq1
   generalize upd (upd (upd H1 t1 (.tup [.int z.a, .int k])) t2 (.tup [.int (z.a + k), .int (z.l - k)])) l (.lst [.ref t1, .ref t2]) = H2 at s2 h1 h2 h3 hq2 ⊢
   clear ht1 ht2 hl
   walk_at "go"
   refine ⟨l, rfl, ⟨_, SqL.of h3⟩, Xcp (K := K) (a := l) (xs := [.ref t1, .ref t2]) (HaW (some (.ref q0)) (some (.ref b)) (some (.int c0)) (some (.ref D)) (some (.ref t)) (some (.int k)) q0 cs z k H2) ⟨none, rfl, Xay.refl, hq2⟩ (fun i σ H3 _ ⟨_, _, k3, _⟩ => SqL.of (k3 l _ n3 h3)) ?_ ?_⟩
   · rintro j y σ H3 hj ⟨x6, rfl, k3, hq3⟩
     rcases j with _ | _ | j
     · have ey : V.ref t1 = y := by simpa using hj
       subst ey
       have hq3 : H3 q0 = some (.lst (cs.map V.int)) := hq3
       have ht := k3 t1 _ n1 h1
       walk_at "go"
       exact ⟨_, rfl, k3.put.put, by rw [upd_same, show haF cs z k (0 + 1) = Xbw cs z.a k false from rfl, laidI_free cs z.a k]⟩
     · have ey : V.ref t2 = y := by simpa using hj
       subst ey
       have hq3 : H3 q0 = some (.lst ((Xbw cs z.a k false).map V.int)) := hq3
       have hll := Xbg cs z.a k false
       have ht := k3 t2 _ n2 h2
       walk_at "go"
       exact ⟨_, rfl, k3.put.put, by rw [upd_same, show haF cs z k (0 + 1 + 1) = Xbw (Xbw cs z.a k false) (z.a + k) (z.l - k) false from rfl, laidI_free (Xbw cs z.a k false) (z.a + k) (z.l - k)]⟩
     · simp at hj
   · rintro σ H3 ⟨x6, rfl, k3, hq3⟩
     walk_at "go"
     obtain ⟨ds, rs, e1, e2, _, _⟩ := Xaz hc hi
     subst e1
     exact q _ _ H3 ((Xay.of (s1.trans s2)).trans k3) hq3 (by show (Xbw (Xbw cs z.a k false) (z.a + k) (z.l - k) false).length = _; rw [Xbg, Xbg]) (part_chain hc hzv kk1 kk2) (part_marks hc mk kk1 kk2) (part_join nj hzv)
theorem marks_putk {cs : List Int} {ps : List Pc} {z : Pc} {n x k : Int} (c : Xam 0 ps n) (m : Xbc cs ps) (hz : z ∈ ps) (hv : z.v = true) (k0 : 0 ≤ k) (k1 : k < z.l - 2) : Xbc (cs.set (z.a + 1 + k).toNat x) ps := fun p hp => by
 obtain ⟨z0, z1, z3, z4⟩ := c.mem z hz
 obtain ⟨p0, p1, p3, p4⟩ := c.mem p hp
 obtain ⟨m1, m2⟩ := m p hp
 have far : p.a ≠ z.a + 1 + k ∧ p.a + p.l - 1 ≠ z.a + 1 + k := by
   by_cases e : p = z
   · subst e; omega
   · constructor
     · intro h
       exact e (Xey c hp hz (Int.le_refl _) (by omega) (by omega) (by omega))
     · intro h
       exact e (Xey c hp hz (p := p.a + p.l - 1) (by omega) (by omega) (by omega) (by omega))
 exact ⟨by rw [List.getElem?_set_ne (by omega)]; exact m1, by rw [List.getElem?_set_ne (by omega)]; exact m2⟩
def LvW (H1 : Hp) (ps : List Pc) (D : Addr) (i : Nat) (ys : List V) (H2 : Hp) : Prop := Same H1 H2 ∧ H2 D = some (.lst ys) ∧ Xas H2 ys ((ps.take i).filter (·.v)) ∧ ys.length ≤ i
def spPutL (C : Addr) : Sp := fun vs H Q _ => ∃ (r : Int) (x dx a b : Addr) (cs : List Int) (us : List V) (ps : List Pc) (c0 : Int), vs = [.ref x, .ref b, .int c0] ∧ NxS C x dx a r cs ps H ∧ H b = some (.lst us) ∧ Xas H us ps ∧
 ∀ (cs' : List Int) (H' : Hp), cs'.length = cs.length → Xay a H H' → NxS C x dx a r cs' ps H' → Q (.bl true) H'
theorem d_Z61 (S : Src K mg "_law_put" s_Z61) (T : Txt K mg Y0 Y8 Y4 Y3 Y6 Y9 Y2 Y7 Y5 Y1 Y10 W0_ W1_) (D_put : Methx P w K mg base Y10 "put" 9 ["self", "place", "k", "number"] [] (spPut Y10)) (D_get : Methx P w K mg base Y10 "get" 9 ["self", "place", "k"] [] (spGet Y10)) (D_Z69 : Methx P w K mg base Y10 "many" 7 ["self", "place"] [] (spMany Y10)) : Defx P w K mg base "_law_put" 10 ["_law_keeper", "_law_pieces", "_law_c"] (spPutL Y10) := by
 refine S.okx sc_Z61 bi_Z61 (fun vs H Q E h => by revert h; walk_at "len") (fun f cdv A outer s H vs Q E hr h => ?_)
 refine ⟨_, PSs.nox (Xad (Xff (i := 3) ["_law_piece"] sc_Z61.nd rfl (Or.inl rfl) rfl (Xcg (pv 1)) (fun cl C s₀ H₀ ex => (Xax (i := 0) (show ((["_law_piece"] : List Str) ++ ([] : List Str)).Nodup by decide +kernel) rfl (Or.inl rfl))) (fun cl C s₀ H₀ ex => (pts_one (pt_truthK (K := K) rfl (Xaq (Xes (K := K) rfl) (pv 0) Xac (fun _ _ => rfl)) (fun _ => rfl)))) (fun cl C s₀ H₀ ex => (pv 0)) ) (Xad (Xbn (PW.pt (Xdk (Xcm (Xbm (pv 3) (fun _ => rfl))) (Xcr (Xal Xcw (Xai Xbe (pv 2) Xac) Xac (Xan _))))) (Xah (Xao Xdt)) Xat) (Xad (Xar (i := 4) sc_Z61.nd rfl (Or.inl rfl) (Xaq Xbi (pv 3) (Xai Xbe (Xai Xbe (Xai Xdm (pv 2) Xac) Xac) (Xcc Xbp (by rfl) T.n_len PySem.boot_len (Xaa (pv 3) Xag))) (fun _ _ => rfl))) (Xad (Xar (i := 5) sc_Z61.nd rfl (Or.inl rfl) (Xai Xbe (Xai Xbe (Xai Xdm (pv 2) Xac) Xac) (Xai Xcd (Xaq Xap (pv 4) Xac (fun _ _ => rfl)) Xac))) (Xad (Xbq (Xbr D_put Xbh hr (pv 0) (Xaa (Xai Xau (Xaq Xap (pv 4) Xac (fun _ _ => rfl)) Xac) (Xaa (pv 5) (Xaa (Xai Xbe (pv 2) (Xai op_pow Xac Xac)) Xag))))) (Xah (Xao (pe_and (Xcv Xcw (Xbr D_get Xbh hr (pv 0) (Xaa (Xai Xau (Xaq Xap (pv 4) Xac (fun _ _ => rfl)) Xac) (Xaa (pv 5) Xag))) (Xai Xbe (pv 2) (Xai op_pow Xac Xac)) (Xan _)) (Xgd (Xcv Xcw (Xbr D_Z69 Xbh hr (pv 0) (Xaa (Xai Xau (Xaq Xap (pv 4) Xac (fun _ _ => rfl)) Xac) Xag)) (Xai Xcd (Xaq Xap (pv 4) Xac (fun _ _ => rfl)) Xac) (Xan _))))))))))), ?_⟩
 obtain ⟨r, x, dx, a, b, cs, us, ps, c0, rfl, S, hb, pa, q⟩ := h
 obtain ⟨hx, ha, hz, hc, mk, nj⟩ := id S
 have hul := pa.1
 have hple := hc.le
 walk_at "go"
 refine ⟨b, rfl, ⟨_, SqL.of hb⟩, Xde (K := K) (a := b) (xs := us) (fs := []) (LvW H ps) (fun D hD => ⟨Same.new hD, upd_same, Xas.nil, Nat.le_refl _⟩) (fun D i ys H2 _ h => SqL.of (h.1 b _ hb)) ?_ ?_⟩
 · rintro D i y ys H2 hD hi ⟨s2, hD2, py, hyl⟩ τ hτ
   have hil : i < us.length := (List.getElem?_eq_some_iff.mp hi).1
   obtain ⟨t, z, rfl, hz1, hT⟩ := Xcz (pa.same s2) hi
   have hfl := take_succ_filter (fun p : Pc => p.v) ps i z hz1
   match τ, hτ with
   | [τ0], _ =>
     walk_at "go"
     refine ⟨⟨[_], rfl, rfl⟩, ?_⟩
     walk_at "go"
     refine Xdy (fun hv => ?_) (fun hv => ?_)
     · rw [if_pos hv] at hfl
       walk_at "go"
       refine ⟨hD2, small4000 (by omega), nx_mk hil ⟨s2.put hD, upd_same, ?_, by rw [List.length_append, List.length_singleton]; omega⟩⟩
       rw [hfl]
       exact (py.mono (Xeh (o := .lst (ys ++ [.ref t])) (.inr ⟨_, hD2⟩))).snoc (look_tup hD2 hT)
     · rw [if_neg (by rw [hv]; exact Bool.false_ne_true), List.append_nil] at hfl
       exact nx_mk hil ⟨s2, hD2, by rw [hfl]; exact py, by omega⟩
 rintro D ys H1 hD ⟨s1, hD1, py, hyl⟩
 rw [List.take_of_length_le (by omega)] at py
 have hx1 := s1 x _ hx
 have ha1 := s1 a _ ha
 have S1 := S.same s1
 cases hys : ys with
 | nil =>
   rw [hys] at hD1
   walk_at "go"
   refine iteT ?_
   walk_at "go"
   exact q cs H1 rfl (Xay.of s1) S1
 | cons y0 yr =>
   have hyl0 : 0 < ys.length := by rw [hys, List.length_cons]; omega
   rw [hys] at hD1
   walk_at "go"
   refine iteF ?_
   rw [← hys] at hD1
   walk_at "go"
   refine Xce (fun h3 => ?_) (fun h3 => ?_)
   · walk_at "go"
     exact q cs H1 rfl (Xay.of s1) S1
   · have i0 := Int.emod_nonneg (c0 * 30903 % 17389) (show (ys.length : Int) ≠ 0 by omega)
     have i1 := Int.emod_lt_of_pos (c0 * 30903 % 17389) (show (0 : Int) < ys.length by omega)
     walk_at "go"
     obtain ⟨t, z, et, hz1, hT⟩ := py.at i0 i1
     refine r_ixL (SqL.of hD1) et ?_
     obtain ⟨hzm, hzv⟩ := List.mem_filter.mp (List.mem_of_getElem? hz1)
     have hzv : z.v = true := hzv
     clear hz1 i0 i1 et
     obtain ⟨z0, z1, z3, z4⟩ := hc.mem z hzm
     have z3 := z3 hzv
     have k0 := Int.emod_nonneg (c0 * 28629 % 12041) (show z.l - 2 ≠ 0 by omega)
     have k1 := Int.emod_lt_of_pos (c0 * 28629 % 12041) (show 0 < z.l - 2 by omega)
     obtain ⟨k, ek, kk0, kk1⟩ : ∃ k : Int, c0 * 28629 % 12041 % (z.l - 2) = k ∧ 0 ≤ k ∧ k < z.l - 2 := ⟨_, rfl, k0, k1⟩
     walk_at "go"
     rw [ek]
     clear k0 k1 ek
     refine ⟨r, x, dx, a, cs, ps, z, k, _, rfl, hx1, ha1, by omega, hc, mk, hzm, hzv, kk0, kk1, fun H2 k2 ha2 => ?_⟩
     have hxa : x ≠ a := fun e => by rw [e, ha1] at hx1; cases hx1
     have hta : t ≠ a := fun e => by rw [e, ha1] at hT; cases hT
     have hx2 := k2 x _ hxa hx1
     have hT2 := k2 t _ hta hT
     have mk2 := marks_putk (x := c0 % 10 ^ (60 : Int).toNat) hc mk hzm hzv kk0 kk1
     have ls : (cs.set (z.a + 1 + k).toNat (c0 % 10 ^ (60 : Int).toNat)).length = cs.length := List.length_set
     have hgd : (cs.set (z.a + 1 + k).toNat (c0 % 10 ^ (60 : Int).toNat)).getD (z.a + 1 + k).toNat 0 = c0 % 10 ^ (60 : Int).toNat := by
       rw [List.getD_eq_getElem?_getD, List.getElem?_set_self (by omega)]
       rfl
     walk_at "go"
     refine ⟨r, x, dx, a, _, ps, z, k, rfl, hx2, ha2, by rw [ls]; omega, by rw [ls]; exact hc, mk2, hzm, hzv, kk0, kk1, fun H3 s3 => ?_⟩
     rw [hgd]
     have hx3 := s3 x _ hx2
     have ha3 := s3 a _ ha2
     have hT3 := s3 t _ hT2
     walk_at "go"
     refine ⟨r, x, dx, a, _, ps, z, rfl, hx3, ha3, by rw [ls]; omega, by rw [ls]; exact hc, mk2, hzm, hzv, fun H4 s4 => ?_⟩
     have hT4 := s4 t _ hT3
     walk_at "go"
     have fin := q _ H4 ls (((Xay.of s1).trans k2).trans (Xay.of (s3.trans s4))) ⟨s4 x _ hx3, s4 a _ ha3, by rw [ls]; exact hz, by rw [ls]; exact hc, mk2, nj⟩
     first | exact fin | (rw [decide_eq_true rfl]; exact fin)
def spLooksL (C : Addr) : Sp := fun vs H Q _ => ∃ (r : Int) (x dx a st bb : Addr) (cs : List Int) (us : List V) (ps : List Pc) (c0 : Int), vs = [.ref x, .ref st, .int c0] ∧ NxS C x dx a r cs ps H ∧ H st = some (.tup [.ref bb, .int r]) ∧ H bb = some (.lst us) ∧ Xas H us ps ∧ ∀ H', Same H H' → Q (.bl true) H'
theorem d_Z44 (S : Src K mg "_law_looks" s_Z44) (T : Txt K mg Y0 Y8 Y4 Y3 Y6 Y9 Y2 Y7 Y5 Y1 Y10 W0_ W1_) (D_Z56 : Defx P w K mg base "_law_next" 1 ["_law_state", "_law_long", "_law_bound"] (spNext)) (D_Z55 : Methx P w K mg base Y10 "chosen" 6 ["self", "long", "bound"] [] (spChosen Y10)) (D_Z45 : Defx P w K mg base "_law_whole" 1 ["_law_found"] (Xfz)) (D_Z64 : Methx P w K mg base Y10 "rover" 1 ["self"] [] (spRover Y10)) : Defx P w K mg base "_law_looks" 7 ["_law_keeper", "_law_state", "_law_c"] (spLooksL Y10) := by
 refine S.okx sc_Z44 bi_Z44 (fun vs H Q E h => by revert h; walk_at "len") (fun f cdv A outer s H vs Q E hr h => ?_)
 refine ⟨_, PSs.nox (Xad (Xar (i := 3) sc_Z44.nd rfl (Or.inl rfl) (Xai Xau Xac (Xai Xbe (Xai Xbe (Xai Xdm (pv 2) Xac) Xac) Xac))) (Xad (Xar (i := 4) sc_Z44.nd rfl (Or.inl rfl) (Xaq Xbi (Xdi (Xaa Xac (Xaa (Xai Xau Xac (Xai Xbe (Xai Xbe (Xai Xdm (pv 2) Xac) Xac) Xac)) Xag))) (Xai Xbe (Xai Xbe (Xai Xdm (pv 2) Xac) Xac) Xac) (fun _ _ => rfl))) (Xad (Xar (i := 5) sc_Z44.nd rfl (Or.inl rfl) (Xak D_Z56 hr (by rfl) (Xaa (pv 1) (Xaa (pv 3) (Xaa (pv 4) Xag))))) (Xad (Xar (i := 6) sc_Z44.nd rfl (Or.inl rfl) (Xbr D_Z55 Xbh hr (pv 0) (Xaa (pv 3) (Xaa (pv 4) Xag)))) (Xah (Xao (pe_and (Xcv Xcw (pv 6) (pv 5) (Xan _)) (pe_and (pe_or (Xcv op_isN (pv 5) Xcn (Xan _)) (Xgd (Xak D_Z45 hr (by rfl) (Xaa (pv 6) Xag)))) (Xgd (Xcv Xcw (Xcs D_Z64 Xbh hr (pv 0)) (Xaq Xap (pv 1) Xac (fun _ _ => rfl)) (Xan _))))))))))), ?_⟩
 obtain ⟨r, x, dx, a, st, bb, cs, us, ps, c0, rfl, S, hst, hbb, pa, q⟩ := h
 have hx := S.hx
 have e0 := Int.emod_nonneg (c0 * 30903 % 17389) (show (7 : Int) ≠ 0 by decide)
 have j0 := Int.emod_nonneg (c0 * 40692 % 21013) (show (2 : Int) ≠ 0 by decide)
 have j1 := Int.emod_lt_of_pos (c0 * 40692 % 21013) (show (0 : Int) < 2 by decide)
 walk_at "go"
 intro p np
 have s1 : Same H (upd H p (.lst [.int 1, .int (1 + c0 * 30903 % 17389 % 7)])) := Same.new np
 have hp : upd H p (.lst [.int 1, .int (1 + c0 * 30903 % 17389 % 7)]) p = some (.lst (([1, 1 + c0 * 30903 % 17389 % 7] : List Int).map V.int)) := upd_same
 have hB : 1 ≤ ([1, 1 + c0 * 30903 % 17389 % 7] : List Int).getD (c0 * 40692 % 21013 % 2).toNat 0 := by
   rcases (show (c0 * 40692 % 21013 % 2).toNat = 0 ∨ (c0 * 40692 % 21013 % 2).toNat = 1 by omega) with h | h
   · rw [h]; exact Int.le_refl 1
   · rw [h]
     show 1 ≤ 1 + c0 * 30903 % 17389 % 7
     omega
 generalize upd H p (.lst [.int 1, .int (1 + c0 * 30903 % 17389 % 7)]) = H1 at s1 hp ⊢
 have hx1 := s1 x _ hx
 walk_at "go"
 generalize ([1, 1 + c0 * 30903 % 17389 % 7] : List Int).getD (c0 * 40692 % 21013 % 2).toNat 0 = bd at hB ⊢
 generalize 3 + c0 * 28629 % 12041 % 20 = L
 refine ⟨st, bb, us, ps, r, L, bd, rfl, s1 st _ hst, s1 bb _ hbb, pa.same s1, hB, ?_⟩
 walk_at "go"
 refine ⟨r, x, dx, a, cs, ps, L, bd, rfl, S.same s1, hB, fun H2 s2 => ?_⟩
 have s02 := s1.trans s2
 have hst2 := s02 st _ hst
 have hx2 := s02 x _ hx
 cases hn : nxQ (Xbb ps L bd) r with
 | none =>
   walk_at "go"
   refine ⟨rfl, true, by simp, ?_⟩
   walk_at "go"
   refine ⟨r, x, dx, a, rfl, hx2, ?_⟩
   walk_at "go"
   first | exact q H2 s02 | (rw [decide_eq_true rfl]; exact q H2 s02)
 | some s =>
   walk_at "go"
   refine ⟨r, x, dx, a, rfl, hx2, ?_⟩
   walk_at "go"
   first | exact q H2 s02 | (rw [decide_eq_true rfl]; exact q H2 s02)
theorem StP.of {C x dx a : Addr} {n : Nat} {H H' : Hp} {Q : VK} (q : StP C x dx a n H Q) (s : Same H H') : StP C x dx a n H' Q := fun a' st b r cs us ps H'' k ha l S h1 h2 h3 r0 => q a' st b r cs us ps H'' ((Xay.of s).trans k) (ha.imp id s.free) l S h1 h2 h3 r0
def spStep (C : Addr) : Sp := fun vs H Q _ => ∃ (r : Int) (x dx a st bb : Addr) (cs : List Int) (us : List V) (ps : List Pc) (c0 : Int), vs = [.ref x, .ref st, .int c0] ∧ NxS C x dx a r cs ps H ∧ H st = some (.tup [.ref bb, .int r]) ∧ H bb = some (.lst us) ∧ Xas H us ps ∧ 0 ≤ r ∧ 1 ≤ cs.length ∧ StP C x dx a cs.length H Q
theorem d_Z50 (S : Src K mg "_law_step" s_Z50) (T : Txt K mg Y0 Y8 Y4 Y3 Y6 Y9 Y2 Y7 Y5 Y1 Y10 W0_ W1_) (D_Z58 : Defx P w K mg base "_law_new" 12 ["_law_keeper", "_law_state", "_law_way", "_law_place", "_law_count", "_law_bound", "_law_brief"] (spNew Y10)) (D_Z54 : Defx P w K mg base "_law_laid" 8 ["_law_keeper", "_law_more"] (spLaidL Y10)) (D_Z65 : Methx P w K mg base Y10 "clear" 7 ["self"] [] (spClear Y10)) (D_lay : Methx P w K mg base Y10 "lay" 7 ["self", "cells"] [] (spLay K Y10 Y8 Y4)) (D_Z38 : Defx P w K mg base "_law_parted" 1 ["_law_cells", "_law_pieces", "_law_c"] (spParted)) (D_Z62 : Methx P w K mg base Y10 "cells" 1 ["self"] [] (spCellsK Y10)) (D_Z53 : Defx P w K mg base "_law_grow" 13 ["_law_keeper", "_law_state", "_law_at", "_law_count", "_law_bound", "_law_brief"] (spGrowL Y10)) (D_Z67 : Methx P w K mg base Y10 "give" 8 ["self", "place"] [] (spGive Y10)) (D_Z57 : Defx P w K mg base "_law_free" 2 ["_law_pieces", "_law_at"] (spFreeL)) : Defx P w K mg base "_law_step" 14 ["_law_keeper", "_law_state", "_law_c"] (spStep Y10) := by
 refine S.okx sc_Z50 bi_Z50 (fun vs H Q E h => by revert h; walk_at "len") (fun f cdv A outer s H vs Q E hr h => ?_)
 refine ⟨_, PSs.nox (Xad (Xar (i := 3) sc_Z50.nd rfl (Or.inl rfl) (Xai Xbe (Xai Xbe (Xai Xdm (pv 2) Xac) Xac) Xac)) (Xad (Xar (i := 4) sc_Z50.nd rfl (Or.inl rfl) (Xai Xau Xac (Xai Xbe (Xai Xbe (Xai Xdm (pv 2) Xac) Xac) (Xaq Xbi (Xdi (Xaa Xac (Xaa Xac (Xaa Xac Xag)))) (Xai Xbe (pv 2) Xac) (fun _ _ => rfl))))) (Xad (Xar (i := 5) sc_Z50.nd rfl (Or.inl rfl) (Xai Xbe (Xai Xdm (pv 2) Xac) Xac)) (Xad (Xar (i := 6) sc_Z50.nd rfl (Or.inl rfl) (Xaq Xbi (Xdi (Xaa Xac (Xaa Xac (Xaa (Xai Xau Xac (Xai Xbe (pv 5) Xac)) (Xaa (Xai Xau Xac (Xai Xbe (pv 5) Xac)) (Xaa (Xai Xau Xac (Xai Xbe (pv 2) (Xai op_pow Xac Xac))) Xag)))))) (Xai Xbe (Xai Xbe (Xai Xdm (pv 2) Xac) Xac) Xac) (fun _ _ => rfl))) (Xad (Xar (i := 7) sc_Z50.nd rfl (Or.inl rfl) (pe_and (Xcv Xcw (pv 6) Xac (Xan _)) (Xgd (Xcv Xcw (Xai Xbe (Xai Xfw (pv 2) Xac) Xac) Xac (Xan _))))) (Xad (Xff (i := 8) ["_law_piece"] sc_Z50.nd rfl (Or.inl rfl) rfl (Xcg (Xaq Xap (pv 1) Xac (fun _ _ => rfl))) (fun cl C s₀ H₀ ex => (Xax (i := 0) (show ((["_law_piece"] : List Str) ++ ([] : List Str)).Nodup by decide +kernel) rfl (Or.inl rfl))) (fun cl C s₀ H₀ ex => (pts_one (pt_truthK (K := K) rfl (Xaq (Xes (K := K) rfl) (pv 0) Xac (fun _ _ => rfl)) (fun _ => rfl)))) (fun cl C s₀ H₀ ex => (pv 0)) ) (Xad (Xbn (PW.pt (Xdk (Xal Xfr (pv 3) Xac (Xan _)) (Xcr (PW.pt (Xda (Xcm (Xbm (pv 8) (fun _ => rfl))) (Xcu (Xal Xfr (pv 3) Xac (Xan _)))))))) (Xah (Xao (Xak D_Z58 hr (by rfl) (Xaa (pv 0) (Xaa (pv 1) (Xaa Xac (Xaa Xac (Xaa (pv 4) (Xaa (pv 6) (Xaa (pv 7) Xag)))))))))) Xat) (Xad (Xbn (PW.pt (Xda (Xal Xcw (pv 3) Xac (Xan _)) (Xcu (Xal op_gt (Xai Xbe (Xai Xfw (pv 2) Xac) Xac) Xac (Xan _))))) (Xad (Xbn (Xem (Xak D_Z54 hr (by rfl) (Xaa (pv 0) (Xaa (Xcv Xcw (Xai Xbe (Xai Xfw (pv 2) Xac) Xac) Xac (Xan _)) Xag)))) (Xah (Xao Xcn)) Xat) (Xah (Xao (pv 1)))) Xat) (Xad (Xbn (PW.pt (Xda (Xal Xcw (pv 3) Xac (Xan _)) (Xcu (Xal Xcw (Xai Xbe (Xai Xfw (pv 2) Xac) Xac) Xac (Xan _))))) (Xad (Xbq (Xcs D_Z65 Xbh hr (pv 0))) (Xah (Xao (Xci (Xaa (Xdi (Xaa (Xci (Xaa Xac (Xaa (Xai Xau (Xaq Xap (Xaq Xbi (Xaq Xap (pv 1) Xac (fun _ _ => rfl)) (pe_un Xeg Xac) (fun _ _ => rfl)) Xac (fun _ _ => rfl)) (Xaq Xap (Xaq Xbi (Xaq Xap (pv 1) Xac (fun _ _ => rfl)) (pe_un Xeg Xac) (fun _ _ => rfl)) Xac (fun _ _ => rfl))) (Xaa Xdt Xag)))) Xag)) (Xaa Xac Xag)))))) Xat) (Xad (Xbn (Xal Xcw (pv 3) Xac (Xan _)) (Xad (Xbq (Xbr D_lay Xbh hr (pv 0) (Xaa (Xak D_Z38 hr (by rfl) (Xaa (Xcs D_Z62 Xbh hr (pv 0)) (Xaa (Xaq Xap (pv 1) Xac (fun _ _ => rfl)) (Xaa (pv 2) Xag)))) Xag))) (Xah (Xao (Xci (Xaa (Xaq Xap (pv 1) Xac (fun _ _ => rfl)) (Xaa Xac Xag)))))) Xat) (Xad (Xar (i := 9) sc_Z50.nd rfl (Or.inl rfl) (Xaq Xap (Xaq Xbi (pv 8) (Xai Xbe (Xai Xbe (Xai Xdm (pv 2) Xac) Xac) (Xcc Xbp (by rfl) T.n_len PySem.boot_len (Xaa (pv 8) Xag))) (fun _ _ => rfl)) Xac (fun _ _ => rfl))) (Xad (Xbn (Xal Xcw (pv 3) Xac (Xan _)) (Xah (Xao (Xak D_Z53 hr (by rfl) (Xaa (pv 0) (Xaa (pv 1) (Xaa (pv 9) (Xaa (pv 4) (Xaa (pv 6) (Xaa (pv 7) Xag))))))))) Xat) (Xad (Xbq (Xbr D_Z67 Xbh hr (pv 0) (Xaa (Xai Xau (pv 9) Xac) Xag))) (Xah (Xao (Xci (Xaa (Xak D_Z57 hr (by rfl) (Xaa (Xaq Xap (pv 1) Xac (fun _ _ => rfl)) (Xaa (pv 9) Xag))) (Xaa (Xaq Xap (pv 1) Xac (fun _ _ => rfl)) Xag)))))))))))))))))), ?_⟩
 obtain ⟨r, x, dx, a, st, bb, cs, us, ps, c0, rfl, S, hst, hbb, pa, r0, hpos, q⟩ := h
 obtain ⟨hx, ha, hz, hc, mk, nj⟩ := id S
 have hul := pa.1
 have hple := hc.le
 have w0 := Int.emod_nonneg (c0 * 69621 % 32749) (show (8 : Int) ≠ 0 by decide)
 have w1 := Int.emod_lt_of_pos (c0 * 69621 % 32749) (show (0 : Int) < 8 by decide)
 have t0 := Int.emod_nonneg c0 (show (3 : Int) ≠ 0 by decide)
 have t1 := Int.emod_lt_of_pos c0 (show (0 : Int) < 3 by decide)
 have f0 := Int.emod_nonneg (c0 * 48271 % 65537) (show (5 : Int) ≠ 0 by decide)
 have f1 := Int.emod_lt_of_pos (c0 * 48271 % 65537) (show (0 : Int) < 5 by decide)
 have hm : 0 < ([8, 8, 40] : List Int).getD (c0 % 3).toNat 0 := by
   rcases (show (c0 % 3).toNat = 0 ∨ (c0 % 3).toNat = 1 ∨ (c0 % 3).toNat = 2 by omega) with h | h | h <;> rw [h] <;> decide
 walk_at "go"
 intro p1 np1
 have s1 : Same H (upd H p1 (.lst [.int 8, .int 8, .int 40])) := Same.new np1
 have hp1 : upd H p1 (.lst [.int 8, .int 8, .int 40]) p1 = some (.lst (([8, 8, 40] : List Int).map V.int)) := upd_same
 generalize upd H p1 (.lst [.int 8, .int 8, .int 40]) = H1 at s1 hp1 ⊢
 walk_at "go"
 obtain ⟨ct, ect, hct⟩ : ∃ ct : Int, 1 + c0 * 16807 % 10007 % ([8, 8, 40] : List Int).getD (c0 % 3).toNat 0 = ct ∧ 1 ≤ ct := ⟨_, rfl, by
   have := Int.emod_nonneg (c0 * 16807 % 10007) (show ([8, 8, 40] : List Int).getD (c0 % 3).toNat 0 ≠ 0 by omega)
   omega⟩
 rw [ect]
 obtain ⟨w, ew, w0', w1'⟩ : ∃ w : Int, c0 * 69621 % 32749 % 8 = w ∧ 0 ≤ w ∧ w < 8 := ⟨_, rfl, w0, w1⟩
 rw [ew]
 clear ect ew w0 w1 t0 t1 hm
 have b9 := Int.emod_nonneg (c0 * 40692 % 21013) (show (9 : Int) ≠ 0 by decide)
 have b60 := Int.emod_nonneg (c0 * 40692 % 21013) (show (60 : Int) ≠ 0 by decide)
 have b10 := Int.emod_nonneg c0 (show (10 : Int) ^ (60 : Int).toNat ≠ 0 by decide)
 have hBd : 1 ≤ ([1, 1, 1 + c0 * 40692 % 21013 % 9, 1 + c0 * 40692 % 21013 % 60, 1 + c0 % 10 ^ (60 : Int).toNat] : List Int).getD (c0 * 48271 % 65537 % 5).toNat 0 := by
   have hj : (c0 * 48271 % 65537 % 5).toNat < 5 := by omega
   generalize (c0 * 48271 % 65537 % 5).toNat = j at hj ⊢
   generalize c0 % 10 ^ (60 : Int).toNat = e10 at b10 ⊢
   rcases j with _ | _ | _ | _ | _ | j
   · exact Int.le_refl 1
   · exact Int.le_refl 1
   · show 1 ≤ 1 + c0 * 40692 % 21013 % 9
     omega
   · show 1 ≤ 1 + c0 * 40692 % 21013 % 60
     omega
   · show 1 ≤ 1 + e10
     omega
   · omega
 intro p2 np2
 have s2 : Same H (upd H1 p2 (.lst [.int 1, .int 1, .int (1 + c0 * 40692 % 21013 % 9), .int (1 + c0 * 40692 % 21013 % 60), .int (1 + c0 % 10 ^ (60 : Int).toNat)])) := s1.trans (Same.new np2)
 have hp2 : upd H1 p2 (.lst [.int 1, .int 1, .int (1 + c0 * 40692 % 21013 % 9), .int (1 + c0 * 40692 % 21013 % 60), .int (1 + c0 % 10 ^ (60 : Int).toNat)]) p2 = some (.lst (([1, 1, 1 + c0 * 40692 % 21013 % 9, 1 + c0 * 40692 % 21013 % 60, 1 + c0 % 10 ^ (60 : Int).toNat] : List Int).map V.int)) := upd_same
 generalize upd H1 p2 (.lst [.int 1, .int 1, .int (1 + c0 * 40692 % 21013 % 9), .int (1 + c0 * 40692 % 21013 % 60), .int (1 + c0 % 10 ^ (60 : Int).toNat)]) = H2 at s2 hp2 ⊢
 walk_at "ga"
 generalize ([1, 1, 1 + c0 * 40692 % 21013 % 9, 1 + c0 * 40692 % 21013 % 60, 1 + c0 % 10 ^ (60 : Int).toNat] : List Int).getD (c0 * 48271 % 65537 % 5).toNat 0 = bd at hBd ⊢
 clear hp1 hp2 s1 np1 np2 b9 b60 b10 f0 f1
 refine r_pick (fun B => B = true → bd = 1) (fun Q' hQ' => ?_) (fun B hbr => ?_)
 · walk_at "go"
   refine Xce (fun h => ?_) (fun h => ?_)
   · walk_at "go"
     exact hQ' _ (fun _ => h)
   · exact hQ' _ (fun z => by cases z)
 have hst2 := s2 st _ hst
 have hbb2 := s2 bb _ hbb
 have pa2 := pa.same s2
 walk_at "go"
 refine ⟨bb, rfl, ⟨_, SqL.of hbb2⟩, Xde (K := K) (a := bb) (xs := us) (fs := []) (LvW H2 ps) (fun D hD => ⟨Same.new hD, upd_same, Xas.nil, Nat.le_refl _⟩) (fun D i ys H2 _ h => SqL.of (h.1 bb _ hbb2)) ?_ ?_⟩
 · rintro D i y ys H5 hD hi ⟨s5, hD5, py, hyl⟩ τ hτ
   have hil : i < us.length := (List.getElem?_eq_some_iff.mp hi).1
   obtain ⟨t, z, rfl, hz1, hT⟩ := Xcz (pa2.same s5) hi
   have hfl := take_succ_filter (fun p : Pc => p.v) ps i z hz1
   match τ, hτ with
   | [τ0], _ =>
     walk_at "go"
     refine ⟨⟨[_], rfl, rfl⟩, ?_⟩
     walk_at "go"
     refine Xdy (fun hv => ?_) (fun hv => ?_)
     · rw [if_pos hv] at hfl
       walk_at "go"
       refine ⟨hD5, small4000 (by omega), nx_mk hil ⟨s5.put hD, upd_same, ?_, by rw [List.length_append, List.length_singleton]; omega⟩⟩
       rw [hfl]
       exact (py.mono (Xeh (o := .lst (ys ++ [.ref t])) (.inr ⟨_, hD5⟩))).snoc (look_tup hD5 hT)
     · rw [if_neg (by rw [hv]; exact Bool.false_ne_true), List.append_nil] at hfl
       exact nx_mk hil ⟨s5, hD5, by rw [hfl]; exact py, by omega⟩
 rintro D ys H3 hD ⟨s3', hD3, py, hyl⟩
 rw [List.take_of_length_le (by omega)] at py
 have s3 := s2.trans s3'
 have S3 := S.same s3
 have q3 := q.of s3
 have hx3 := S3.hx
 have ha3 := S3.ha
 have hst3 := s3 st _ hst
 have hbb3 := s3 bb _ hbb
 have pa3 := pa.same s3
 clear s2 s3' hst2 hbb2 pa2 hst hbb pa q S hx ha hD s3
 have new : spNew Y10 [.ref x, .ref st, .int 0, .int 0, .int ct, .int bd, .bl B] H3 Q E := ⟨0, 0, r, x, dx, a, st, bb, cs, us, ps, ct, bd, B, rfl, S3, hst3, hbb3, pa3, r0, hct, hBd, hbr, .inl rfl, q3⟩
 have hsx : st ≠ x := fun e => by rw [e, hx3] at hst3; cases hst3
 have hbx : bb ≠ x := fun e => by rw [e, hx3] at hbb3; cases hbb3
 walk_at "gs"
 refine r_seqM (M := fun σ' H' => H3 = H' ∧ σ' = [some (.ref x), some (.ref st), some (.int c0), some (.int w), some (.int ct), some (.int (c0 * 40692 % 21013)), some (.int bd), some (.bl B), some (.ref D), none] ∧ ¬ w < 4 ∧ (ys = [] → w = 7)) ?_ (fun nx hM => ?_)
 rotate_left
 · by_cases h4 : w < 4
   · walk_at "go"
     exact new
   · cases hys : ys with
     | nil =>
       rw [hys] at hD3
       walk_at "go"
       refine iteT ?_
       walk_at "go"
       refine Xce (fun h7 => ?_) (fun h7 => ?_)
       · walk_at "go"
         exact new
       · walk_at "go"
         exact hM _ _ ⟨rfl, rfl, h4, fun _ => by omega⟩
     | cons y0 yr =>
       rw [hys] at hD3
       walk_at "go"
       refine iteF ?_
       walk_at "go"
       exact hM _ _ ⟨rfl, rfl, h4, fun z => by rw [hys] at z; cases z⟩
 rintro σ' H' ⟨rfl, rfl, h4, h7⟩
 clear new
 by_cases hw7 : w = 7
 · subst hw7
   by_cases hd : 1 < c0 / 8 % 4
   · walk_at "go"
     refine ⟨r, x, dx, a, cs, ps, _, rfl, S3, hpos, fun H4 s4 => ?_⟩
     walk_at "go"
     exact q3 a st bb r cs us ps H4 (Xay.of s4) (.inl rfl) rfl (S3.same s4) (s4 st _ hst3) (s4 bb _ hbb3) (pa3.same s4) r0
   · have d0 := Int.emod_nonneg (c0 / 8) (show (4 : Int) ≠ 0 by decide)
     by_cases hd0 : c0 / 8 % 4 = 0
     · walk_at "go"
       refine ⟨r, x, dx, a, cs, rfl, hx3, ha3, hpos, hz, fun a' cs' H4 na4 k4 l4 S4 => ?_⟩
       have hst4 := k4 st _ hsx hst3
       have hbb4 := k4 bb _ hbx hbb3
       have pa4 : Xas H4 us ps := pa3.mono fun d xs h => k4 d _ (fun w => by rw [w, hx3] at h; cases h) h
       rcases Xbk ps with e0 | ⟨D0, y, e0⟩
       · rw [e0] at hc
         have : (0 : Int) = cs.length := hc
         omega
       · rw [e0] at pa4 hc
         obtain ⟨ui, t, e1, pi, hT⟩ := pa4.unsnoc
         rw [e1] at hbb4
         obtain ⟨_, y1, _, y2⟩ := hc.unsnoc
         walk_at "go"
         refine Xdb (SqL.of hbb4) ?_
         walk_at "go"
         refine Xdb (SqL.of hbb4) ?_
         walk_at "go"
         rw [y2]
         intro t5 ht5
         walk_at "go"
         intro l5 hl5
         walk_at "go"
         intro t6 ht6
         have s7 := ((Same.new (o := .tup [.int 0, .int cs.length, .bl false]) ht5).trans (Same.new (o := .lst [.ref t5]) hl5)).trans (Same.new (o := .tup [.ref l5, .int 0]) ht6)
         exact q3 a' t6 l5 0 cs' [.ref t5] [⟨0, cs.length, false⟩] _ (k4.trans (Xay.of s7)) (.inr na4) l4 (S4.same s7) upd_same ((Same.new ht6) l5 _ upd_same) (Xas.nil.snoc (p := ⟨0, cs.length, false⟩) ((Same.new ht6) t5 _ ((Same.new hl5) t5 _ upd_same))) (by omega)
     · walk_at "go"
       refine ⟨r, x, dx, a, cs, rfl, hx3, ha3, fun p5 H5 np5 s5 hp5 => ?_⟩
       have hst5 := s5 st _ hst3
       walk_at "go"
       refine ⟨p5, bb, cs, us, ps, c0, rfl, hp5, s5 bb _ hbb3, pa3.same s5, hc, mk, nj, hz, fun cs' ps' H6 k6 hp6 l6 hc6 mk6 hj6 => ?_⟩
       have k36 : ∀ (d : Addr) (o : HO), H3 d = some o → H6 d = some o := fun d o h => k6 d o (fun e => by rw [e, np5] at h; cases h) (s5 d o h)
       have hx6 := k36 x _ hx3
       have hc6' : Xam 0 ps' cs'.length := by rw [l6]; exact hc6
       have hw6 := Xbl hc6' mk6
       walk_at "go"
       refine ⟨r, x, p5, dx, a, cs, cs', rfl, hx6, k36 a _ ha3, SqL.of hp6, by omega, by omega, fun hn => absurd l6 hn, (fun _ b hb => by rw [hw6] at hb; cases hb), fun _ qs hq => ?_⟩
       have eq : ps' = qs := by rw [hw6] at hq; exact (Prod.mk.inj hq).1
       subst eq
       refine ⟨hc6', fun a' H7 na7 k7 hx7 ha7 => ?_⟩
       rw [hj6] at ha7
       have k37 : Xay x H3 H7 := fun d o hne h => k7 d o hne (k36 d o h)
       have hst7 := k37 st _ hsx hst3
       have hbb7 := k37 bb _ hbx hbb3
       have pa7 : Xas H7 us ps := pa3.mono fun d xs h => k37 d _ (fun w => by rw [w, hx3] at h; cases h) h
       have mk7 := Xej (ds := []) (rs := ps) (m := 0) (cs := cs') rfl (by rw [l6]; exact hc) (Xbc.nil _)
       have ll : (Xdh cs' ps).length = cs.length := by rw [Xdf, l6]
       have na3 : H3 a' = none := by
         cases e : H3 a' with
         | none => rfl
         | some o => have := k36 a' o e; rw [na7] at this; cases this
       walk_at "go"
       intro t6 ht6
       have s8 := Same.new (o := .tup [.ref bb, .int 0]) ht6
       exact q3 a' t6 bb 0 _ us ps _ (k37.trans (Xay.of s8)) (.inr na3) ll ⟨s8 x _ hx7, s8 a' _ ha7, by rw [ll]; exact hz, by rw [ll]; exact hc, mk7, nj⟩ upd_same (s8 bb _ hbb7) (pa7.same s8) (by omega)
 · have hyne : ys ≠ [] := fun e => hw7 (h7 e)
   have hyl0 : 0 < ys.length := List.length_pos_iff.mpr hyne
   have i0 := Int.emod_nonneg (c0 * 39373 % 28657) (show (ys.length : Int) ≠ 0 by omega)
   have i1 := Int.emod_lt_of_pos (c0 * 39373 % 28657) (show (0 : Int) < ys.length by omega)
   walk_at "go"
   obtain ⟨t, z, et, hz1, hT⟩ := py.at i0 i1
   refine r_ixL (SqL.of hD3) et ?_
   obtain ⟨hzm, hzv⟩ := List.mem_filter.mp (List.mem_of_getElem? hz1)
   have hzv : z.v = true := hzv
   obtain ⟨i, hi⟩ := List.getElem?_of_mem hzm
   clear hz1 i0 i1 et
   by_cases h6 : w = 6
   · walk_at "go"
     exact ⟨r, x, dx, a, st, bb, cs, us, ps, i, z, ct, bd, B, rfl, S3, hst3, hbb3, pa3, r0, hct, hBd, hbr, hi, hzv, q3⟩
   · walk_at "go"
     refine ⟨r, x, dx, a, cs, ps, i, z, rfl, S3, hi, hzv, fun a' cs' H4 na4 k4 l4 S4 => ?_⟩
     have hst4 := k4 st _ hsx hst3
     have hbb4 := k4 bb _ hbx hbb3
     have pa4 : Xas H4 us ps := pa3.mono fun d xs h => k4 d _ (fun w => by rw [w, hx3] at h; cases h) h
     walk_at "go"
     refine ⟨bb, us, ps, z.a, rfl, hbb4, pa4, by omega, fun p5 ws H5 np5 s5 hp5 pw5 => ?_⟩
     have hst5 := s5 st _ hst4
     walk_at "go"
     intro t6 ht6
     have s6 := s5.trans (Same.new (o := .tup [.ref p5, .int r]) ht6)
     exact q3 a' t6 p5 r cs' ws _ _ (k4.trans (Xay.of s6)) (.inr na4) l4 (S4.same s6) upd_same ((Same.new ht6) p5 _ hp5) (pw5.same (Same.new ht6)) r0
theorem seq_at {K : PySem.W.Frag} {H H' : Hp} {a : Addr} {xs : List V} (h : SqL K H a xs) (k : ∀ o, H a = some o → H' a = some o) : SqL K H' a xs := by
 rcases h with h | h
 · rcases h with h | ⟨o, h⟩
   · exact .inl (.inl (k _ h))
   · exact .inl (.inr ⟨o, k _ h⟩)
 · exact .inr h
theorem pcs_ne {H : Hp} {p a : Addr} {us : List V} {ps : List Pc} {cs : List Int} {n : Int} (hp : H p = some (.lst us)) (ha : H a = some (.lst (cs.map V.int))) (pa : Xas H us ps) (ch : Xam 0 ps n) (hn : 1 ≤ n) : p ≠ a := fun w => by
 rw [w, ha] at hp
 have e := HO.lst.inj (Option.some.inj hp)
 cases ps with
 | nil =>
   have : (0 : Int) = n := ch
   omega
 | cons z r =>
   have h0 : 0 < us.length := by rw [pa.1, List.length_cons]; omega
   obtain ⟨t, z', e1, _, _⟩ := Xcz pa (List.getElem?_eq_getElem h0)
   have : us[0]? = some (.ref t) := by rw [List.getElem?_eq_getElem h0, e1]
   rw [← e, List.getElem?_map] at this
   obtain ⟨c, _, h2⟩ := Option.map_eq_some_iff.mp this
   cases h2
def LwW (C : Addr) (f0 f1 : Option V) (x dx q1 : Addr) (zs : List Int) (n : Nat) (i : Nat) (σ : L2.St) (H' : Hp) : Prop :=
 ∃ (a st bb : Addr) (r : Int) (cs : List Int) (us : List V) (ps : List Pc) (x4 x5 : Option V), σ = [f0, f1, some (.ref x), some (.ref st), x4, x5] ∧ H' q1 = some (.lst (zs.map V.int)) ∧ a ≠ q1 ∧ NxS C x dx a r cs ps H' ∧ cs.length = n ∧ H' st = some (.tup [.ref bb, .int r]) ∧ H' bb = some (.lst us) ∧ Xas H' us ps ∧ 0 ≤ r
theorem ok_law {f : Addr} {fd : FuncData} (F : Fun K "law" "law" s_law f fd) (T : Txt K mg Y0 Y8 Y4 Y3 Y6 Y9 Y2 Y7 Y5 Y1 Y10 W0_ W1_) (D_Z30 : Defx P w K mg base "_law_cell_at" 1 ["_law_script", "_law_k"] (spCell K)) (D_Next : Makex P w K mg base "Next" Y10 4 ["self", "size"] [] (spMkN Y10)) (D_Z61 : Defx P w K mg base "_law_put" 10 ["_law_keeper", "_law_pieces", "_law_c"] (spPutL Y10)) (D_Z44 : Defx P w K mg base "_law_looks" 7 ["_law_keeper", "_law_state", "_law_c"] (spLooksL Y10)) (D_Z50 : Defx P w K mg base "_law_step" 14 ["_law_keeper", "_law_state", "_law_c"] (spStep Y10)) (D_Z51 : Methx P w K mg base Y10 "pieces" 5 ["self"] [] (spPiecesK Y10)) (D_Z64 : Methx P w K mg base Y10 "rover" 1 ["self"] [] (spRover Y10)) (D_Z45 : Defx P w K mg base "_law_whole" 1 ["_law_found"] (Xfz)) : FnOk P w K mg base (CXe P w) 15 f fd ["_law_script"] (spLaw K) := by
 refine Xbz F sc_law (fun vs H Q E h => by revert h; walk_at "len") (fun cdv A outer s H vs Q E hr h => ?_)
 refine ⟨_, PSs.nox (Xad (Xar (i := 1) sc_law.nd rfl (Or.inl rfl) (Xai Xau Xac (Xai Xbe (Xak D_Z30 hr (by rfl) (Xaa (pv 0) (Xaa Xac Xag))) Xac))) (Xad (Xbn (Xal Xcw (Xai Xbe (Xai Xfw (Xak D_Z30 hr (by rfl) (Xaa (pv 0) (Xaa Xac Xag))) Xac) Xac) Xac (Xan _)) (Xah (Xar (i := 1) sc_law.nd rfl (Or.inl rfl) (Xai Xau Xac (Xai Xbe (Xai Xfw (Xak D_Z30 hr (by rfl) (Xaa (pv 0) (Xaa Xac Xag))) Xac) Xac)))) Xat) (Xad (Xar (i := 2) sc_law.nd rfl (Or.inl rfl) (pe_makep D_Next Xbh hr (by rfl) (Xaa (pv 1) Xag))) (Xad (Xar (i := 3) sc_law.nd rfl (Or.inl rfl) (Xci (Xaa (Xdi (Xaa (Xci (Xaa Xac (Xaa (pv 1) (Xaa Xdt Xag)))) Xag)) (Xaa Xac Xag)))) (Xad (Xew PassesOwn.never rfl (Xcg (Xfi sl_list (pv 0) (Xfh Xac) (Xfh Xac))) (Xax (i := 4) sc_law.nd rfl (Or.inl rfl)) (Xad (Xbn (PW.pt (Xdk (Xcm (Xem (Xak D_Z61 hr (by rfl) (Xaa (pv 2) (Xaa (Xaq Xap (pv 3) Xac (fun _ _ => rfl)) (Xaa (pv 4) Xag)))))) (Xcr (Xcm (Xem (Xak D_Z44 hr (by rfl) (Xaa (pv 2) (Xaa (pv 3) (Xaa (pv 4) Xag))))))))) (Xah (Xao Xdt)) Xat) (Xad (Xar (i := 3) sc_law.nd rfl (Or.inl rfl) (Xak D_Z50 hr (by rfl) (Xaa (pv 2) (Xaa (pv 3) (Xaa (pv 4) Xag))))) (Xad (Xbn (PW.pt (Xdk (Xal op_isN (pv 3) Xcn (Xan _)) (Xcr (Xal (op_neLP hr.units) (Xcs D_Z51 Xbh hr (pv 2)) (Xaq Xap (pv 3) Xac (fun _ _ => rfl)) (Xan _))))) (Xah (Xao Xdt)) Xat) (Xad (Xar (i := 5) sc_law.nd rfl (Or.inl rfl) (Xcs D_Z64 Xbh hr (pv 2))) (Xah (Xbn (PW.pt (Xdk (Xcm (Xem (Xak D_Z45 hr (by rfl) (Xaa (pv 5) Xag)))) (Xdk (Xal op_ne (pv 5) (Xaq Xap (pv 3) Xac (fun _ _ => rfl)) (Xan _)) (Xcr (Xcm (Xem (Xak D_Z44 hr (by rfl) (Xaa (pv 2) (Xaa (pv 3) (Xaa (pv 4) Xag)))))))))) (Xah (Xao Xdt)) Xat))))))) (Xah (Xao (pe_and (Xcv (op_eqLP hr.units) (Xcs D_Z51 Xbh hr (pv 2)) (Xaq Xap (pv 3) Xac (fun _ _ => rfl)) (Xan _)) (Xgd (Xcv Xcw (Xcs D_Z64 Xbh hr (pv 2)) (Xaq Xap (pv 3) Xac (fun _ _ => rfl)) (Xan _))))))))))), ?_⟩
 obtain ⟨sc, ns, rfl, hS, hlen, kk⟩ := h
 have v0 := Int.emod_nonneg (ns.getD (0 : Int).toNat 0) (show (60 : Int) ≠ 0 by decide)
 have v1 := Int.emod_lt_of_pos (ns.getD (0 : Int).toNat 0) (show (0 : Int) < 60 by decide)
 have u0 := Int.emod_nonneg (ns.getD (0 : Int).toNat 0 / 480) (show (300 : Int) ≠ 0 by decide)
 have u1 := Int.emod_lt_of_pos (ns.getD (0 : Int).toNat 0 / 480) (show (0 : Int) < 300 by decide)
 walk_at "gs"
 refine r_seqM (M := fun σ' H' => H = H' ∧ ∃ n : Int, 1 ≤ n ∧ n ≤ 300 ∧ σ' = [some (.ref sc), some (.int n), none, none, none, none]) ?_ (fun nx hM => ?_)
 rotate_left
 · walk_at "go"
   refine Xce (fun h1 => ?_) (fun h1 => ?_)
   · walk_at "go"
     exact hM _ _ ⟨rfl, _, by omega, by omega, rfl⟩
   · walk_at "go"
     exact hM _ _ ⟨rfl, _, by omega, by omega, rfl⟩
 rintro σ' H' ⟨rfl, n, n1, n2, rfl⟩
 clear v0 v1 u0 u1
 walk_at "go"
 intro x dx nx ndx nex
 have s6 : Same H (upd (upd H dx (.own x)) x (.ins Y10 dx [])) := (Same.new ndx).put nx
 have hx6 : upd (upd H dx (.own x)) x (.ins Y10 dx []) x = some (.ins Y10 dx []) := upd_same
 generalize upd (upd H dx (.own x)) x (.ins Y10 dx []) = H6 at s6 hx6 ⊢
 refine ⟨x, dx, n, rfl, hx6, n1, by omega, fun a H7 na7 k7 hx7 ha7 => ⟨rfl, ?_⟩⟩
 have hS7 : SqL K H7 sc (ns.map V.int) := seq_at hS fun o h => k7 sc o (Xaw h nx) (s6 sc o h)
 obtain ⟨f1, f2⟩ := fresh_marks n1
 have fl := Xfv (show 0 ≤ n by omega)
 have S7 : NxS Y10 x dx a 0 (Xdr n) [⟨0, n, false⟩] H7 := ⟨hx7, ha7, by omega, f1, f2, Xct _⟩
 clear s6 hx6 k7 na7 hS nx ndx nex hx7 ha7
 walk_at "go"
 intro t1 ht1
 walk_at "go"
 intro l1 hl1
 walk_at "go"
 intro t2 ht2
 have s8 := ((Same.new (o := .tup [.int 0, .int n, .bl false]) ht1).trans (Same.new (o := .lst [.ref t1]) hl1)).trans (Same.new (o := .tup [.ref l1, .int 0]) ht2)
 have hst8 : upd (upd (upd H7 t1 (.tup [.int 0, .int n, .bl false])) l1 (.lst [.ref t1])) t2 (.tup [.ref l1, .int 0]) t2 = some (.tup [.ref l1, .int 0]) := upd_same
 have hbb8 : upd (upd (upd H7 t1 (.tup [.int 0, .int n, .bl false])) l1 (.lst [.ref t1])) t2 (.tup [.ref l1, .int 0]) l1 = some (.lst [.ref t1]) := (Same.new ht2) l1 _ upd_same
 have pa8 : Xas (upd (upd (upd H7 t1 (.tup [.int 0, .int n, .bl false])) l1 (.lst [.ref t1])) t2 (.tup [.ref l1, .int 0])) [.ref t1] [⟨0, n, false⟩] := Xas.nil.snoc (p := ⟨0, n, false⟩) ((Same.new ht2) t1 _ ((Same.new hl1) t1 _ upd_same))
 generalize upd (upd (upd H7 t1 (.tup [.int 0, .int n, .bl false])) l1 (.lst [.ref t1])) t2 (.tup [.ref l1, .int 0]) = H8 at s8 hst8 hbb8 pa8 ⊢
 have S8 := S7.same s8
 have hS8 := s8.seq hS7
 clear s8 S7 hS7 ht1 hl1 ht2
 walk_at "go"
 intro q1 H9 mq1 s9 hq1
 have S9 := S8.same s9
 have hst9 := s9 t2 _ hst8
 have hbb9 := s9 l1 _ hbb8
 have pa9 := pa8.same s9
 have naq : a ≠ q1 := fun e => by rw [← e, S8.ha] at mq1; cases mq1
 generalize cutI ns (some 1) (some 41) = zs at hq1 ⊢
 clear S8 hst8 hbb8 pa8 hS8 mq1 s9
 refine ⟨q1, rfl, ⟨_, SqL.of hq1⟩, Xcp (K := K) (a := q1) (xs := zs.map V.int) (LwW Y10 (some (.ref sc)) (some (.int n)) x dx q1 zs (Xdr n).length) ⟨a, t2, l1, 0, _, _, _, none, none, rfl, hq1, naq, S9, rfl, hst9, hbb9, pa9, Int.le_refl 0⟩ (fun i σ H2 _ ⟨_, _, _, _, _, _, _, _, _, _, h, _⟩ => SqL.of h) ?_ ?_⟩
 · rintro i y σ H2 hi ⟨a, st, bb, r, cs, us, ps, x4, x5, rfl, hq2, naq, S, hl, hst, hbb, pa, r0⟩
   rw [List.getElem?_map] at hi
   obtain ⟨c0, hc0, rfl⟩ := Option.map_eq_some_iff.mp hi
   have hx := S.hx
   have hpos : 1 ≤ cs.length := by omega
   walk_at "go"
   refine ⟨r, x, dx, a, bb, cs, us, ps, c0, rfl, S, hbb, pa, fun cs' H3 l3 k3 S3 => ?_⟩
   have hba := pcs_ne hbb S.ha pa S.hc (by omega)
   have hsa : st ≠ a := fun e => by rw [e, S.ha] at hst; cases hst
   have hq3 := k3 q1 _ (Ne.symm naq) hq2
   have hst3 := k3 st _ hsa hst
   have hbb3 := k3 bb _ hba hbb
   have pa3 : Xas H3 us ps := pa.mono fun d xs h => k3 d _ (fun w => by rw [w, S.ha] at h; cases h) h
   have hx3 := S3.hx
   clear S hst hbb pa hq2 k3 hx
   walk_at "go"
   refine ⟨r, x, dx, a, st, bb, cs', us, ps, c0, rfl, S3, hst3, hbb3, pa3, fun H4 s4 => ?_⟩
   have S4 := S3.same s4
   have hst4 := s4 st _ hst3
   have hbb4 := s4 bb _ hbb3
   have pa4 := pa3.same s4
   have hq4 := s4 q1 _ hq3
   have hx4 := S4.hx
   clear S3 hst3 hbb3 pa3 hq3 s4 hx3
   walk_at "go"
   refine ⟨r, x, dx, a, st, bb, cs', us, ps, c0, rfl, S4, hst4, hbb4, pa4, r0, by omega, fun a' st' b' r' cs'' us' qs H5 k5 ha5 l5 S5 hst5 hbb5 pa5 r5 => ?_⟩
   have hqx : q1 ≠ x := fun e => by rw [e, hx4] at hq4; cases hq4
   have hq5 := k5 q1 _ hqx hq4
   have naq' : a' ≠ q1 := by
     rcases ha5 with e | e
     · rw [e]; exact naq
     · exact fun w => by rw [w, hq4] at e; cases e
   have hx5 := S5.hx
   clear S4 hst4 hbb4 pa4 hq4 k5 ha5 hx4
   walk_at "go"
   refine ⟨r', x, dx, a', cs'', qs, rfl, S5, fun p6 us6 H6 np6 s6 hp6 pa6 => ?_⟩
   have S6 := S5.same s6
   have hst6 := s6 st' _ hst5
   have hbb6 := s6 b' _ hbb5
   have pb6 := pa5.same s6
   have hq6 := s6 q1 _ hq5
   have hx6 := S6.hx
   clear S5 hst5 hbb5 pa5 hq5 s6 hx5
   walk_at "go"
   refine ⟨p6, b', us6, us', qs, rfl, rfl, hp6, hbb6, pa6, pb6, ?_⟩
   walk_at "go"
   refine ⟨r', x, dx, a', rfl, hx6, ?_⟩
   walk_at "go"
   refine ⟨r', x, dx, a', st', b', cs'', us', qs, c0, rfl, S6, hst6, hbb6, pb6, fun H7 s7 => ?_⟩
   walk_at "go"
   exact ⟨a', st', b', r', cs'', us', qs, _, _, rfl, s7 q1 _ hq6, naq', S6.same s7, by omega, s7 st' _ hst6, s7 b' _ hbb6, pb6.same s7, r5⟩
 · rintro σ H2 ⟨a, st, bb, r, cs, us, ps, x4, x5, rfl, hq2, naq, S, hl, hst, hbb, pa, r0⟩
   have hx := S.hx
   walk_at "go"
   refine ⟨r, x, dx, a, cs, ps, rfl, S, fun p6 us6 H6 np6 s6 hp6 pa6 => ?_⟩
   have hst6 := s6 st _ hst
   have hbb6 := s6 bb _ hbb
   have pb6 := pa.same s6
   have hx6 := s6 x _ hx
   walk_at "go"
   refine ⟨p6, bb, us6, us, ps, rfl, rfl, hp6, hbb6, pa6, pb6, ?_⟩
   walk_at "go"
   refine ⟨r, x, dx, a, rfl, hx6, ?_⟩
   walk_at "go"
   first | exact kk _ | (rw [decide_eq_true rfl]; exact kk _)
end
theorem all_mk {l : PySem.W.OpenLaw} {w : World} {K : PySem.W.Frag} {h : Heap} {mg : Str → Option Value} {fa : Addr} (X : K.In h) (G : h.Ns mainGlobals mg) (hfa : mg "law" = some (.ref fa))
   {f_Z32 : Addr} {oc_Z32 kV_Z32 dc_Z32 pm_Z32 cd_Z32 ct_Z32 : Value} {od_Z32 an_Z32 : Option Addr} {sl_Z32 : Array (Option Value)}
   (a_Z32 : PySem.W.nsIn K mainGlobals "check_ask" = some (some (.ref f_Z32)))
   (l_Z32 : K.lookup f_Z32 = some ⟨oc_Z32, od_Z32, .func (PySem.W.fnOf "check_ask" "check_ask" (Xaf s_Z32) (Xae s_Z32) (Xab s_Z32) .none kV_Z32 dc_Z32 pm_Z32 an_Z32 cd_Z32 ct_Z32), sl_Z32⟩)
   (c_Z32 : PySem.W.codeIn K cd_Z32 "check_ask" = true)
   (k_Z32 : PySem.W.keepIn K (.ref f_Z32) = true)
   {f_Z4 : Addr} {oc_Z4 kV_Z4 dc_Z4 pm_Z4 cd_Z4 ct_Z4 : Value} {od_Z4 an_Z4 : Option Addr} {sl_Z4 : Array (Option Value)}
   (a_Z4 : PySem.W.nsIn K mainGlobals "check_plain_ask" = some (some (.ref f_Z4)))
   (l_Z4 : K.lookup f_Z4 = some ⟨oc_Z4, od_Z4, .func (PySem.W.fnOf "check_plain_ask" "check_plain_ask" (Xaf s_Z4) (Xae s_Z4) (Xab s_Z4) .none kV_Z4 dc_Z4 pm_Z4 an_Z4 cd_Z4 ct_Z4), sl_Z4⟩)
   (c_Z4 : PySem.W.codeIn K cd_Z4 "check_plain_ask" = true)
   (k_Z4 : PySem.W.keepIn K (.ref f_Z4) = true)
   {f_Z40 : Addr} {oc_Z40 kV_Z40 dc_Z40 pm_Z40 cd_Z40 ct_Z40 : Value} {od_Z40 an_Z40 : Option Addr} {sl_Z40 : Array (Option Value)}
   (a_Z40 : PySem.W.nsIn K mainGlobals "mark_of" = some (some (.ref f_Z40)))
   (l_Z40 : K.lookup f_Z40 = some ⟨oc_Z40, od_Z40, .func (PySem.W.fnOf "mark_of" "mark_of" (Xaf s_Z40) (Xae s_Z40) (Xab s_Z40) .none kV_Z40 dc_Z40 pm_Z40 an_Z40 cd_Z40 ct_Z40), sl_Z40⟩)
   (c_Z40 : PySem.W.codeIn K cd_Z40 "mark_of" = true)
   (k_Z40 : PySem.W.keepIn K (.ref f_Z40) = true)
   {f_Z43 : Addr} {oc_Z43 kV_Z43 dc_Z43 pm_Z43 cd_Z43 ct_Z43 : Value} {od_Z43 an_Z43 : Option Addr} {sl_Z43 : Array (Option Value)}
   (a_Z43 : PySem.W.nsIn K mainGlobals "long_of" = some (some (.ref f_Z43)))
   (l_Z43 : K.lookup f_Z43 = some ⟨oc_Z43, od_Z43, .func (PySem.W.fnOf "long_of" "long_of" (Xaf s_Z43) (Xae s_Z43) (Xab s_Z43) .none kV_Z43 dc_Z43 pm_Z43 an_Z43 cd_Z43 ct_Z43), sl_Z43⟩)
   (c_Z43 : PySem.W.codeIn K cd_Z43 "long_of" = true)
   (k_Z43 : PySem.W.keepIn K (.ref f_Z43) = true)
   {f_Z42 : Addr} {oc_Z42 kV_Z42 dc_Z42 pm_Z42 cd_Z42 ct_Z42 : Value} {od_Z42 an_Z42 : Option Addr} {sl_Z42 : Array (Option Value)}
   (a_Z42 : PySem.W.nsIn K mainGlobals "live_of" = some (some (.ref f_Z42)))
   (l_Z42 : K.lookup f_Z42 = some ⟨oc_Z42, od_Z42, .func (PySem.W.fnOf "live_of" "live_of" (Xaf s_Z42) (Xae s_Z42) (Xab s_Z42) .none kV_Z42 dc_Z42 pm_Z42 an_Z42 cd_Z42 ct_Z42), sl_Z42⟩)
   (c_Z42 : PySem.W.codeIn K cd_Z42 "live_of" = true)
   (k_Z42 : PySem.W.keepIn K (.ref f_Z42) = true)
   {f_Z33 : Addr} {oc_Z33 kV_Z33 dc_Z33 pm_Z33 cd_Z33 ct_Z33 : Value} {od_Z33 an_Z33 : Option Addr} {sl_Z33 : Array (Option Value)}
   (a_Z33 : PySem.W.nsIn K mainGlobals "can_begin" = some (some (.ref f_Z33)))
   (l_Z33 : K.lookup f_Z33 = some ⟨oc_Z33, od_Z33, .func (PySem.W.fnOf "can_begin" "can_begin" (Xaf s_Z33) (Xae s_Z33) (Xab s_Z33) .none kV_Z33 dc_Z33 pm_Z33 an_Z33 cd_Z33 ct_Z33), sl_Z33⟩)
   (c_Z33 : PySem.W.codeIn K cd_Z33 "can_begin" = true)
   (k_Z33 : PySem.W.keepIn K (.ref f_Z33) = true)
   {f_Z14 : Addr} {oc_Z14 kV_Z14 dc_Z14 pm_Z14 cd_Z14 ct_Z14 : Value} {od_Z14 an_Z14 : Option Addr} {sl_Z14 : Array (Option Value)}
   (a_Z14 : PySem.W.nsIn K mainGlobals "bad_of_piece" = some (some (.ref f_Z14)))
   (l_Z14 : K.lookup f_Z14 = some ⟨oc_Z14, od_Z14, .func (PySem.W.fnOf "bad_of_piece" "bad_of_piece" (Xaf s_Z14) (Xae s_Z14) (Xab s_Z14) .none kV_Z14 dc_Z14 pm_Z14 an_Z14 cd_Z14 ct_Z14), sl_Z14⟩)
   (c_Z14 : PySem.W.codeIn K cd_Z14 "bad_of_piece" = true)
   (k_Z14 : PySem.W.keepIn K (.ref f_Z14) = true)
   {f_Z52 : Addr} {oc_Z52 kV_Z52 dc_Z52 pm_Z52 cd_Z52 ct_Z52 : Value} {od_Z52 an_Z52 : Option Addr} {sl_Z52 : Array (Option Value)}
   (a_Z52 : PySem.W.nsIn K mainGlobals "looked" = some (some (.ref f_Z52)))
   (l_Z52 : K.lookup f_Z52 = some ⟨oc_Z52, od_Z52, .func (PySem.W.fnOf "looked" "looked" (Xaf s_Z52) (Xae s_Z52) (Xab s_Z52) .none kV_Z52 dc_Z52 pm_Z52 an_Z52 cd_Z52 ct_Z52), sl_Z52⟩)
   (c_Z52 : PySem.W.codeIn K cd_Z52 "looked" = true)
   (k_Z52 : PySem.W.keepIn K (.ref f_Z52) = true)
   {f_Z28 : Addr} {oc_Z28 kV_Z28 dc_Z28 pm_Z28 cd_Z28 ct_Z28 : Value} {od_Z28 an_Z28 : Option Addr} {sl_Z28 : Array (Option Value)}
   (a_Z28 : PySem.W.nsIn K mainGlobals "fresh_room" = some (some (.ref f_Z28)))
   (l_Z28 : K.lookup f_Z28 = some ⟨oc_Z28, od_Z28, .func (PySem.W.fnOf "fresh_room" "fresh_room" (Xaf s_Z28) (Xae s_Z28) (Xab s_Z28) .none kV_Z28 dc_Z28 pm_Z28 an_Z28 cd_Z28 ct_Z28), sl_Z28⟩)
   (c_Z28 : PySem.W.codeIn K cd_Z28 "fresh_room" = true)
   (k_Z28 : PySem.W.keepIn K (.ref f_Z28) = true)
   {f_Z66 : Addr} {oc_Z66 kV_Z66 dc_Z66 pm_Z66 cd_Z66 ct_Z66 : Value} {od_Z66 an_Z66 : Option Addr} {sl_Z66 : Array (Option Value)}
   (a_Z66 : PySem.W.nsIn K mainGlobals "laid" = some (some (.ref f_Z66)))
   (l_Z66 : K.lookup f_Z66 = some ⟨oc_Z66, od_Z66, .func (PySem.W.fnOf "laid" "laid" (Xaf s_Z66) (Xae s_Z66) (Xab s_Z66) .none kV_Z66 dc_Z66 pm_Z66 an_Z66 cd_Z66 ct_Z66), sl_Z66⟩)
   (c_Z66 : PySem.W.codeIn K cd_Z66 "laid" = true)
   (k_Z66 : PySem.W.keepIn K (.ref f_Z66) = true)
   {f_Z31 : Addr} {oc_Z31 kV_Z31 dc_Z31 pm_Z31 cd_Z31 ct_Z31 : Value} {od_Z31 an_Z31 : Option Addr} {sl_Z31 : Array (Option Value)}
   (a_Z31 : PySem.W.nsIn K mainGlobals "laid_free" = some (some (.ref f_Z31)))
   (l_Z31 : K.lookup f_Z31 = some ⟨oc_Z31, od_Z31, .func (PySem.W.fnOf "laid_free" "laid_free" (Xaf s_Z31) (Xae s_Z31) (Xab s_Z31) .none kV_Z31 dc_Z31 pm_Z31 an_Z31 cd_Z31 ct_Z31), sl_Z31⟩)
   (c_Z31 : PySem.W.codeIn K cd_Z31 "laid_free" = true)
   (k_Z31 : PySem.W.keepIn K (.ref f_Z31) = true)
   {f_Z37 : Addr} {oc_Z37 kV_Z37 dc_Z37 pm_Z37 cd_Z37 ct_Z37 : Value} {od_Z37 an_Z37 : Option Addr} {sl_Z37 : Array (Option Value)}
   (a_Z37 : PySem.W.nsIn K mainGlobals "piece_at" = some (some (.ref f_Z37)))
   (l_Z37 : K.lookup f_Z37 = some ⟨oc_Z37, od_Z37, .func (PySem.W.fnOf "piece_at" "piece_at" (Xaf s_Z37) (Xae s_Z37) (Xab s_Z37) .none kV_Z37 dc_Z37 pm_Z37 an_Z37 cd_Z37 ct_Z37), sl_Z37⟩)
   (c_Z37 : PySem.W.codeIn K cd_Z37 "piece_at" = true)
   (k_Z37 : PySem.W.keepIn K (.ref f_Z37) = true)
   {f_Z48 : Addr} {oc_Z48 kV_Z48 dc_Z48 pm_Z48 cd_Z48 ct_Z48 : Value} {od_Z48 an_Z48 : Option Addr} {sl_Z48 : Array (Option Value)}
   (a_Z48 : PySem.W.nsIn K mainGlobals "live_at" = some (some (.ref f_Z48)))
   (l_Z48 : K.lookup f_Z48 = some ⟨oc_Z48, od_Z48, .func (PySem.W.fnOf "live_at" "live_at" (Xaf s_Z48) (Xae s_Z48) (Xab s_Z48) .none kV_Z48 dc_Z48 pm_Z48 an_Z48 cd_Z48 ct_Z48), sl_Z48⟩)
   (c_Z48 : PySem.W.codeIn K cd_Z48 "live_at" = true)
   (k_Z48 : PySem.W.keepIn K (.ref f_Z48) = true)
   {f_Z41 : Addr} {oc_Z41 kV_Z41 dc_Z41 pm_Z41 cd_Z41 ct_Z41 : Value} {od_Z41 an_Z41 : Option Addr} {sl_Z41 : Array (Option Value)}
   (a_Z41 : PySem.W.nsIn K mainGlobals "free_at" = some (some (.ref f_Z41)))
   (l_Z41 : K.lookup f_Z41 = some ⟨oc_Z41, od_Z41, .func (PySem.W.fnOf "free_at" "free_at" (Xaf s_Z41) (Xae s_Z41) (Xab s_Z41) .none kV_Z41 dc_Z41 pm_Z41 an_Z41 cd_Z41 ct_Z41), sl_Z41⟩)
   (c_Z41 : PySem.W.codeIn K cd_Z41 "free_at" = true)
   (k_Z41 : PySem.W.keepIn K (.ref f_Z41) = true)
   {f_Z11 : Addr} {oc_Z11 kV_Z11 dc_Z11 pm_Z11 cd_Z11 ct_Z11 : Value} {od_Z11 an_Z11 : Option Addr} {sl_Z11 : Array (Option Value)}
   (a_Z11 : PySem.W.nsIn K mainGlobals "begin_around" = some (some (.ref f_Z11)))
   (l_Z11 : K.lookup f_Z11 = some ⟨oc_Z11, od_Z11, .func (PySem.W.fnOf "begin_around" "begin_around" (Xaf s_Z11) (Xae s_Z11) (Xab s_Z11) .none kV_Z11 dc_Z11 pm_Z11 an_Z11 cd_Z11 ct_Z11), sl_Z11⟩)
   (c_Z11 : PySem.W.codeIn K cd_Z11 "begin_around" = true)
   (k_Z11 : PySem.W.keepIn K (.ref f_Z11) = true)
   {f_Z20 : Addr} {oc_Z20 kV_Z20 dc_Z20 pm_Z20 cd_Z20 ct_Z20 : Value} {od_Z20 an_Z20 : Option Addr} {sl_Z20 : Array (Option Value)}
   (a_Z20 : PySem.W.nsIn K mainGlobals "free_begin" = some (some (.ref f_Z20)))
   (l_Z20 : K.lookup f_Z20 = some ⟨oc_Z20, od_Z20, .func (PySem.W.fnOf "free_begin" "free_begin" (Xaf s_Z20) (Xae s_Z20) (Xab s_Z20) .none kV_Z20 dc_Z20 pm_Z20 an_Z20 cd_Z20 ct_Z20), sl_Z20⟩)
   (c_Z20 : PySem.W.codeIn K cd_Z20 "free_begin" = true)
   (k_Z20 : PySem.W.keepIn K (.ref f_Z20) = true)
   {f_Z35 : Addr} {oc_Z35 kV_Z35 dc_Z35 pm_Z35 cd_Z35 ct_Z35 : Value} {od_Z35 an_Z35 : Option Addr} {sl_Z35 : Array (Option Value)}
   (a_Z35 : PySem.W.nsIn K mainGlobals "free_end" = some (some (.ref f_Z35)))
   (l_Z35 : K.lookup f_Z35 = some ⟨oc_Z35, od_Z35, .func (PySem.W.fnOf "free_end" "free_end" (Xaf s_Z35) (Xae s_Z35) (Xab s_Z35) .none kV_Z35 dc_Z35 pm_Z35 an_Z35 cd_Z35 ct_Z35), sl_Z35⟩)
   (c_Z35 : PySem.W.codeIn K cd_Z35 "free_end" = true)
   (k_Z35 : PySem.W.keepIn K (.ref f_Z35) = true)
   {f_Z47 : Addr} {oc_Z47 kV_Z47 dc_Z47 pm_Z47 cd_Z47 ct_Z47 : Value} {od_Z47 an_Z47 : Option Addr} {sl_Z47 : Array (Option Value)}
   (a_Z47 : PySem.W.nsIn K mainGlobals "cut_out" = some (some (.ref f_Z47)))
   (l_Z47 : K.lookup f_Z47 = some ⟨oc_Z47, od_Z47, .func (PySem.W.fnOf "cut_out" "cut_out" (Xaf s_Z47) (Xae s_Z47) (Xab s_Z47) .none kV_Z47 dc_Z47 pm_Z47 an_Z47 cd_Z47 ct_Z47), sl_Z47⟩)
   (c_Z47 : PySem.W.codeIn K cd_Z47 "cut_out" = true)
   (k_Z47 : PySem.W.keepIn K (.ref f_Z47) = true)
   {f_Z63 : Addr} {oc_Z63 kV_Z63 dc_Z63 pm_Z63 cd_Z63 ct_Z63 : Value} {od_Z63 an_Z63 : Option Addr} {sl_Z63 : Array (Option Value)}
   (a_Z63 : PySem.W.nsIn K mainGlobals "freed" = some (some (.ref f_Z63)))
   (l_Z63 : K.lookup f_Z63 = some ⟨oc_Z63, od_Z63, .func (PySem.W.fnOf "freed" "freed" (Xaf s_Z63) (Xae s_Z63) (Xab s_Z63) .none kV_Z63 dc_Z63 pm_Z63 an_Z63 cd_Z63 ct_Z63), sl_Z63⟩)
   (c_Z63 : PySem.W.codeIn K cd_Z63 "freed" = true)
   (k_Z63 : PySem.W.keepIn K (.ref f_Z63) = true)
   {f_Z9 : Addr} {oc_Z9 kV_Z9 dc_Z9 pm_Z9 cd_Z9 ct_Z9 : Value} {od_Z9 an_Z9 : Option Addr} {sl_Z9 : Array (Option Value)}
   (a_Z9 : PySem.W.nsIn K mainGlobals "joined_pieces" = some (some (.ref f_Z9)))
   (l_Z9 : K.lookup f_Z9 = some ⟨oc_Z9, od_Z9, .func (PySem.W.fnOf "joined_pieces" "joined_pieces" (Xaf s_Z9) (Xae s_Z9) (Xab s_Z9) .none kV_Z9 dc_Z9 pm_Z9 an_Z9 cd_Z9 ct_Z9), sl_Z9⟩)
   (c_Z9 : PySem.W.codeIn K cd_Z9 "joined_pieces" = true)
   (k_Z9 : PySem.W.keepIn K (.ref f_Z9) = true)
   {f_Z49 : Addr} {oc_Z49 kV_Z49 dc_Z49 pm_Z49 cd_Z49 ct_Z49 : Value} {od_Z49 an_Z49 : Option Addr} {sl_Z49 : Array (Option Value)}
   (a_Z49 : PySem.W.nsIn K mainGlobals "joined" = some (some (.ref f_Z49)))
   (l_Z49 : K.lookup f_Z49 = some ⟨oc_Z49, od_Z49, .func (PySem.W.fnOf "joined" "joined" (Xaf s_Z49) (Xae s_Z49) (Xab s_Z49) .none kV_Z49 dc_Z49 pm_Z49 an_Z49 cd_Z49 ct_Z49), sl_Z49⟩)
   (c_Z49 : PySem.W.codeIn K cd_Z49 "joined" = true)
   (k_Z49 : PySem.W.keepIn K (.ref f_Z49) = true)
   {f_Z46 : Addr} {oc_Z46 kV_Z46 dc_Z46 pm_Z46 cd_Z46 ct_Z46 : Value} {od_Z46 an_Z46 : Option Addr} {sl_Z46 : Array (Option Value)}
   (a_Z46 : PySem.W.nsIn K mainGlobals "carried" = some (some (.ref f_Z46)))
   (l_Z46 : K.lookup f_Z46 = some ⟨oc_Z46, od_Z46, .func (PySem.W.fnOf "carried" "carried" (Xaf s_Z46) (Xae s_Z46) (Xab s_Z46) .none kV_Z46 dc_Z46 pm_Z46 an_Z46 cd_Z46 ct_Z46), sl_Z46⟩)
   (c_Z46 : PySem.W.codeIn K cd_Z46 "carried" = true)
   (k_Z46 : PySem.W.keepIn K (.ref f_Z46) = true)
   {f_Z19 : Addr} {oc_Z19 kV_Z19 dc_Z19 pm_Z19 cd_Z19 ct_Z19 : Value} {od_Z19 an_Z19 : Option Addr} {sl_Z19 : Array (Option Value)}
   (a_Z19 : PySem.W.nsIn K mainGlobals "first_place" = some (some (.ref f_Z19)))
   (l_Z19 : K.lookup f_Z19 = some ⟨oc_Z19, od_Z19, .func (PySem.W.fnOf "first_place" "first_place" (Xaf s_Z19) (Xae s_Z19) (Xab s_Z19) .none kV_Z19 dc_Z19 pm_Z19 an_Z19 cd_Z19 ct_Z19), sl_Z19⟩)
   (c_Z19 : PySem.W.codeIn K cd_Z19 "first_place" = true)
   (k_Z19 : PySem.W.keepIn K (.ref f_Z19) = true)
   {f_Z34 : Addr} {oc_Z34 kV_Z34 dc_Z34 pm_Z34 cd_Z34 ct_Z34 : Value} {od_Z34 an_Z34 : Option Addr} {sl_Z34 : Array (Option Value)}
   (a_Z34 : PySem.W.nsIn K mainGlobals "spots_for" = some (some (.ref f_Z34)))
   (l_Z34 : K.lookup f_Z34 = some ⟨oc_Z34, od_Z34, .func (PySem.W.fnOf "spots_for" "spots_for" (Xaf s_Z34) (Xae s_Z34) (Xab s_Z34) .none kV_Z34 dc_Z34 pm_Z34 an_Z34 cd_Z34 ct_Z34), sl_Z34⟩)
   (c_Z34 : PySem.W.codeIn K cd_Z34 "spots_for" = true)
   (k_Z34 : PySem.W.keepIn K (.ref f_Z34) = true)
   {f_Z16 : Addr} {oc_Z16 kV_Z16 dc_Z16 pm_Z16 cd_Z16 ct_Z16 : Value} {od_Z16 an_Z16 : Option Addr} {sl_Z16 : Array (Option Value)}
   (a_Z16 : PySem.W.nsIn K mainGlobals "least_place" = some (some (.ref f_Z16)))
   (l_Z16 : K.lookup f_Z16 = some ⟨oc_Z16, od_Z16, .func (PySem.W.fnOf "least_place" "least_place" (Xaf s_Z16) (Xae s_Z16) (Xab s_Z16) .none kV_Z16 dc_Z16 pm_Z16 an_Z16 cd_Z16 ct_Z16), sl_Z16⟩)
   (c_Z16 : PySem.W.codeIn K cd_Z16 "least_place" = true)
   (k_Z16 : PySem.W.keepIn K (.ref f_Z16) = true)
   {f_Z30 : Addr} {oc_Z30 kV_Z30 dc_Z30 pm_Z30 cd_Z30 ct_Z30 : Value} {od_Z30 an_Z30 : Option Addr} {sl_Z30 : Array (Option Value)}
   (a_Z30 : PySem.W.nsIn K mainGlobals "_law_cell_at" = some (some (.ref f_Z30)))
   (l_Z30 : K.lookup f_Z30 = some ⟨oc_Z30, od_Z30, .func (PySem.W.fnOf "_law_cell_at" "_law_cell_at" (Xaf s_Z30) (Xae s_Z30) (Xab s_Z30) .none kV_Z30 dc_Z30 pm_Z30 an_Z30 cd_Z30 ct_Z30), sl_Z30⟩)
   (c_Z30 : PySem.W.codeIn K cd_Z30 "_law_cell_at" = true)
   (k_Z30 : PySem.W.keepIn K (.ref f_Z30) = true)
   {f_Z45 : Addr} {oc_Z45 kV_Z45 dc_Z45 pm_Z45 cd_Z45 ct_Z45 : Value} {od_Z45 an_Z45 : Option Addr} {sl_Z45 : Array (Option Value)}
   (a_Z45 : PySem.W.nsIn K mainGlobals "_law_whole" = some (some (.ref f_Z45)))
   (l_Z45 : K.lookup f_Z45 = some ⟨oc_Z45, od_Z45, .func (PySem.W.fnOf "_law_whole" "_law_whole" (Xaf s_Z45) (Xae s_Z45) (Xab s_Z45) .none kV_Z45 dc_Z45 pm_Z45 an_Z45 cd_Z45 ct_Z45), sl_Z45⟩)
   (c_Z45 : PySem.W.codeIn K cd_Z45 "_law_whole" = true)
   (k_Z45 : PySem.W.keepIn K (.ref f_Z45) = true)
   {f_Z36 : Addr} {oc_Z36 kV_Z36 dc_Z36 pm_Z36 cd_Z36 ct_Z36 : Value} {od_Z36 an_Z36 : Option Addr} {sl_Z36 : Array (Option Value)}
   (a_Z36 : PySem.W.nsIn K mainGlobals "_law_as_one" = some (some (.ref f_Z36)))
   (l_Z36 : K.lookup f_Z36 = some ⟨oc_Z36, od_Z36, .func (PySem.W.fnOf "_law_as_one" "_law_as_one" (Xaf s_Z36) (Xae s_Z36) (Xab s_Z36) .none kV_Z36 dc_Z36 pm_Z36 an_Z36 cd_Z36 ct_Z36), sl_Z36⟩)
   (c_Z36 : PySem.W.codeIn K cd_Z36 "_law_as_one" = true)
   (k_Z36 : PySem.W.keepIn K (.ref f_Z36) = true)
   {f_Z59 : Addr} {oc_Z59 kV_Z59 dc_Z59 pm_Z59 cd_Z59 ct_Z59 : Value} {od_Z59 an_Z59 : Option Addr} {sl_Z59 : Array (Option Value)}
   (a_Z59 : PySem.W.nsIn K mainGlobals "_law_cut" = some (some (.ref f_Z59)))
   (l_Z59 : K.lookup f_Z59 = some ⟨oc_Z59, od_Z59, .func (PySem.W.fnOf "_law_cut" "_law_cut" (Xaf s_Z59) (Xae s_Z59) (Xab s_Z59) .none kV_Z59 dc_Z59 pm_Z59 an_Z59 cd_Z59 ct_Z59), sl_Z59⟩)
   (c_Z59 : PySem.W.codeIn K cd_Z59 "_law_cut" = true)
   (k_Z59 : PySem.W.keepIn K (.ref f_Z59) = true)
   {f_Z57 : Addr} {oc_Z57 kV_Z57 dc_Z57 pm_Z57 cd_Z57 ct_Z57 : Value} {od_Z57 an_Z57 : Option Addr} {sl_Z57 : Array (Option Value)}
   (a_Z57 : PySem.W.nsIn K mainGlobals "_law_free" = some (some (.ref f_Z57)))
   (l_Z57 : K.lookup f_Z57 = some ⟨oc_Z57, od_Z57, .func (PySem.W.fnOf "_law_free" "_law_free" (Xaf s_Z57) (Xae s_Z57) (Xab s_Z57) .none kV_Z57 dc_Z57 pm_Z57 an_Z57 cd_Z57 ct_Z57), sl_Z57⟩)
   (c_Z57 : PySem.W.codeIn K cd_Z57 "_law_free" = true)
   (k_Z57 : PySem.W.keepIn K (.ref f_Z57) = true)
   {f_Z60 : Addr} {oc_Z60 kV_Z60 dc_Z60 pm_Z60 cd_Z60 ct_Z60 : Value} {od_Z60 an_Z60 : Option Addr} {sl_Z60 : Array (Option Value)}
   (a_Z60 : PySem.W.nsIn K mainGlobals "_law_end" = some (some (.ref f_Z60)))
   (l_Z60 : K.lookup f_Z60 = some ⟨oc_Z60, od_Z60, .func (PySem.W.fnOf "_law_end" "_law_end" (Xaf s_Z60) (Xae s_Z60) (Xab s_Z60) .none kV_Z60 dc_Z60 pm_Z60 an_Z60 cd_Z60 ct_Z60), sl_Z60⟩)
   (c_Z60 : PySem.W.codeIn K cd_Z60 "_law_end" = true)
   (k_Z60 : PySem.W.keepIn K (.ref f_Z60) = true)
   {f_Z29 : Addr} {oc_Z29 kV_Z29 dc_Z29 pm_Z29 cd_Z29 ct_Z29 : Value} {od_Z29 an_Z29 : Option Addr} {sl_Z29 : Array (Option Value)}
   (a_Z29 : PySem.W.nsIn K mainGlobals "_law_regrown" = some (some (.ref f_Z29)))
   (l_Z29 : K.lookup f_Z29 = some ⟨oc_Z29, od_Z29, .func (PySem.W.fnOf "_law_regrown" "_law_regrown" (Xaf s_Z29) (Xae s_Z29) (Xab s_Z29) .none kV_Z29 dc_Z29 pm_Z29 an_Z29 cd_Z29 ct_Z29), sl_Z29⟩)
   (c_Z29 : PySem.W.codeIn K cd_Z29 "_law_regrown" = true)
   (k_Z29 : PySem.W.keepIn K (.ref f_Z29) = true)
   {f_Z56 : Addr} {oc_Z56 kV_Z56 dc_Z56 pm_Z56 cd_Z56 ct_Z56 : Value} {od_Z56 an_Z56 : Option Addr} {sl_Z56 : Array (Option Value)}
   (a_Z56 : PySem.W.nsIn K mainGlobals "_law_next" = some (some (.ref f_Z56)))
   (l_Z56 : K.lookup f_Z56 = some ⟨oc_Z56, od_Z56, .func (PySem.W.fnOf "_law_next" "_law_next" (Xaf s_Z56) (Xae s_Z56) (Xab s_Z56) .none kV_Z56 dc_Z56 pm_Z56 an_Z56 cd_Z56 ct_Z56), sl_Z56⟩)
   (c_Z56 : PySem.W.codeIn K cd_Z56 "_law_next" = true)
   (k_Z56 : PySem.W.keepIn K (.ref f_Z56) = true)
   {f_Z39 : Addr} {oc_Z39 kV_Z39 dc_Z39 pm_Z39 cd_Z39 ct_Z39 : Value} {od_Z39 an_Z39 : Option Addr} {sl_Z39 : Array (Option Value)}
   (a_Z39 : PySem.W.nsIn K mainGlobals "_law_answer" = some (some (.ref f_Z39)))
   (l_Z39 : K.lookup f_Z39 = some ⟨oc_Z39, od_Z39, .func (PySem.W.fnOf "_law_answer" "_law_answer" (Xaf s_Z39) (Xae s_Z39) (Xab s_Z39) .none kV_Z39 dc_Z39 pm_Z39 an_Z39 cd_Z39 ct_Z39), sl_Z39⟩)
   (c_Z39 : PySem.W.codeIn K cd_Z39 "_law_answer" = true)
   (k_Z39 : PySem.W.keepIn K (.ref f_Z39) = true)
   {f_Z58 : Addr} {oc_Z58 kV_Z58 dc_Z58 pm_Z58 cd_Z58 ct_Z58 : Value} {od_Z58 an_Z58 : Option Addr} {sl_Z58 : Array (Option Value)}
   (a_Z58 : PySem.W.nsIn K mainGlobals "_law_new" = some (some (.ref f_Z58)))
   (l_Z58 : K.lookup f_Z58 = some ⟨oc_Z58, od_Z58, .func (PySem.W.fnOf "_law_new" "_law_new" (Xaf s_Z58) (Xae s_Z58) (Xab s_Z58) .none kV_Z58 dc_Z58 pm_Z58 an_Z58 cd_Z58 ct_Z58), sl_Z58⟩)
   (c_Z58 : PySem.W.codeIn K cd_Z58 "_law_new" = true)
   (k_Z58 : PySem.W.keepIn K (.ref f_Z58) = true)
   {f_Z53 : Addr} {oc_Z53 kV_Z53 dc_Z53 pm_Z53 cd_Z53 ct_Z53 : Value} {od_Z53 an_Z53 : Option Addr} {sl_Z53 : Array (Option Value)}
   (a_Z53 : PySem.W.nsIn K mainGlobals "_law_grow" = some (some (.ref f_Z53)))
   (l_Z53 : K.lookup f_Z53 = some ⟨oc_Z53, od_Z53, .func (PySem.W.fnOf "_law_grow" "_law_grow" (Xaf s_Z53) (Xae s_Z53) (Xab s_Z53) .none kV_Z53 dc_Z53 pm_Z53 an_Z53 cd_Z53 ct_Z53), sl_Z53⟩)
   (c_Z53 : PySem.W.codeIn K cd_Z53 "_law_grow" = true)
   (k_Z53 : PySem.W.keepIn K (.ref f_Z53) = true)
   {f_Z54 : Addr} {oc_Z54 kV_Z54 dc_Z54 pm_Z54 cd_Z54 ct_Z54 : Value} {od_Z54 an_Z54 : Option Addr} {sl_Z54 : Array (Option Value)}
   (a_Z54 : PySem.W.nsIn K mainGlobals "_law_laid" = some (some (.ref f_Z54)))
   (l_Z54 : K.lookup f_Z54 = some ⟨oc_Z54, od_Z54, .func (PySem.W.fnOf "_law_laid" "_law_laid" (Xaf s_Z54) (Xae s_Z54) (Xab s_Z54) .none kV_Z54 dc_Z54 pm_Z54 an_Z54 cd_Z54 ct_Z54), sl_Z54⟩)
   (c_Z54 : PySem.W.codeIn K cd_Z54 "_law_laid" = true)
   (k_Z54 : PySem.W.keepIn K (.ref f_Z54) = true)
   {f_Z38 : Addr} {oc_Z38 kV_Z38 dc_Z38 pm_Z38 cd_Z38 ct_Z38 : Value} {od_Z38 an_Z38 : Option Addr} {sl_Z38 : Array (Option Value)}
   (a_Z38 : PySem.W.nsIn K mainGlobals "_law_parted" = some (some (.ref f_Z38)))
   (l_Z38 : K.lookup f_Z38 = some ⟨oc_Z38, od_Z38, .func (PySem.W.fnOf "_law_parted" "_law_parted" (Xaf s_Z38) (Xae s_Z38) (Xab s_Z38) .none kV_Z38 dc_Z38 pm_Z38 an_Z38 cd_Z38 ct_Z38), sl_Z38⟩)
   (c_Z38 : PySem.W.codeIn K cd_Z38 "_law_parted" = true)
   (k_Z38 : PySem.W.keepIn K (.ref f_Z38) = true)
   {f_Z61 : Addr} {oc_Z61 kV_Z61 dc_Z61 pm_Z61 cd_Z61 ct_Z61 : Value} {od_Z61 an_Z61 : Option Addr} {sl_Z61 : Array (Option Value)}
   (a_Z61 : PySem.W.nsIn K mainGlobals "_law_put" = some (some (.ref f_Z61)))
   (l_Z61 : K.lookup f_Z61 = some ⟨oc_Z61, od_Z61, .func (PySem.W.fnOf "_law_put" "_law_put" (Xaf s_Z61) (Xae s_Z61) (Xab s_Z61) .none kV_Z61 dc_Z61 pm_Z61 an_Z61 cd_Z61 ct_Z61), sl_Z61⟩)
   (c_Z61 : PySem.W.codeIn K cd_Z61 "_law_put" = true)
   (k_Z61 : PySem.W.keepIn K (.ref f_Z61) = true)
   {f_Z44 : Addr} {oc_Z44 kV_Z44 dc_Z44 pm_Z44 cd_Z44 ct_Z44 : Value} {od_Z44 an_Z44 : Option Addr} {sl_Z44 : Array (Option Value)}
   (a_Z44 : PySem.W.nsIn K mainGlobals "_law_looks" = some (some (.ref f_Z44)))
   (l_Z44 : K.lookup f_Z44 = some ⟨oc_Z44, od_Z44, .func (PySem.W.fnOf "_law_looks" "_law_looks" (Xaf s_Z44) (Xae s_Z44) (Xab s_Z44) .none kV_Z44 dc_Z44 pm_Z44 an_Z44 cd_Z44 ct_Z44), sl_Z44⟩)
   (c_Z44 : PySem.W.codeIn K cd_Z44 "_law_looks" = true)
   (k_Z44 : PySem.W.keepIn K (.ref f_Z44) = true)
   {f_Z50 : Addr} {oc_Z50 kV_Z50 dc_Z50 pm_Z50 cd_Z50 ct_Z50 : Value} {od_Z50 an_Z50 : Option Addr} {sl_Z50 : Array (Option Value)}
   (a_Z50 : PySem.W.nsIn K mainGlobals "_law_step" = some (some (.ref f_Z50)))
   (l_Z50 : K.lookup f_Z50 = some ⟨oc_Z50, od_Z50, .func (PySem.W.fnOf "_law_step" "_law_step" (Xaf s_Z50) (Xae s_Z50) (Xab s_Z50) .none kV_Z50 dc_Z50 pm_Z50 an_Z50 cd_Z50 ct_Z50), sl_Z50⟩)
   (c_Z50 : PySem.W.codeIn K cd_Z50 "_law_step" = true)
   (k_Z50 : PySem.W.keepIn K (.ref f_Z50) = true)
   {f_law : Addr} {oc_law kV_law dc_law pm_law cd_law ct_law : Value} {od_law an_law : Option Addr} {sl_law : Array (Option Value)}
   (a_law : PySem.W.nsIn K mainGlobals "law" = some (some (.ref f_law)))
   (l_law : K.lookup f_law = some ⟨oc_law, od_law, .func (PySem.W.fnOf "law" "law" (Xaf s_law) (Xae s_law) (Xab s_law) .none kV_law dc_law pm_law an_law cd_law ct_law), sl_law⟩)
   (c_law : PySem.W.codeIn K cd_law "law" = true)
   (k_law : PySem.W.keepIn K (.ref f_law) = true)
   {W0_ : Tok}
   {W1_ : Tok}
   {Y0 Y8 Y4 Y3 Y6 Y9 Y2 Y7 Y5 Y1 Y10 : Addr}
   (z_bool : PySem.W.nsIn K mainGlobals "bool" = some none)
   (z_int : PySem.W.nsIn K mainGlobals "int" = some none)
   (z_isinstance : PySem.W.nsIn K mainGlobals "isinstance" = some none)
   (z_len : PySem.W.nsIn K mainGlobals "len" = some none)
   (z_list : PySem.W.nsIn K mainGlobals "list" = some none)
   (z_min : PySem.W.nsIn K mainGlobals "min" = some none)
   (z_range : PySem.W.nsIn K mainGlobals "range" = some none)
   (g_LEAST_LIVE : PySem.W.nsIn K mainGlobals "LEAST_LIVE" = some (some (.int 3 W0_)))
   (g_MARKS : PySem.W.nsIn K mainGlobals "MARKS" = some (some (.int 2 W1_)))
   (cc_StowError : PySem.W.nsIn K mainGlobals "StowError" = some (some (.ref Y0)))
   (cc_NoSize : PySem.W.nsIn K mainGlobals "NoSize" = some (some (.ref Y8)))
   (cc_Broken : PySem.W.nsIn K mainGlobals "Broken" = some (some (.ref Y4)))
   (cc_NoPiece : PySem.W.nsIn K mainGlobals "NoPiece" = some (some (.ref Y3)))
   (cc_NoCell : PySem.W.nsIn K mainGlobals "NoCell" = some (some (.ref Y6)))
   (cc_NoAsk : PySem.W.nsIn K mainGlobals "NoAsk" = some (some (.ref Y9)))
   (cc_NoBound : PySem.W.nsIn K mainGlobals "NoBound" = some (some (.ref Y2)))
   (cc_NoRoom : PySem.W.nsIn K mainGlobals "NoRoom" = some (some (.ref Y7)))
   (cc_Keeper : PySem.W.nsIn K mainGlobals "Keeper" = some (some (.ref Y5)))
   (cc_Stretches : PySem.W.nsIn K mainGlobals "Stretches" = some (some (.ref Y1)))
   (cc_Next : PySem.W.nsIn K mainGlobals "Next" = some (some (.ref Y10)))
   (s1_Broken : PySem.W.findIn K (.ref Y4) "__setattr__" = some (some (.builtin "object.__setattr__")))
   {cd_Broken : ClassData}
   (s2_Broken : PySem.W.clsIn K Y4 = some cd_Broken)
   (s5_Broken : excTail cd_Broken.mro = true)
   (s6_Broken : cd_Broken.hasDict = true)
   (s3_Broken : PySem.W.mroIn K Y4 (.type "object") = some true)
   (s4_Broken : PySem.W.findIn K (.ref Y4) "cell" = some none)
   (xx_NoSize : PySem.W.excIn K Y8 [.type "ValueError", .type "Exception", .type "BaseException", .type "object"] "ValueError.__new__" = true)
   (xx_NoPiece : PySem.W.excIn K Y3 [.type "ValueError", .type "Exception", .type "BaseException", .type "object"] "ValueError.__new__" = true)
   (xx_NoRoom : PySem.W.excIn K Y7 [.type "ValueError", .type "Exception", .type "BaseException", .type "object"] "ValueError.__new__" = true)
   (pg_Next : PySem.W.plainGet K Y10 Str.empty = true)
   (hd_Next : PySem.W.hasDictIn K Y10 = true)
   (po_Next : PySem.W.plainOver K Y10 = true)
   (sa_Next : PySem.W.findIn K (.ref Y10) "__setattr__" = some (some (.builtin "object.__setattr__")))
   (na_Next_room_cells : PySem.W.findIn K (.ref Y10) "room_cells" = some none)
   (na_Next_room_rover : PySem.W.findIn K (.ref Y10) "room_rover" = some none)
   {nm_NoRoom qn_NoRoom : Str} {N_NoRoom : Addr} {bs_NoRoom bm_NoRoom : List Value} {hd_NoRoom : Bool} {sn_NoRoom : List Str} {sub_NoRoom : List Value} {ab_NoRoom : Bool} {col_NoRoom : Option Bool} {dd_NoRoom : Option Addr} {k0_NoRoom k1_NoRoom k2_NoRoom k3_NoRoom k5_NoRoom : Option Value} {ni_NoRoom : String}
   (lc_NoRoom : K.lookup Y7 = some (excClassObj nm_NoRoom qn_NoRoom Y7 N_NoRoom bs_NoRoom bm_NoRoom hd_NoRoom sn_NoRoom sub_NoRoom ab_NoRoom col_NoRoom dd_NoRoom k0_NoRoom k1_NoRoom k2_NoRoom k3_NoRoom k5_NoRoom ni_NoRoom))
   (fb_NoRoom : (Value.ref Y7 :: bm_NoRoom).contains (.type "BaseException") = true)
   (fm_NoRoom_NoRoom : (Value.ref Y7 :: bm_NoRoom).contains (.ref Y7) = true)
   {nm_NoSize qn_NoSize : Str} {N_NoSize : Addr} {bs_NoSize bm_NoSize : List Value} {hd_NoSize : Bool} {sn_NoSize : List Str} {sub_NoSize : List Value} {ab_NoSize : Bool} {col_NoSize : Option Bool} {dd_NoSize : Option Addr} {k0_NoSize k1_NoSize k2_NoSize k3_NoSize k5_NoSize : Option Value} {ni_NoSize : String}
   (lc_NoSize : K.lookup Y8 = some (excClassObj nm_NoSize qn_NoSize Y8 N_NoSize bs_NoSize bm_NoSize hd_NoSize sn_NoSize sub_NoSize ab_NoSize col_NoSize dd_NoSize k0_NoSize k1_NoSize k2_NoSize k3_NoSize k5_NoSize ni_NoSize))
   (fb_NoSize : (Value.ref Y8 :: bm_NoSize).contains (.type "BaseException") = true)
   (fm_NoSize_NoSize : (Value.ref Y8 :: bm_NoSize).contains (.ref Y8) = true)
   {nm_Broken qn_Broken : Str} {N_Broken : Addr} {bs_Broken bm_Broken : List Value} {hd_Broken : Bool} {sn_Broken : List Str} {sub_Broken : List Value} {ab_Broken : Bool} {col_Broken : Option Bool} {dd_Broken : Option Addr} {k0_Broken k1_Broken k2_Broken k3_Broken k5_Broken : Option Value} {ni_Broken : String}
   (lc_Broken : K.lookup Y4 = some (excClassObj nm_Broken qn_Broken Y4 N_Broken bs_Broken bm_Broken hd_Broken sn_Broken sub_Broken ab_Broken col_Broken dd_Broken k0_Broken k1_Broken k2_Broken k3_Broken k5_Broken ni_Broken))
   (fm_Broken_NoSize : (Value.ref Y4 :: bm_Broken).contains (.ref Y8) = false)
   (fb_Broken : (Value.ref Y4 :: bm_Broken).contains (.type "BaseException") = true)
   (fm_Broken_Broken : (Value.ref Y4 :: bm_Broken).contains (.ref Y4) = true)
   (xx_StowError : PySem.W.excIn K Y0 [.type "ValueError", .type "Exception", .type "BaseException", .type "object"] "ValueError.__new__" = true)
   (kp_Broken : PySem.W.keepIn K (.ref Y4) = true)
   {f_Broken_init : Addr} {oc_Broken_init kV_Broken_init dc_Broken_init pm_Broken_init cd_Broken_init ct_Broken_init : Value} {od_Broken_init an_Broken_init : Option Addr} {sl_Broken_init : Array (Option Value)}
   (a_Broken_init : PySem.W.findIn K (.ref Y4) "__init__" = some (some (.ref f_Broken_init)))
   (l_Broken_init : K.lookup f_Broken_init = some ⟨oc_Broken_init, od_Broken_init, .func (PySem.W.fnOf "__init__" "Broken.__init__" (Xaf Xbv) (Xae Xbv) (Xab Xbv) .none kV_Broken_init dc_Broken_init pm_Broken_init an_Broken_init cd_Broken_init ct_Broken_init), sl_Broken_init⟩)
   (c_Broken_init : PySem.W.codeIn K cd_Broken_init "Broken.__init__" = true)
   (k_Broken_init : PySem.W.keepIn K (.ref f_Broken_init) = true)
   (eb_Broken : bm_Broken = .ref Y0 :: [.type "ValueError", .type "Exception", .type "BaseException", .type "object"])
   (en_Broken : ni_Broken = "ValueError.__new__")
   (eo_Broken : oc_Broken_init = .type "function")
   {f_Keeper_init : Addr} {oc_Keeper_init kV_Keeper_init dc_Keeper_init pm_Keeper_init cd_Keeper_init ct_Keeper_init : Value} {od_Keeper_init an_Keeper_init : Option Addr} {sl_Keeper_init : Array (Option Value)}
   (a_Keeper_init : PySem.W.findCls K (.ref Y1) (.type "type") "__init__" = some (.val (.ref f_Keeper_init)))
   (l_Keeper_init : K.lookup f_Keeper_init = some ⟨oc_Keeper_init, od_Keeper_init, .func (PySem.W.fnOf "__init__" "Keeper.__init__" (Xaf Xbt) (Xae Xbt) (Xab Xbt) .none kV_Keeper_init dc_Keeper_init pm_Keeper_init an_Keeper_init cd_Keeper_init ct_Keeper_init), sl_Keeper_init⟩)
   (c_Keeper_init : PySem.W.codeIn K cd_Keeper_init "Keeper.__init__" = true)
   (k_Keeper_init : PySem.W.keepIn K (.ref f_Keeper_init) = true)
   (bs_Stretches : PySem.W.specialIn K (.ref Y1) "__getattribute__" = some (some (.builtin "type.__getattribute__")))
   (br_Stretches : PySem.W.readsIn K Y1 (.type "type") = true)
   {f_Next_init : Addr} {oc_Next_init kV_Next_init dc_Next_init pm_Next_init cd_Next_init ct_Next_init : Value} {od_Next_init an_Next_init : Option Addr} {sl_Next_init : Array (Option Value)}
   (a_Next_init : PySem.W.findIn K (.ref Y10) "__init__" = some (some (.ref f_Next_init)))
   (l_Next_init : K.lookup f_Next_init = some ⟨oc_Next_init, od_Next_init, .func (PySem.W.fnOf "__init__" "Next.__init__" (Xaf Xch) (Xae Xch) (Xab Xch) .none kV_Next_init dc_Next_init pm_Next_init an_Next_init cd_Next_init ct_Next_init), sl_Next_init⟩)
   (c_Next_init : PySem.W.codeIn K cd_Next_init "Next.__init__" = true)
   (k_Next_init : PySem.W.keepIn K (.ref f_Next_init) = true)
   (if_Next_init : PySem.W.isFn K (.ref f_Next_init) = true)
   (mk_Next : PySem.W.makesIn K Y10 = true)
   (kp_Next : PySem.W.keepIn K (.ref Y10) = true)
   {f_Z3 : Addr} {oc_Z3 kV_Z3 dc_Z3 pm_Z3 cd_Z3 ct_Z3 : Value} {od_Z3 an_Z3 : Option Addr} {sl_Z3 : Array (Option Value)}
   (a_Z3 : PySem.W.findIn K (.ref Y10) "room_begin" = some (some (.ref f_Z3)))
   (l_Z3 : K.lookup f_Z3 = some ⟨oc_Z3, od_Z3, .func (PySem.W.fnOf "room_begin" "Next.room_begin" (Xaf s_Z3) (Xae s_Z3) (Xab s_Z3) .none kV_Z3 dc_Z3 pm_Z3 an_Z3 cd_Z3 ct_Z3), sl_Z3⟩)
   (c_Z3 : PySem.W.codeIn K cd_Z3 "Next.room_begin" = true)
   (k_Z3 : PySem.W.keepIn K (.ref f_Z3) = true)
   (if_Z3 : PySem.W.isFn K (.ref f_Z3) = true)
   {f_Z22 : Addr} {oc_Z22 kV_Z22 dc_Z22 pm_Z22 cd_Z22 ct_Z22 : Value} {od_Z22 an_Z22 : Option Addr} {sl_Z22 : Array (Option Value)}
   (a_Z22 : PySem.W.findIn K (.ref Y10) "lay" = some (some (.ref f_Z22)))
   (l_Z22 : K.lookup f_Z22 = some ⟨oc_Z22, od_Z22, .func (PySem.W.fnOf "lay" "Keeper.lay" (Xaf s_Z22) (Xae s_Z22) (Xab s_Z22) .none kV_Z22 dc_Z22 pm_Z22 an_Z22 cd_Z22 ct_Z22), sl_Z22⟩)
   (c_Z22 : PySem.W.codeIn K cd_Z22 "Keeper.lay" = true)
   (k_Z22 : PySem.W.keepIn K (.ref f_Z22) = true)
   (if_Z22 : PySem.W.isFn K (.ref f_Z22) = true)
   {f_Z10 : Addr} {oc_Z10 kV_Z10 dc_Z10 pm_Z10 cd_Z10 ct_Z10 : Value} {od_Z10 an_Z10 : Option Addr} {sl_Z10 : Array (Option Value)}
   (a_Z10 : PySem.W.findIn K (.ref Y10) "clear" = some (some (.ref f_Z10)))
   (l_Z10 : K.lookup f_Z10 = some ⟨oc_Z10, od_Z10, .func (PySem.W.fnOf "clear" "Keeper.clear" (Xaf s_Z10) (Xae s_Z10) (Xab s_Z10) .none kV_Z10 dc_Z10 pm_Z10 an_Z10 cd_Z10 ct_Z10), sl_Z10⟩)
   (c_Z10 : PySem.W.codeIn K cd_Z10 "Keeper.clear" = true)
   (k_Z10 : PySem.W.keepIn K (.ref f_Z10) = true)
   (if_Z10 : PySem.W.isFn K (.ref f_Z10) = true)
   {f_Z7 : Addr} {oc_Z7 kV_Z7 dc_Z7 pm_Z7 cd_Z7 ct_Z7 : Value} {od_Z7 an_Z7 : Option Addr} {sl_Z7 : Array (Option Value)}
   (a_Z7 : PySem.W.findIn K (.ref Y10) "pieces" = some (some (.ref f_Z7)))
   (l_Z7 : K.lookup f_Z7 = some ⟨oc_Z7, od_Z7, .func (PySem.W.fnOf "pieces" "Keeper.pieces" (Xaf s_Z7) (Xae s_Z7) (Xab s_Z7) .none kV_Z7 dc_Z7 pm_Z7 an_Z7 cd_Z7 ct_Z7), sl_Z7⟩)
   (c_Z7 : PySem.W.codeIn K cd_Z7 "Keeper.pieces" = true)
   (k_Z7 : PySem.W.keepIn K (.ref f_Z7) = true)
   (if_Z7 : PySem.W.isFn K (.ref f_Z7) = true)
   {f_Z13 : Addr} {oc_Z13 kV_Z13 dc_Z13 pm_Z13 cd_Z13 ct_Z13 : Value} {od_Z13 an_Z13 : Option Addr} {sl_Z13 : Array (Option Value)}
   (a_Z13 : PySem.W.findIn K (.ref Y10) "cells" = some (some (.ref f_Z13)))
   (l_Z13 : K.lookup f_Z13 = some ⟨oc_Z13, od_Z13, .func (PySem.W.fnOf "cells" "Keeper.cells" (Xaf s_Z13) (Xae s_Z13) (Xab s_Z13) .none kV_Z13 dc_Z13 pm_Z13 an_Z13 cd_Z13 ct_Z13), sl_Z13⟩)
   (c_Z13 : PySem.W.codeIn K cd_Z13 "Keeper.cells" = true)
   (k_Z13 : PySem.W.keepIn K (.ref f_Z13) = true)
   (if_Z13 : PySem.W.isFn K (.ref f_Z13) = true)
   {f_Z25 : Addr} {oc_Z25 kV_Z25 dc_Z25 pm_Z25 cd_Z25 ct_Z25 : Value} {od_Z25 an_Z25 : Option Addr} {sl_Z25 : Array (Option Value)}
   (a_Z25 : PySem.W.findIn K (.ref Y10) "rover" = some (some (.ref f_Z25)))
   (l_Z25 : K.lookup f_Z25 = some ⟨oc_Z25, od_Z25, .func (PySem.W.fnOf "rover" "Next.rover" (Xaf s_Z25) (Xae s_Z25) (Xab s_Z25) .none kV_Z25 dc_Z25 pm_Z25 an_Z25 cd_Z25 ct_Z25), sl_Z25⟩)
   (c_Z25 : PySem.W.codeIn K cd_Z25 "Next.rover" = true)
   (k_Z25 : PySem.W.keepIn K (.ref f_Z25) = true)
   (if_Z25 : PySem.W.isFn K (.ref f_Z25) = true)
   {f_Z2 : Addr} {oc_Z2 kV_Z2 dc_Z2 pm_Z2 cd_Z2 ct_Z2 : Value} {od_Z2 an_Z2 : Option Addr} {sl_Z2 : Array (Option Value)}
   (a_Z2 : PySem.W.findIn K (.ref Y10) "room_granted" = some (some (.ref f_Z2)))
   (l_Z2 : K.lookup f_Z2 = some ⟨oc_Z2, od_Z2, .func (PySem.W.fnOf "room_granted" "Next.room_granted" (Xaf s_Z2) (Xae s_Z2) (Xab s_Z2) .none kV_Z2 dc_Z2 pm_Z2 an_Z2 cd_Z2 ct_Z2), sl_Z2⟩)
   (c_Z2 : PySem.W.codeIn K cd_Z2 "Next.room_granted" = true)
   (k_Z2 : PySem.W.keepIn K (.ref f_Z2) = true)
   (if_Z2 : PySem.W.isFn K (.ref f_Z2) = true)
   {f_Z18 : Addr} {oc_Z18 kV_Z18 dc_Z18 pm_Z18 cd_Z18 ct_Z18 : Value} {od_Z18 an_Z18 : Option Addr} {sl_Z18 : Array (Option Value)}
   (a_Z18 : PySem.W.findIn K (.ref Y10) "many" = some (some (.ref f_Z18)))
   (l_Z18 : K.lookup f_Z18 = some ⟨oc_Z18, od_Z18, .func (PySem.W.fnOf "many" "Keeper.many" (Xaf s_Z18) (Xae s_Z18) (Xab s_Z18) .none kV_Z18 dc_Z18 pm_Z18 an_Z18 cd_Z18 ct_Z18), sl_Z18⟩)
   (c_Z18 : PySem.W.codeIn K cd_Z18 "Keeper.many" = true)
   (k_Z18 : PySem.W.keepIn K (.ref f_Z18) = true)
   (if_Z18 : PySem.W.isFn K (.ref f_Z18) = true)
   {f_Z0 : Addr} {oc_Z0 kV_Z0 dc_Z0 pm_Z0 cd_Z0 ct_Z0 : Value} {od_Z0 an_Z0 : Option Addr} {sl_Z0 : Array (Option Value)}
   (a_Z0 : PySem.W.findIn K (.ref Y10) "room_cell_of" = some (some (.ref f_Z0)))
   (l_Z0 : K.lookup f_Z0 = some ⟨oc_Z0, od_Z0, .func (PySem.W.fnOf "room_cell_of" "Keeper.room_cell_of" (Xaf s_Z0) (Xae s_Z0) (Xab s_Z0) .none kV_Z0 dc_Z0 pm_Z0 an_Z0 cd_Z0 ct_Z0), sl_Z0⟩)
   (c_Z0 : PySem.W.codeIn K cd_Z0 "Keeper.room_cell_of" = true)
   (k_Z0 : PySem.W.keepIn K (.ref f_Z0) = true)
   (if_Z0 : PySem.W.isFn K (.ref f_Z0) = true)
   {f_Z23 : Addr} {oc_Z23 kV_Z23 dc_Z23 pm_Z23 cd_Z23 ct_Z23 : Value} {od_Z23 an_Z23 : Option Addr} {sl_Z23 : Array (Option Value)}
   (a_Z23 : PySem.W.findIn K (.ref Y10) "put" = some (some (.ref f_Z23)))
   (l_Z23 : K.lookup f_Z23 = some ⟨oc_Z23, od_Z23, .func (PySem.W.fnOf "put" "Keeper.put" (Xaf s_Z23) (Xae s_Z23) (Xab s_Z23) .none kV_Z23 dc_Z23 pm_Z23 an_Z23 cd_Z23 ct_Z23), sl_Z23⟩)
   (c_Z23 : PySem.W.codeIn K cd_Z23 "Keeper.put" = true)
   (k_Z23 : PySem.W.keepIn K (.ref f_Z23) = true)
   (if_Z23 : PySem.W.isFn K (.ref f_Z23) = true)
   {f_Z24 : Addr} {oc_Z24 kV_Z24 dc_Z24 pm_Z24 cd_Z24 ct_Z24 : Value} {od_Z24 an_Z24 : Option Addr} {sl_Z24 : Array (Option Value)}
   (a_Z24 : PySem.W.findIn K (.ref Y10) "get" = some (some (.ref f_Z24)))
   (l_Z24 : K.lookup f_Z24 = some ⟨oc_Z24, od_Z24, .func (PySem.W.fnOf "get" "Keeper.get" (Xaf s_Z24) (Xae s_Z24) (Xab s_Z24) .none kV_Z24 dc_Z24 pm_Z24 an_Z24 cd_Z24 ct_Z24), sl_Z24⟩)
   (c_Z24 : PySem.W.codeIn K cd_Z24 "Keeper.get" = true)
   (k_Z24 : PySem.W.keepIn K (.ref f_Z24) = true)
   (if_Z24 : PySem.W.isFn K (.ref f_Z24) = true)
   {f_Z17 : Addr} {oc_Z17 kV_Z17 dc_Z17 pm_Z17 cd_Z17 ct_Z17 : Value} {od_Z17 an_Z17 : Option Addr} {sl_Z17 : Array (Option Value)}
   (a_Z17 : PySem.W.findIn K (.ref Y10) "chosen" = some (some (.ref f_Z17)))
   (l_Z17 : K.lookup f_Z17 = some ⟨oc_Z17, od_Z17, .func (PySem.W.fnOf "chosen" "Next.chosen" (Xaf s_Z17) (Xae s_Z17) (Xab s_Z17) .none kV_Z17 dc_Z17 pm_Z17 an_Z17 cd_Z17 ct_Z17), sl_Z17⟩)
   (c_Z17 : PySem.W.codeIn K cd_Z17 "Next.chosen" = true)
   (k_Z17 : PySem.W.keepIn K (.ref f_Z17) = true)
   (if_Z17 : PySem.W.isFn K (.ref f_Z17) = true)
   {dt_Z8 : Addr} {dk_Z8 : Tok} {dtc_Z8 : Value} {dtd_Z8 : Option Addr} {dtn_Z8 : Nat} {dts_Z8 : Array (Option Value)}
   {f_Z8 : Addr} {oc_Z8 kV_Z8 dc_Z8 pm_Z8 cd_Z8 ct_Z8 : Value} {od_Z8 an_Z8 : Option Addr} {sl_Z8 : Array (Option Value)}
   (a_Z8 : PySem.W.findIn K (.ref Y10) "ask" = some (some (.ref f_Z8)))
   (l_Z8 : K.lookup f_Z8 = some ⟨oc_Z8, od_Z8, .func (PySem.W.fnOf "ask" "Stretches.ask" (Xaf s_Z8) (Xae s_Z8) (Xab s_Z8) (.ref dt_Z8) kV_Z8 dc_Z8 pm_Z8 an_Z8 cd_Z8 ct_Z8), sl_Z8⟩)
   (ld_Z8 : K.lookup dt_Z8 = some ⟨dtc_Z8, dtd_Z8, .seq [.int 1 dk_Z8].toArray dtn_Z8, dts_Z8⟩)
   (c_Z8 : PySem.W.codeIn K cd_Z8 "Stretches.ask" = true)
   (k_Z8 : PySem.W.keepIn K (.ref f_Z8) = true)
   (if_Z8 : PySem.W.isFn K (.ref f_Z8) = true)
   {f_Z5 : Addr} {oc_Z5 kV_Z5 dc_Z5 pm_Z5 cd_Z5 ct_Z5 : Value} {od_Z5 an_Z5 : Option Addr} {sl_Z5 : Array (Option Value)}
   (a_Z5 : PySem.W.findIn K (.ref Y10) "give" = some (some (.ref f_Z5)))
   (l_Z5 : K.lookup f_Z5 = some ⟨oc_Z5, od_Z5, .func (PySem.W.fnOf "give" "Stretches.give" (Xaf s_Z5) (Xae s_Z5) (Xab s_Z5) .none kV_Z5 dc_Z5 pm_Z5 an_Z5 cd_Z5 ct_Z5), sl_Z5⟩)
   (c_Z5 : PySem.W.codeIn K cd_Z5 "Stretches.give" = true)
   (k_Z5 : PySem.W.keepIn K (.ref f_Z5) = true)
   (if_Z5 : PySem.W.isFn K (.ref f_Z5) = true)
   {f_Z1 : Addr} {oc_Z1 kV_Z1 dc_Z1 pm_Z1 cd_Z1 ct_Z1 : Value} {od_Z1 an_Z1 : Option Addr} {sl_Z1 : Array (Option Value)}
   (a_Z1 : PySem.W.findIn K (.ref Y10) "room_moved" = some (some (.ref f_Z1)))
   (l_Z1 : K.lookup f_Z1 = some ⟨oc_Z1, od_Z1, .func (PySem.W.fnOf "room_moved" "Keeper.room_moved" (Xaf s_Z1) (Xae s_Z1) (Xab s_Z1) .none kV_Z1 dc_Z1 pm_Z1 an_Z1 cd_Z1 ct_Z1), sl_Z1⟩)
   (c_Z1 : PySem.W.codeIn K cd_Z1 "Keeper.room_moved" = true)
   (k_Z1 : PySem.W.keepIn K (.ref f_Z1) = true)
   (if_Z1 : PySem.W.isFn K (.ref f_Z1) = true)
   {dt_Z6 : Addr} {dk_Z6 : Tok} {dtc_Z6 : Value} {dtd_Z6 : Option Addr} {dtn_Z6 : Nat} {dts_Z6 : Array (Option Value)}
   {f_Z6 : Addr} {oc_Z6 kV_Z6 dc_Z6 pm_Z6 cd_Z6 ct_Z6 : Value} {od_Z6 an_Z6 : Option Addr} {sl_Z6 : Array (Option Value)}
   (a_Z6 : PySem.W.findIn K (.ref Y10) "grow" = some (some (.ref f_Z6)))
   (l_Z6 : K.lookup f_Z6 = some ⟨oc_Z6, od_Z6, .func (PySem.W.fnOf "grow" "Stretches.grow" (Xaf s_Z6) (Xae s_Z6) (Xab s_Z6) (.ref dt_Z6) kV_Z6 dc_Z6 pm_Z6 an_Z6 cd_Z6 ct_Z6), sl_Z6⟩)
   (ld_Z6 : K.lookup dt_Z6 = some ⟨dtc_Z6, dtd_Z6, .seq [.int 1 dk_Z6].toArray dtn_Z6, dts_Z6⟩)
   (c_Z6 : PySem.W.codeIn K cd_Z6 "Stretches.grow" = true)
   (k_Z6 : PySem.W.keepIn K (.ref f_Z6) = true)
   (if_Z6 : PySem.W.isFn K (.ref f_Z6) = true) :
   ∃ fd : FuncData, (∀ (s : Shared) (v : Value), BindsTo s fd ⟨[v], []⟩ [("_law_script", v)]) ∧ ∀ base : Heap, K.In base → base.Ns mainGlobals mg → FnOk l.prog w K mg base (CXe l.prog w) 15 fa fd ["_law_script"] (spLaw K) := by
 have e := hfa.symm.trans (PySem.W.mg_of X G a_law)
 cases e
 have T : Txt K mg Y0 Y8 Y4 Y3 Y6 Y9 Y2 Y7 Y5 Y1 Y10 W0_ W1_ := ⟨PySem.W.mg_none_of X G z_bool, PySem.W.mg_none_of X G z_int, PySem.W.mg_none_of X G z_isinstance, PySem.W.mg_none_of X G z_len, PySem.W.mg_none_of X G z_list, PySem.W.mg_none_of X G z_min, PySem.W.mg_none_of X G z_range, PySem.W.mg_of X G g_LEAST_LIVE, PySem.W.mg_of X G g_MARKS, PySem.W.mg_of X G cc_StowError, PySem.W.mg_of X G cc_NoSize, PySem.W.mg_of X G cc_Broken, PySem.W.mg_of X G cc_NoPiece, PySem.W.mg_of X G cc_NoCell, PySem.W.mg_of X G cc_NoAsk, PySem.W.mg_of X G cc_NoBound, PySem.W.mg_of X G cc_NoRoom, PySem.W.mg_of X G cc_Keeper, PySem.W.mg_of X G cc_Stretches, PySem.W.mg_of X G cc_Next, ⟨s1_Broken, ⟨_, s2_Broken, s5_Broken, s6_Broken⟩, s3_Broken, s4_Broken⟩, ⟨PySem.W.mg_of X G cc_NoSize, _, _, _, _, xx_NoSize, PySem.F.excBase_ValueError, PySem.F.excBase_ValueError.hasBase⟩, ⟨PySem.W.mg_of X G cc_NoPiece, _, _, _, _, xx_NoPiece, PySem.F.excBase_ValueError, PySem.F.excBase_ValueError.hasBase⟩, ⟨PySem.W.mg_of X G cc_NoRoom, _, _, _, _, xx_NoRoom, PySem.F.excBase_ValueError, PySem.F.excBase_ValueError.hasBase⟩, ⟨pg_Next, hd_Next, po_Next, sa_Next⟩, na_Next_room_cells, na_Next_room_rover, ⟨_, _, ⟨_, _, _, _, _, _, _, _, _, _, _, _, _, _, _, _, lc_NoRoom⟩, ⟨_, _, _, _, _, _, _, _, _, _, _, _, _, _, _, _, lc_NoRoom⟩, fb_NoRoom, fm_NoRoom_NoRoom⟩, ⟨_, _, ⟨_, _, _, _, _, _, _, _, _, _, _, _, _, _, _, _, lc_NoSize⟩, ⟨_, _, _, _, _, _, _, _, _, _, _, _, _, _, _, _, lc_NoSize⟩, fb_NoSize, fm_NoSize_NoSize⟩, ⟨_, _, ⟨_, _, _, _, _, _, _, _, _, _, _, _, _, _, _, _, lc_Broken⟩, ⟨_, _, _, _, _, _, _, _, _, _, _, _, _, _, _, _, lc_NoSize⟩, fb_NoSize, fm_Broken_NoSize⟩, ⟨_, _, ⟨_, _, _, _, _, _, _, _, _, _, _, _, _, _, _, _, lc_Broken⟩, ⟨_, _, _, _, _, _, _, _, _, _, _, _, _, _, _, _, lc_Broken⟩, fb_Broken, fm_Broken_Broken⟩⟩
 have S_Z32 := Xbd (st := s_Z32) X G a_Z32 l_Z32 c_Z32 k_Z32
 have S_Z4 := Xbd (st := s_Z4) X G a_Z4 l_Z4 c_Z4 k_Z4
 have S_Z40 := Xbd (st := s_Z40) X G a_Z40 l_Z40 c_Z40 k_Z40
 have S_Z43 := Xbd (st := s_Z43) X G a_Z43 l_Z43 c_Z43 k_Z43
 have S_Z42 := Xbd (st := s_Z42) X G a_Z42 l_Z42 c_Z42 k_Z42
 have S_Z33 := Xbd (st := s_Z33) X G a_Z33 l_Z33 c_Z33 k_Z33
 have S_Z14 := Xbd (st := s_Z14) X G a_Z14 l_Z14 c_Z14 k_Z14
 have S_Z52 := Xbd (st := s_Z52) X G a_Z52 l_Z52 c_Z52 k_Z52
 have S_Z28 := Xbd (st := s_Z28) X G a_Z28 l_Z28 c_Z28 k_Z28
 have S_Z66 := Xbd (st := s_Z66) X G a_Z66 l_Z66 c_Z66 k_Z66
 have S_Z31 := Xbd (st := s_Z31) X G a_Z31 l_Z31 c_Z31 k_Z31
 have S_Z37 := Xbd (st := s_Z37) X G a_Z37 l_Z37 c_Z37 k_Z37
 have S_Z48 := Xbd (st := s_Z48) X G a_Z48 l_Z48 c_Z48 k_Z48
 have S_Z41 := Xbd (st := s_Z41) X G a_Z41 l_Z41 c_Z41 k_Z41
 have S_Z11 := Xbd (st := s_Z11) X G a_Z11 l_Z11 c_Z11 k_Z11
 have S_Z20 := Xbd (st := s_Z20) X G a_Z20 l_Z20 c_Z20 k_Z20
 have S_Z35 := Xbd (st := s_Z35) X G a_Z35 l_Z35 c_Z35 k_Z35
 have S_Z47 := Xbd (st := s_Z47) X G a_Z47 l_Z47 c_Z47 k_Z47
 have S_Z63 := Xbd (st := s_Z63) X G a_Z63 l_Z63 c_Z63 k_Z63
 have S_Z9 := Xbd (st := s_Z9) X G a_Z9 l_Z9 c_Z9 k_Z9
 have S_Z49 := Xbd (st := s_Z49) X G a_Z49 l_Z49 c_Z49 k_Z49
 have S_Z46 := Xbd (st := s_Z46) X G a_Z46 l_Z46 c_Z46 k_Z46
 have S_Z19 := Xbd (st := s_Z19) X G a_Z19 l_Z19 c_Z19 k_Z19
 have S_Z34 := Xbd (st := s_Z34) X G a_Z34 l_Z34 c_Z34 k_Z34
 have S_Z16 := Xbd (st := s_Z16) X G a_Z16 l_Z16 c_Z16 k_Z16
 have S_Z30 := Xbd (st := s_Z30) X G a_Z30 l_Z30 c_Z30 k_Z30
 have S_Z45 := Xbd (st := s_Z45) X G a_Z45 l_Z45 c_Z45 k_Z45
 have S_Z36 := Xbd (st := s_Z36) X G a_Z36 l_Z36 c_Z36 k_Z36
 have S_Z59 := Xbd (st := s_Z59) X G a_Z59 l_Z59 c_Z59 k_Z59
 have S_Z57 := Xbd (st := s_Z57) X G a_Z57 l_Z57 c_Z57 k_Z57
 have S_Z60 := Xbd (st := s_Z60) X G a_Z60 l_Z60 c_Z60 k_Z60
 have S_Z29 := Xbd (st := s_Z29) X G a_Z29 l_Z29 c_Z29 k_Z29
 have S_Z56 := Xbd (st := s_Z56) X G a_Z56 l_Z56 c_Z56 k_Z56
 have S_Z39 := Xbd (st := s_Z39) X G a_Z39 l_Z39 c_Z39 k_Z39
 have S_Z58 := Xbd (st := s_Z58) X G a_Z58 l_Z58 c_Z58 k_Z58
 have S_Z53 := Xbd (st := s_Z53) X G a_Z53 l_Z53 c_Z53 k_Z53
 have S_Z54 := Xbd (st := s_Z54) X G a_Z54 l_Z54 c_Z54 k_Z54
 have S_Z38 := Xbd (st := s_Z38) X G a_Z38 l_Z38 c_Z38 k_Z38
 have S_Z61 := Xbd (st := s_Z61) X G a_Z61 l_Z61 c_Z61 k_Z61
 have S_Z44 := Xbd (st := s_Z44) X G a_Z44 l_Z44 c_Z44 k_Z44
 have S_Z50 := Xbd (st := s_Z50) X G a_Z50 l_Z50 c_Z50 k_Z50
 subst eb_Broken en_Broken eo_Broken
 have XI_Broken : XIni K mg "Broken" Y4 Y0 f_Broken_init := ⟨PySem.W.mg_of X G cc_Broken, ⟨_, _, _, _, _, _, _, _, _, _, _, _, _, _, _, lc_Broken⟩, xx_StowError, a_Broken_init, kp_Broken, ⟨_, _, _, _, l_Broken_init, rfl⟩⟩
 refine ⟨PySem.W.fnOf "law" "law" (Xaf s_law) (Xae s_law) (Xab s_law) .none kV_law dc_law pm_law an_law cd_law ct_law, fun s v => .of_eq rfl, fun base _ _ => ?_⟩
 have D_Z40 := d_Z40 (P := l.prog) (w := w) (base := base) S_Z40 T 
 have D_Z43 := d_Z43 (P := l.prog) (w := w) (base := base) S_Z43 T 
 have D_Z42 := d_Z42 (P := l.prog) (w := w) (base := base) S_Z42 T 
 have D_Z33 := d_Z33 (P := l.prog) (w := w) (base := base) S_Z33 T D_Z43 D_Z42
 have D_Z14 := d_Z14 (P := l.prog) (w := w) (base := base) S_Z14 T D_Z43 D_Z33
 have D_Broken := d_Broken (P := l.prog) (w := w) (base := base) (Xcq l_Broken_init c_Broken_init k_Broken_init) XI_Broken T.s_Broken
 have D_Z52 := d_Z52 (P := l.prog) (w := w) (base := base) S_Z52 T D_Z43 D_Z42 D_Z14 D_Broken
 have D_Z28 := d_Z28 (P := l.prog) (w := w) (base := base) S_Z28 T D_Z40
 have D_Z66 := d_Z66 (P := l.prog) (w := w) (base := base) S_Z66 T D_Z40
 have D_Z31 := d_Z31 (P := l.prog) (w := w) (base := base) S_Z31 T D_Z66
 have D_Z9 := d_Z9 (P := l.prog) (w := w) (base := base) S_Z9 T 
 have D_Z49 := d_Z49 (P := l.prog) (w := w) (base := base) S_Z49 T D_Z52 D_Z9 D_Z66
 have D_Z37 := d_Z37 (P := l.prog) (w := w) (base := base) S_Z37 T D_Z52
 have D_Z48 := d_Z48 (P := l.prog) (w := w) (base := base) S_Z48 T D_Z37
 have D_Z41 := d_Z41 (P := l.prog) (w := w) (base := base) S_Z41 T D_Z37
 have D_Z47 := d_Z47 (P := l.prog) (w := w) (base := base) S_Z47 T D_Z41 D_Z31 D_Z66
 have D_Z20 := d_Z20 (P := l.prog) (w := w) (base := base) S_Z20 T D_Z42 D_Z43
 have D_Z35 := d_Z35 (P := l.prog) (w := w) (base := base) S_Z35 T D_Z42 D_Z43
 have D_Z63 := d_Z63 (P := l.prog) (w := w) (base := base) S_Z63 T D_Z48 D_Z20 D_Z35 D_Z31
 have D_Z19 := d_Z19 (P := l.prog) (w := w) (base := base) S_Z19 T 
 have D_Z34 := d_Z34 (P := l.prog) (w := w) (base := base) S_Z34 T D_Z19 D_Z52
 have D_Z16 := d_Z16 (P := l.prog) (w := w) (base := base) S_Z16 T 
 have D_Z46 := d_Z46 (P := l.prog) (w := w) (base := base) S_Z46 T 
 have D_Z32 := d_Z32 (P := l.prog) (w := w) (base := base) S_Z32 T 
 have D_Z11 := d_Z11 (P := l.prog) (w := w) (base := base) S_Z11 T D_Z52
 have D_Z27 := d_Z27 (P := l.prog) (w := w) (base := base) (Xcq l_Keeper_init c_Keeper_init k_Keeper_init) ⟨bs_Stretches, br_Stretches, a_Keeper_init, k_Keeper_init⟩ T D_Z28
 have D_Next := d_Next (P := l.prog) (w := w) (base := base) (Xcq l_Next_init c_Next_init k_Next_init) ⟨mk_Next, a_Next_init, if_Next_init, kp_Next⟩ T D_Z27
 have D_Z21 := d_Z21 (P := l.prog) (w := w) (base := base) (Xcq l_Z3 c_Z3 k_Z3) ⟨a_Z3, if_Z3, k_Z3⟩ T D_Z49
 have D_lay := d_lay (P := l.prog) (w := w) (base := base) (Xcq l_Z22 c_Z22 k_Z22) ⟨a_Z22, if_Z22, k_Z22⟩ T D_Z52 D_Z21
 have D_Z65 := d_Z65 (P := l.prog) (w := w) (base := base) (Xcq l_Z10 c_Z10 k_Z10) ⟨a_Z10, if_Z10, k_Z10⟩ T D_Z28 D_Z21
 have D_Z51 := d_Z51 (P := l.prog) (w := w) (base := base) (Xcq l_Z7 c_Z7 k_Z7) ⟨a_Z7, if_Z7, k_Z7⟩ T D_Z52
 have D_Z62 := d_Z62 (P := l.prog) (w := w) (base := base) (Xcq l_Z13 c_Z13 k_Z13) ⟨a_Z13, if_Z13, k_Z13⟩ T 
 have D_Z64 := d_Z64 (P := l.prog) (w := w) (base := base) (Xcq l_Z25 c_Z25 k_Z25) ⟨a_Z25, if_Z25, k_Z25⟩ T 
 have D_Z15 := d_Z15 (P := l.prog) (w := w) (base := base) (Xcq l_Z2 c_Z2 k_Z2) ⟨a_Z2, if_Z2, k_Z2⟩ T 
 have D_Z69 := d_Z69 (P := l.prog) (w := w) (base := base) (Xcq l_Z18 c_Z18 k_Z18) ⟨a_Z18, if_Z18, k_Z18⟩ T D_Z48
 have D_Z12 := d_Z12 (P := l.prog) (w := w) (base := base) (Xcq l_Z0 c_Z0 k_Z0) ⟨a_Z0, if_Z0, k_Z0⟩ T D_Z69
 have D_put := d_put (P := l.prog) (w := w) (base := base) (Xcq l_Z23 c_Z23 k_Z23) ⟨a_Z23, if_Z23, k_Z23⟩ T D_Z12
 have D_get := d_get (P := l.prog) (w := w) (base := base) (Xcq l_Z24 c_Z24 k_Z24) ⟨a_Z24, if_Z24, k_Z24⟩ T D_Z12
 have D_Z55 := d_Z55 (P := l.prog) (w := w) (base := base) (Xcq l_Z17 c_Z17 k_Z17) ⟨a_Z17, if_Z17, k_Z17⟩ T D_Z34 D_Z16
 have D_ask := d_ask (P := l.prog) (w := w) (base := base) (funD_mk l_Z8 c_Z8 k_Z8) ld_Z8 ⟨a_Z8, if_Z8, k_Z8⟩ T D_Z32 D_Z55 D_Z47 D_Z11 D_Z15
 have D_Z67 := d_Z67 (P := l.prog) (w := w) (base := base) (Xcq l_Z5 c_Z5 k_Z5) ⟨a_Z5, if_Z5, k_Z5⟩ T D_Z63
 have D_Z26 := d_Z26 (P := l.prog) (w := w) (base := base) (Xcq l_Z1 c_Z1 k_Z1) ⟨a_Z1, if_Z1, k_Z1⟩ T D_ask D_Z46 D_Z69 D_Z67
 have D_Z68 := d_Z68 (P := l.prog) (w := w) (base := base) (funD_mk l_Z6 c_Z6 k_Z6) ld_Z6 ⟨a_Z6, if_Z6, k_Z6⟩ T D_Z48 D_Z32 D_Z35 D_Z26 D_Z66 D_Z31
 have D_Z30 := d_Z30 (P := l.prog) (w := w) (base := base) S_Z30 T 
 have D_Z45 := d_Z45 (P := l.prog) (w := w) (base := base) S_Z45 T 
 have D_Z36 := d_Z36 (P := l.prog) (w := w) (base := base) S_Z36 T 
 have D_Z59 := d_Z59 (P := l.prog) (w := w) (base := base) S_Z59 T 
 have D_Z57 := d_Z57 (P := l.prog) (w := w) (base := base) S_Z57 T D_Z36
 have D_Z60 := d_Z60 (P := l.prog) (w := w) (base := base) S_Z60 T 
 have D_Z29 := d_Z29 (P := l.prog) (w := w) (base := base) S_Z29 T 
 have D_Z56 := d_Z56 (P := l.prog) (w := w) (base := base) S_Z56 T 
 have D_Z39 := d_Z39 (P := l.prog) (w := w) (base := base) S_Z39 T D_ask D_Z68
 have D_Z58 := d_Z58 (P := l.prog) (w := w) (base := base) S_Z58 T D_Z56 D_Z55 D_Z39 D_Z45 D_Z59 D_Z57
 have D_Z53 := d_Z53 (P := l.prog) (w := w) (base := base) S_Z53 T D_Z60 D_Z58 D_Z39 D_Z45 D_Z29
 have D_Z54 := d_Z54 (P := l.prog) (w := w) (base := base) S_Z54 T D_lay D_Z62
 have D_Z38 := d_Z38 (P := l.prog) (w := w) (base := base) S_Z38 T 
 have D_Z61 := d_Z61 (P := l.prog) (w := w) (base := base) S_Z61 T D_put D_get D_Z69
 have D_Z44 := d_Z44 (P := l.prog) (w := w) (base := base) S_Z44 T D_Z56 D_Z55 D_Z45 D_Z64
 have D_Z50 := d_Z50 (P := l.prog) (w := w) (base := base) S_Z50 T D_Z58 D_Z54 D_Z65 D_lay D_Z38 D_Z62 D_Z53 D_Z67 D_Z57
 exact ok_law (Xcq l_law c_law k_law) T D_Z30 D_Next D_Z61 D_Z44 D_Z50 D_Z51 D_Z64 D_Z45
theorem walk {l : PySem.W.OpenLaw} {q : Program} {loose : List Str} {XP : (Str → Option Value) → Heap → Prop} {YP : World → Heap → Prop} {d : DefRec} {K : Params → PySem.W.Frag} (hn : l.most = some 63) (hdf : d.params.defaults = [])
   (hY : ∀ (w : World) (h : Heap), YP w h → (K w.params).In h)
   (F : ∀ (w : World) (mg : Str → Option Value) (fa : Addr) (h : Heap), (K w.params).In h → h.Ns mainGlobals mg → mg d.name = some (.ref fa) →
     ∃ fd : FuncData, (∀ (s : Shared) (u : Value), BindsTo s fd ⟨[u], []⟩ [("_law_script", u)]) ∧ ∀ base : Heap, (K w.params).In base → base.Ns mainGlobals mg → FnOk l.prog w (K w.params) mg base (CXe l.prog w) 15 fa fd ["_law_script"] (spLaw (K w.params))) :
   PySem.W.WalkO q loose XP YP l.row.toRowW d [] (fun f vs => PySem.call f vs) :=
 L2.walk_of (n := 63) (k := 15) (x := "_law_script") (CX := fun w => (CXe l.prog w)) (sp := fun w => spLaw (K w.params)) hn (by decide) hdf ⟨rfl, by decide, by decide⟩ hY F (fun _ _ a ns hl _ hS => ⟨a, ns, rfl, hS, hl, fun _ => rfl⟩) (fun _ _ _ _ _ ⟨_, _, _, _, _, _, _, _, _, _, _, _, _, _, _, z⟩ => z)
end Stow
open PySem PySem.W PyProof.Rows
set_option maxRecDepth 100000 in
set_option maxHeartbeats 0 in
theorem PySem.Challenge.cw_stow_k17_next_holds : PySem.Challenge.rw_stow_k17_next.Holds := by
 w_on; o_law
 refine holds_open (XP := fun _ _ => True) (YP := InK Stow.heap0) Stow.left0 ?y (InK.keeps (K := Stow.heap0)) (fun _ _ => trivial) (fun _ _ _ h _ => h) rfl rfl rfl (fun _ e => recFacts_of e) rfl
   (by assumption) (by decide +kernel) ⟨rfl, rfl, rfl, rfl, rfl, by decide +kernel⟩ ?hw ?hc
 case y => exact InK.of Stow.at0_eq
 case hw => w_witness2
 k_fill
 refine Stow.walk (l := PySem.Challenge.rw_stow_k17_next) rfl rfl (fun w h Y => Y) ?F
 case F =>
   intro w mg fa h KX G hmg
   refine' Stow.all_mk KX G hmg ?a_Z32 ?l_Z32 ?c_Z32 ?k_Z32 ?a_Z4 ?l_Z4 ?c_Z4 ?k_Z4 ?a_Z40 ?l_Z40 ?c_Z40 ?k_Z40 ?a_Z43 ?l_Z43 ?c_Z43 ?k_Z43 ?a_Z42 ?l_Z42 ?c_Z42 ?k_Z42 ?a_Z33 ?l_Z33 ?c_Z33 ?k_Z33 ?a_Z14 ?l_Z14 ?c_Z14 ?k_Z14 ?a_Z52 ?l_Z52 ?c_Z52 ?k_Z52 ?a_Z28 ?l_Z28 ?c_Z28 ?k_Z28 ?a_Z66 ?l_Z66 ?c_Z66 ?k_Z66 ?a_Z31 ?l_Z31 ?c_Z31 ?k_Z31 ?a_Z37 ?l_Z37 ?c_Z37 ?k_Z37 ?a_Z48 ?l_Z48 ?c_Z48 ?k_Z48 ?a_Z41 ?l_Z41 ?c_Z41 ?k_Z41 ?a_Z11 ?l_Z11 ?c_Z11 ?k_Z11 ?a_Z20 ?l_Z20 ?c_Z20 ?k_Z20 ?a_Z35 ?l_Z35 ?c_Z35 ?k_Z35 ?a_Z47 ?l_Z47 ?c_Z47 ?k_Z47 ?a_Z63 ?l_Z63 ?c_Z63 ?k_Z63 ?a_Z9 ?l_Z9 ?c_Z9 ?k_Z9 ?a_Z49 ?l_Z49 ?c_Z49 ?k_Z49 ?a_Z46 ?l_Z46 ?c_Z46 ?k_Z46 ?a_Z19 ?l_Z19 ?c_Z19 ?k_Z19 ?a_Z34 ?l_Z34 ?c_Z34 ?k_Z34 ?a_Z16 ?l_Z16 ?c_Z16 ?k_Z16 ?a_Z30 ?l_Z30 ?c_Z30 ?k_Z30 ?a_Z45 ?l_Z45 ?c_Z45 ?k_Z45 ?a_Z36 ?l_Z36 ?c_Z36 ?k_Z36 ?a_Z59 ?l_Z59 ?c_Z59 ?k_Z59 ?a_Z57 ?l_Z57 ?c_Z57 ?k_Z57 ?a_Z60 ?l_Z60 ?c_Z60 ?k_Z60 ?a_Z29 ?l_Z29 ?c_Z29 ?k_Z29 ?a_Z56 ?l_Z56 ?c_Z56 ?k_Z56 ?a_Z39 ?l_Z39 ?c_Z39 ?k_Z39 ?a_Z58 ?l_Z58 ?c_Z58 ?k_Z58 ?a_Z53 ?l_Z53 ?c_Z53 ?k_Z53 ?a_Z54 ?l_Z54 ?c_Z54 ?k_Z54 ?a_Z38 ?l_Z38 ?c_Z38 ?k_Z38 ?a_Z61 ?l_Z61 ?c_Z61 ?k_Z61 ?a_Z44 ?l_Z44 ?c_Z44 ?k_Z44 ?a_Z50 ?l_Z50 ?c_Z50 ?k_Z50 ?a_law ?l_law ?c_law ?k_law ?z_bool ?z_int ?z_isinstance ?z_len ?z_list ?z_min ?z_range ?g_LEAST_LIVE ?g_MARKS ?cc_StowError ?cc_NoSize ?cc_Broken ?cc_NoPiece ?cc_NoCell ?cc_NoAsk ?cc_NoBound ?cc_NoRoom ?cc_Keeper ?cc_Stretches ?cc_Next ?s1_Broken ?s2_Broken ?s5_Broken ?s6_Broken ?s3_Broken ?s4_Broken ?xx_NoSize ?xx_NoPiece ?xx_NoRoom ?pg_Next ?hd_Next ?po_Next ?sa_Next ?na_Next_room_cells ?na_Next_room_rover ?lc_NoRoom ?fb_NoRoom ?fm_NoRoom_NoRoom ?lc_NoSize ?fb_NoSize ?fm_NoSize_NoSize ?lc_Broken ?fm_Broken_NoSize ?fb_Broken ?fm_Broken_Broken ?xx_StowError ?kp_Broken ?a_Broken_init ?l_Broken_init ?c_Broken_init ?k_Broken_init ?eb_Broken ?en_Broken ?eo_Broken ?a_Keeper_init ?l_Keeper_init ?c_Keeper_init ?k_Keeper_init ?bs_Stretches ?br_Stretches ?a_Next_init ?l_Next_init ?c_Next_init ?k_Next_init ?if_Next_init ?mk_Next ?kp_Next ?a_Z3 ?l_Z3 ?c_Z3 ?k_Z3 ?if_Z3 ?a_Z22 ?l_Z22 ?c_Z22 ?k_Z22 ?if_Z22 ?a_Z10 ?l_Z10 ?c_Z10 ?k_Z10 ?if_Z10 ?a_Z7 ?l_Z7 ?c_Z7 ?k_Z7 ?if_Z7 ?a_Z13 ?l_Z13 ?c_Z13 ?k_Z13 ?if_Z13 ?a_Z25 ?l_Z25 ?c_Z25 ?k_Z25 ?if_Z25 ?a_Z2 ?l_Z2 ?c_Z2 ?k_Z2 ?if_Z2 ?a_Z18 ?l_Z18 ?c_Z18 ?k_Z18 ?if_Z18 ?a_Z0 ?l_Z0 ?c_Z0 ?k_Z0 ?if_Z0 ?a_Z23 ?l_Z23 ?c_Z23 ?k_Z23 ?if_Z23 ?a_Z24 ?l_Z24 ?c_Z24 ?k_Z24 ?if_Z24 ?a_Z17 ?l_Z17 ?c_Z17 ?k_Z17 ?if_Z17 ?a_Z8 ?l_Z8 ?ld_Z8 ?c_Z8 ?k_Z8 ?if_Z8 ?a_Z5 ?l_Z5 ?c_Z5 ?k_Z5 ?if_Z5 ?a_Z1 ?l_Z1 ?c_Z1 ?k_Z1 ?if_Z1 ?a_Z6 ?l_Z6 ?ld_Z6 ?c_Z6 ?k_Z6 ?if_Z6
   (case a_Z32 => k_is)
   (case l_Z32 => k_is)
   (case c_Z32 => k_is)
   (case k_Z32 => k_is)
   (case a_Z4 => k_is)
   (case l_Z4 => k_is)
   (case c_Z4 => k_is)
   (case k_Z4 => k_is)
   (case a_Z40 => k_is)
   (case l_Z40 => k_is)
   (case c_Z40 => k_is)
   (case k_Z40 => k_is)
   (case a_Z43 => k_is)
   (case l_Z43 => k_is)
   (case c_Z43 => k_is)
   (case k_Z43 => k_is)
   (case a_Z42 => k_is)
   (case l_Z42 => k_is)
   (case c_Z42 => k_is)
   (case k_Z42 => k_is)
   (case a_Z33 => k_is)
   (case l_Z33 => k_is)
   (case c_Z33 => k_is)
   (case k_Z33 => k_is)
   (case a_Z14 => k_is)
   (case l_Z14 => k_is)
   (case c_Z14 => k_is)
   (case k_Z14 => k_is)
   (case a_Z52 => k_is)
   (case l_Z52 => k_is)
   (case c_Z52 => k_is)
   (case k_Z52 => k_is)
   (case a_Z28 => k_is)
   (case l_Z28 => k_is)
   (case c_Z28 => k_is)
   (case k_Z28 => k_is)
   (case a_Z66 => k_is)
   (case l_Z66 => k_is)
   (case c_Z66 => k_is)
   (case k_Z66 => k_is)
   (case a_Z31 => k_is)
   (case l_Z31 => k_is)
   (case c_Z31 => k_is)
   (case k_Z31 => k_is)
   (case a_Z37 => k_is)
   (case l_Z37 => k_is)
   (case c_Z37 => k_is)
   (case k_Z37 => k_is)
   (case a_Z48 => k_is)
   (case l_Z48 => k_is)
   (case c_Z48 => k_is)
   (case k_Z48 => k_is)
   (case a_Z41 => k_is)
   (case l_Z41 => k_is)
   (case c_Z41 => k_is)
   (case k_Z41 => k_is)
   (case a_Z11 => k_is)
   (case l_Z11 => k_is)
   (case c_Z11 => k_is)
   (case k_Z11 => k_is)
   (case a_Z20 => k_is)
   (case l_Z20 => k_is)
   (case c_Z20 => k_is)
   (case k_Z20 => k_is)
   (case a_Z35 => k_is)
   (case l_Z35 => k_is)
   (case c_Z35 => k_is)
   (case k_Z35 => k_is)
   (case a_Z47 => k_is)
   (case l_Z47 => k_is)
   (case c_Z47 => k_is)
   (case k_Z47 => k_is)
   (case a_Z63 => k_is)
   (case l_Z63 => k_is)
   (case c_Z63 => k_is)
   (case k_Z63 => k_is)
   (case a_Z9 => k_is)
   (case l_Z9 => k_is)
   (case c_Z9 => k_is)
   (case k_Z9 => k_is)
   (case a_Z49 => k_is)
   (case l_Z49 => k_is)
   (case c_Z49 => k_is)
   (case k_Z49 => k_is)
   (case a_Z46 => k_is)
   (case l_Z46 => k_is)
   (case c_Z46 => k_is)
   (case k_Z46 => k_is)
   (case a_Z19 => k_is)
   (case l_Z19 => k_is)
   (case c_Z19 => k_is)
   (case k_Z19 => k_is)
   (case a_Z34 => k_is)
   (case l_Z34 => k_is)
   (case c_Z34 => k_is)
   (case k_Z34 => k_is)
   (case a_Z16 => k_is)
   (case l_Z16 => k_is)
   (case c_Z16 => k_is)
   (case k_Z16 => k_is)
   (case a_Z30 => k_is)
   (case l_Z30 => k_is)
   (case c_Z30 => k_is)
   (case k_Z30 => k_is)
   (case a_Z45 => k_is)
   (case l_Z45 => k_is)
   (case c_Z45 => k_is)
   (case k_Z45 => k_is)
   (case a_Z36 => k_is)
   (case l_Z36 => k_is)
   (case c_Z36 => k_is)
   (case k_Z36 => k_is)
   (case a_Z59 => k_is)
   (case l_Z59 => k_is)
   (case c_Z59 => k_is)
   (case k_Z59 => k_is)
   (case a_Z57 => k_is)
   (case l_Z57 => k_is)
   (case c_Z57 => k_is)
   (case k_Z57 => k_is)
   (case a_Z60 => k_is)
   (case l_Z60 => k_is)
   (case c_Z60 => k_is)
   (case k_Z60 => k_is)
   (case a_Z29 => k_is)
   (case l_Z29 => k_is)
   (case c_Z29 => k_is)
   (case k_Z29 => k_is)
   (case a_Z56 => k_is)
   (case l_Z56 => k_is)
   (case c_Z56 => k_is)
   (case k_Z56 => k_is)
   (case a_Z39 => k_is)
   (case l_Z39 => k_is)
   (case c_Z39 => k_is)
   (case k_Z39 => k_is)
   (case a_Z58 => k_is)
   (case l_Z58 => k_is)
   (case c_Z58 => k_is)
   (case k_Z58 => k_is)
   (case a_Z53 => k_is)
   (case l_Z53 => k_is)
   (case c_Z53 => k_is)
   (case k_Z53 => k_is)
   (case a_Z54 => k_is)
   (case l_Z54 => k_is)
   (case c_Z54 => k_is)
   (case k_Z54 => k_is)
   (case a_Z38 => k_is)
   (case l_Z38 => k_is)
   (case c_Z38 => k_is)
   (case k_Z38 => k_is)
   (case a_Z61 => k_is)
   (case l_Z61 => k_is)
   (case c_Z61 => k_is)
   (case k_Z61 => k_is)
   (case a_Z44 => k_is)
   (case l_Z44 => k_is)
   (case c_Z44 => k_is)
   (case k_Z44 => k_is)
   (case a_Z50 => k_is)
   (case l_Z50 => k_is)
   (case c_Z50 => k_is)
   (case k_Z50 => k_is)
   (case a_law => k_is)
   (case l_law => k_is)
   (case c_law => k_is)
   (case k_law => k_is)
   (case z_bool => k_is)
   (case z_int => k_is)
   (case z_isinstance => k_is)
   (case z_len => k_is)
   (case z_list => k_is)
   (case z_min => k_is)
   (case z_range => k_is)
   (case g_LEAST_LIVE => k_is)
   (case g_MARKS => k_is)
   (case cc_StowError => k_is)
   (case cc_NoSize => k_is)
   (case cc_Broken => k_is)
   (case cc_NoPiece => k_is)
   (case cc_NoCell => k_is)
   (case cc_NoAsk => k_is)
   (case cc_NoBound => k_is)
   (case cc_NoRoom => k_is)
   (case cc_Keeper => k_is)
   (case cc_Stretches => k_is)
   (case cc_Next => k_is)
   (case s1_Broken => k_is)
   (case s2_Broken => k_is)
   (case s5_Broken => decide +kernel)
   (case s6_Broken => rfl)
   (case s3_Broken => k_is)
   (case s4_Broken => k_is)
   (case xx_NoSize => k_exc)
   (case xx_NoPiece => k_exc)
   (case xx_NoRoom => k_exc)
   (case pg_Next => k_is)
   (case hd_Next => k_is)
   (case po_Next => k_is)
   (case sa_Next => k_is)
   (case na_Next_room_cells => k_is)
   (case na_Next_room_rover => k_is)
   (case lc_NoRoom => k_is)
   (case fb_NoRoom => decide +kernel)
   (case fm_NoRoom_NoRoom => decide +kernel)
   (case lc_NoSize => k_is)
   (case fb_NoSize => decide +kernel)
   (case fm_NoSize_NoSize => decide +kernel)
   (case lc_Broken => k_is)
   (case fm_Broken_NoSize => decide +kernel)
   (case fb_Broken => decide +kernel)
   (case fm_Broken_Broken => decide +kernel)
   (case xx_StowError => k_exc)
   (case kp_Broken => k_is)
   (case a_Broken_init => k_is)
   (case l_Broken_init => k_is)
   (case c_Broken_init => k_is)
   (case k_Broken_init => k_is)
   (case eb_Broken => rfl)
   (case en_Broken => rfl)
   (case eo_Broken => rfl)
   (case a_Keeper_init => k_is)
   (case l_Keeper_init => k_is)
   (case c_Keeper_init => k_is)
   (case k_Keeper_init => k_is)
   (case bs_Stretches => k_is)
   (case br_Stretches => k_is)
   (case a_Next_init => k_is)
   (case l_Next_init => k_is)
   (case c_Next_init => k_is)
   (case k_Next_init => k_is)
   (case if_Next_init => k_is)
   (case mk_Next => k_is)
   (case kp_Next => k_is)
   (case a_Z3 => k_is)
   (case l_Z3 => k_is)
   (case c_Z3 => k_is)
   (case k_Z3 => k_is)
   (case if_Z3 => k_is)
   (case a_Z22 => k_is)
   (case l_Z22 => k_is)
   (case c_Z22 => k_is)
   (case k_Z22 => k_is)
   (case if_Z22 => k_is)
   (case a_Z10 => k_is)
   (case l_Z10 => k_is)
   (case c_Z10 => k_is)
   (case k_Z10 => k_is)
   (case if_Z10 => k_is)
   (case a_Z7 => k_is)
   (case l_Z7 => k_is)
   (case c_Z7 => k_is)
   (case k_Z7 => k_is)
   (case if_Z7 => k_is)
   (case a_Z13 => k_is)
   (case l_Z13 => k_is)
   (case c_Z13 => k_is)
   (case k_Z13 => k_is)
   (case if_Z13 => k_is)
   (case a_Z25 => k_is)
   (case l_Z25 => k_is)
   (case c_Z25 => k_is)
   (case k_Z25 => k_is)
   (case if_Z25 => k_is)
   (case a_Z2 => k_is)
   (case l_Z2 => k_is)
   (case c_Z2 => k_is)
   (case k_Z2 => k_is)
   (case if_Z2 => k_is)
   (case a_Z18 => k_is)
   (case l_Z18 => k_is)
   (case c_Z18 => k_is)
   (case k_Z18 => k_is)
   (case if_Z18 => k_is)
   (case a_Z0 => k_is)
   (case l_Z0 => k_is)
   (case c_Z0 => k_is)
   (case k_Z0 => k_is)
   (case if_Z0 => k_is)
   (case a_Z23 => k_is)
   (case l_Z23 => k_is)
   (case c_Z23 => k_is)
   (case k_Z23 => k_is)
   (case if_Z23 => k_is)
   (case a_Z24 => k_is)
   (case l_Z24 => k_is)
   (case c_Z24 => k_is)
   (case k_Z24 => k_is)
   (case if_Z24 => k_is)
   (case a_Z17 => k_is)
   (case l_Z17 => k_is)
   (case c_Z17 => k_is)
   (case k_Z17 => k_is)
   (case if_Z17 => k_is)
   (case a_Z8 => k_is)
   (case l_Z8 => k_is)
   (case ld_Z8 => k_is)
   (case c_Z8 => k_is)
   (case k_Z8 => k_is)
   (case if_Z8 => k_is)
   (case a_Z5 => k_is)
   (case l_Z5 => k_is)
   (case c_Z5 => k_is)
   (case k_Z5 => k_is)
   (case if_Z5 => k_is)
   (case a_Z1 => k_is)
   (case l_Z1 => k_is)
   (case c_Z1 => k_is)
   (case k_Z1 => k_is)
   (case if_Z1 => k_is)
   (case a_Z6 => k_is)
   (case l_Z6 => k_is)
   (case ld_Z6 => k_is)
   (case c_Z6 => k_is)
   (case k_Z6 => k_is)
   (case if_Z6 => k_is)
