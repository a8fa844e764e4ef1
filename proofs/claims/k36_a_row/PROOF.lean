import PyProof.Rows.All
import Wide.All
import OpenK.AllK
import Wide.FinOn
import Lean
import PyProof.EqAt
import PyProof.EqKinds
import PyProof.TupleCall
import PyProof.NeKinds
import PyProof.StationsW
import PyProof.RulesAs
import PyProof.ExcClass3
import PyProof.ExcInit
import PyProof.ExcArgsOwn
import PyProof.IsiH_set
import PyProof.NsDelKeeps
import PyProof.CompFree
import PySem.Challenge.RW_stow_k36_a_row
set_option Elab.async false
set_option linter.all false
set_option maxRecDepth 100000
set_option maxHeartbeats 4000000
namespace L2
open PySem PySem.Spec PyProof.Rows
def inClass (s : Stmt) (j : Nat) : Stmt := match s with
 | .ClassDef _ _ _ body _ _ _ _ _ _ _ => body.getD j (.Pass ⟨0, 0, 0, 0⟩)
 | _ => .Pass ⟨0, 0, 0, 0⟩
def defArgs (s : Stmt) : Arguments := match s with
 | .FunctionDef _ a _ _ _ _ _ _ _ _ => a
 | _ => { posonlyargs := [], args := [], vararg := none, kwonlyargs := [], kw_defaults := [], kwarg := none, defaults := [] }
def defBody (s : Stmt) : List Stmt := match s with
 | .FunctionDef _ _ b _ _ _ _ _ _ _ => b
 | _ => []
def defScope (s : Stmt) : Scope := match s with
 | .FunctionDef _ _ _ _ _ _ sc _ _ _ => sc
 | _ => { kind := .function, names := [], isGenerator := false, isCoroutine := false }
end L2
namespace Stow
open PySem L2 PyProof.Rows
def top (i : Nat) : Stmt := PySem.Challenge.pw_stow_k36_a_row.main.body.getD i (.Pass ⟨0, 0, 0, 0⟩)
def en (P : Params) (s : Str) (t : Tok) (v : Value) : DictEntry := ⟨PyData.keyHash P s, .str s t, v⟩
def fo (nm qn : Str) (st : Stmt) (dV kV dc pm : Value) (an : Option Addr) (cd ct : Value) (od : Option Addr) : Obj := ⟨.type "function", od, .func (PySem.W.fnOf nm qn (defArgs st) (defBody st) (defScope st) dV kV dc pm an cd ct), #[]⟩
def fq (nm qn : Str) (st : Stmt) : Obj := ⟨.none, none, .func { name := nm, qualname := qn, params := defArgs st, body := .stmts (defBody st), scope := defScope st, globals := 0, closure := [], defaults := .none, kwdefaults := .none }, #[]⟩
def tu (l : List Value) : Obj := ⟨(.type "tuple"), none, .seq l.toArray 0, #[]⟩
def fl (l : List Value) : Obj := ⟨.none, none, .fields l.toArray, #[]⟩
def co (l : List Value) : Obj := ⟨(.type "code"), none, .fields l.toArray, #[]⟩
def ho0 (P : Params) : Obj := ⟨(.type "tuple"), none, .seq #[] 0, #[]⟩
def ho1 (P : Params) : Obj := ⟨.none, none, .fields #[], #[]⟩
def ho2 (P : Params) : Obj := co ((.str "<module>" 182) :: (.str "<module>" 183) :: (.str "/claim/cut.py" 184) :: (.int 1 0) :: (.int 0 0) :: (.int 0 0) :: (.int 0 0) :: (.int 0 0) :: (.ref 11) :: (.bool false) :: (.int 181 0) :: (.ref 12) :: .none :: .none :: .none :: .none :: (.int 185 0) :: (.int 1 0) :: (.str "/claim/cut.py" 186) :: [])
def ho3 (P : Params) : Obj := ⟨(.type "frame"), none, .plain, ((some (.ref 13)) :: (some (.ref 3)) :: (some (.ref 3)) :: none :: (some (.str "__main__" 164)) :: none :: (some (.ref 0)) :: []).toArray⟩
def ho4 (P : Params) : Obj := ⟨(.type "dict"), none, .dict (en P "__name__" 165 (.str "stow.errors" 187) :: en P "__doc__" 166 .none :: en P "__package__" 167 .none :: en P "__loader__" 168 (.builtin "__main__.__loader__#opaque") :: en P "__spec__" 169 .none :: en P "__annotations__" 170 (.ref 6) :: en P "__builtins__" 171 (.ref 4) :: en P "__file__" 173 (.str "/claim/cut.py" 172) :: en P "__cached__" 174 .none :: en P "StowError" 206 (.ref 24) :: en P "NoName" 222 (.ref 37) :: en P "NoSize" 238 (.ref 49) :: en P "Broken" 263 (.ref 68) :: en P "NoGive" 279 (.ref 80) :: en P "NoHandle" 295 (.ref 92) :: en P "NoPiece" 311 (.ref 104) :: en P "NoCell" 327 (.ref 116) :: []).toArray 17, #[]⟩
def ho5 (P : Params) : Obj := fl ((.int 2 0) :: (.int 0 0) :: (.ref 20) :: (.int 4 0) :: (.int 0 0) :: (.ref 33) :: (.int 6 0) :: (.int 0 0) :: (.ref 45) :: (.int 8 0) :: (.int 0 0) :: (.ref 57) :: (.int 12 0) :: (.int 0 0) :: (.ref 76) :: (.int 14 0) :: (.int 0 0) :: (.ref 88) :: (.int 16 0) :: (.int 0 0) :: (.ref 100) :: (.int 18 0) :: (.int 0 0) :: (.ref 112) :: [])
def ho6 (P : Params) : Obj := tu ((.type "ValueError") :: [])
def ho7 (P : Params) : Obj := ⟨(.type "builtin_function_or_method"), none, .fields ((.builtin "type.__prepare__") :: (.type "type") :: []).toArray, #[]⟩
def ho8 (P : Params) : Obj := ⟨(.type "dict"), none, .dict (en P "__module__" 196 (.str "stow.errors" 187) :: en P "__qualname__" 198 (.str "StowError" 197) :: en P "__firstlineno__" 200 (.int 2 199) :: en P "__static_attributes__" 201 (.ref 22) :: []).toArray 4, #[]⟩
def ho11 (P : Params) : Obj := co ((.str "StowError" 191) :: (.str "StowError" 192) :: (.str "/claim/cut.py" 193) :: (.int 2 0) :: (.int 0 0) :: (.int 0 0) :: (.int 0 0) :: (.int 0 0) :: (.ref 18) :: (.bool false) :: (.int 181 0) :: (.ref 19) :: .none :: .none :: .none :: .none :: (.int 194 0) :: (.int 2 0) :: (.str "/claim/cut.py" 195) :: [])
def ho12 (P : Params) : Obj := ⟨(.type "frame"), none, .plain, ((some (.ref 20)) :: (some (.ref 3)) :: (some (.ref 17)) :: none :: (some (.str "stow.errors" 187)) :: none :: (some (.ref 0)) :: []).toArray⟩
def ho14 (P : Params) : Obj := ⟨(.type "dict"), none, .dict (en P "__module__" 196 (.str "stow.errors" 187) :: en P "__firstlineno__" 200 (.int 2 199) :: en P "__static_attributes__" 201 (.ref 22) :: en P "__weakref__" 203 (.ref 25) :: en P "__doc__" 204 .none :: []).toArray 3, #[]⟩
def ho15 (P : Params) : Obj := ⟨(.type "type"), none, .cls ⟨"StowError", [(.type "ValueError")], [(.ref 24), (.type "ValueError"), (.type "Exception"), (.type "BaseException"), (.type "object")], 23, "StowError", true, [], [(.ref 37), (.ref 49), (.ref 68), (.ref 80), (.ref 92), (.ref 104), (.ref 116)], false, none, false⟩, ((some (.ref 15)) :: none :: (some (.str "StowError" 189)) :: (some (.str "StowError" 197)) :: (some (.builtin "ValueError.__new__")) :: (some (.bool true)) :: []).toArray⟩
def ho16 (P : Params) : Obj := ⟨(.type "getset_descriptor"), none, .fields ((.str "__weakref__" 202) :: (.ref 24) :: (.builtin "ExceptionGroup.__weakref__") :: .none :: []).toArray, #[]⟩
def ho17 (P : Params) : Obj := ⟨(.type "super"), none, .fields ((.ref 24) :: (.ref 24) :: (.ref 24) :: []).toArray, #[]⟩
def ho18 (P : Params) : Obj := ⟨(.type "builtin_function_or_method"), none, .fields ((.builtin "object.__init_subclass__") :: (.ref 24) :: []).toArray, #[]⟩
def ho19 (P : Params) : Obj := tu ((.ref 24) :: [])
def ho21 (P : Params) : Obj := ⟨(.type "dict"), none, .dict (en P "__module__" 214 (.str "stow.errors" 187) :: en P "__qualname__" 216 (.str "NoName" 215) :: en P "__firstlineno__" 218 (.int 4 217) :: en P "__static_attributes__" 219 (.ref 35) :: []).toArray 4, #[]⟩
def ho24 (P : Params) : Obj := co ((.str "NoName" 209) :: (.str "NoName" 210) :: (.str "/claim/cut.py" 211) :: (.int 4 0) :: (.int 0 0) :: (.int 0 0) :: (.int 0 0) :: (.int 0 0) :: (.ref 31) :: (.bool false) :: (.int 181 0) :: (.ref 32) :: .none :: .none :: .none :: .none :: (.int 212 0) :: (.int 4 0) :: (.str "/claim/cut.py" 213) :: [])
def ho25 (P : Params) : Obj := ⟨(.type "frame"), none, .plain, ((some (.ref 33)) :: (some (.ref 3)) :: (some (.ref 30)) :: none :: (some (.str "stow.errors" 187)) :: none :: (some (.ref 0)) :: []).toArray⟩
def ho27 (P : Params) : Obj := ⟨(.type "dict"), none, .dict (en P "__module__" 214 (.str "stow.errors" 187) :: en P "__firstlineno__" 218 (.int 4 217) :: en P "__static_attributes__" 219 (.ref 35) :: en P "__doc__" 220 .none :: []).toArray 2, #[]⟩
def ho28 (P : Params) : Obj := ⟨(.type "type"), none, .cls ⟨"NoName", [(.ref 24)], [(.ref 37), (.ref 24), (.type "ValueError"), (.type "Exception"), (.type "BaseException"), (.type "object")], 36, "NoName", true, [], [], false, none, false⟩, ((some (.ref 28)) :: none :: (some (.str "NoName" 207)) :: (some (.str "NoName" 215)) :: (some (.builtin "ValueError.__new__")) :: (some (.bool true)) :: []).toArray⟩
def ho29 (P : Params) : Obj := ⟨(.type "super"), none, .fields ((.ref 37) :: (.ref 37) :: (.ref 37) :: []).toArray, #[]⟩
def ho30 (P : Params) : Obj := ⟨(.type "builtin_function_or_method"), none, .fields ((.builtin "object.__init_subclass__") :: (.ref 37) :: []).toArray, #[]⟩
def ho33 (P : Params) : Obj := ⟨(.type "dict"), none, .dict (en P "__module__" 230 (.str "stow.errors" 187) :: en P "__qualname__" 232 (.str "NoSize" 231) :: en P "__firstlineno__" 234 (.int 6 233) :: en P "__static_attributes__" 235 (.ref 47) :: []).toArray 4, #[]⟩
def ho36 (P : Params) : Obj := co ((.str "NoSize" 225) :: (.str "NoSize" 226) :: (.str "/claim/cut.py" 227) :: (.int 6 0) :: (.int 0 0) :: (.int 0 0) :: (.int 0 0) :: (.int 0 0) :: (.ref 43) :: (.bool false) :: (.int 181 0) :: (.ref 44) :: .none :: .none :: .none :: .none :: (.int 228 0) :: (.int 6 0) :: (.str "/claim/cut.py" 229) :: [])
def ho37 (P : Params) : Obj := ⟨(.type "frame"), none, .plain, ((some (.ref 45)) :: (some (.ref 3)) :: (some (.ref 42)) :: none :: (some (.str "stow.errors" 187)) :: none :: (some (.ref 0)) :: []).toArray⟩
def ho39 (P : Params) : Obj := ⟨(.type "dict"), none, .dict (en P "__module__" 230 (.str "stow.errors" 187) :: en P "__firstlineno__" 234 (.int 6 233) :: en P "__static_attributes__" 235 (.ref 47) :: en P "__doc__" 236 .none :: []).toArray 2, #[]⟩
def ho40 (P : Params) : Obj := ⟨(.type "type"), none, .cls ⟨"NoSize", [(.ref 24)], [(.ref 49), (.ref 24), (.type "ValueError"), (.type "Exception"), (.type "BaseException"), (.type "object")], 48, "NoSize", true, [], [], false, none, false⟩, ((some (.ref 40)) :: none :: (some (.str "NoSize" 223)) :: (some (.str "NoSize" 231)) :: (some (.builtin "ValueError.__new__")) :: (some (.bool true)) :: []).toArray⟩
def ho41 (P : Params) : Obj := ⟨(.type "super"), none, .fields ((.ref 49) :: (.ref 49) :: (.ref 49) :: []).toArray, #[]⟩
def ho42 (P : Params) : Obj := ⟨(.type "builtin_function_or_method"), none, .fields ((.builtin "object.__init_subclass__") :: (.ref 49) :: []).toArray, #[]⟩
def ho45 (P : Params) : Obj := ⟨(.type "dict"), none, .dict (en P "__module__" 246 (.str "stow.errors" 187) :: en P "__qualname__" 248 (.str "Broken" 247) :: en P "__firstlineno__" 250 (.int 8 249) :: en P "__init__" 258 (.ref 65) :: en P "__static_attributes__" 260 (.ref 66) :: []).toArray 5, #[]⟩
def ho47 (P : Params) : Obj := fl ((.int 10 0) :: (.int 4 0) :: (.ref 64) :: [])
def ho48 (P : Params) : Obj := co ((.str "Broken" 241) :: (.str "Broken" 242) :: (.str "/claim/cut.py" 243) :: (.int 8 0) :: (.int 0 0) :: (.int 0 0) :: (.int 0 0) :: (.int 0 0) :: (.ref 55) :: (.bool false) :: (.int 181 0) :: (.ref 56) :: .none :: .none :: .none :: .none :: (.int 244 0) :: (.int 8 0) :: (.str "/claim/cut.py" 245) :: [])
def ho49 (P : Params) : Obj := ⟨(.type "frame"), none, .plain, ((some (.ref 57)) :: (some (.ref 3)) :: (some (.ref 54)) :: none :: (some (.str "stow.errors" 187)) :: none :: (some (.ref 0)) :: []).toArray⟩
def ho52 (P : Params) : Obj := tu ((.str "self" 254) :: (.str "cell" 255) :: [])
def ho54 (P : Params) : Obj := fq "__init__" "Broken.__init__" (inClass (top 4) 0)
def ho55 (P : Params) : Obj := co ((.str "__init__" 251) :: (.str "Broken.__init__" 252) :: (.str "/claim/cut.py" 253) :: (.int 10 0) :: (.int 2 0) :: (.int 0 0) :: (.int 0 0) :: (.int 3 0) :: (.ref 59) :: (.bool true) :: (.int 181 0) :: (.ref 60) :: .none :: (.ref 61) :: (.ref 62) :: (.ref 63) :: (.int 256 0) :: (.int 10 0) :: (.str "/claim/cut.py" 257) :: [])
def ho56 (P : Params) : Obj := fo "__init__" "Broken.__init__" (inClass (top 4) 0) .none .none .none (.str "stow.errors" 187) none (.ref 64) .none none
def ho57 (P : Params) : Obj := tu ((.str "cell" 259) :: [])
def ho58 (P : Params) : Obj := ⟨(.type "dict"), none, .dict (en P "__module__" 246 (.str "stow.errors" 187) :: en P "__firstlineno__" 250 (.int 8 249) :: en P "__init__" 258 (.ref 65) :: en P "__static_attributes__" 260 (.ref 66) :: en P "__doc__" 261 .none :: []).toArray 2, #[]⟩
def ho59 (P : Params) : Obj := ⟨(.type "type"), none, .cls ⟨"Broken", [(.ref 24)], [(.ref 68), (.ref 24), (.type "ValueError"), (.type "Exception"), (.type "BaseException"), (.type "object")], 67, "Broken", true, [], [], false, none, false⟩, ((some (.ref 52)) :: none :: (some (.str "Broken" 239)) :: (some (.str "Broken" 247)) :: (some (.builtin "ValueError.__new__")) :: (some (.bool true)) :: []).toArray⟩
def ho60 (P : Params) : Obj := ⟨(.type "super"), none, .fields ((.ref 68) :: (.ref 68) :: (.ref 68) :: []).toArray, #[]⟩
def ho61 (P : Params) : Obj := ⟨(.type "builtin_function_or_method"), none, .fields ((.builtin "object.__init_subclass__") :: (.ref 68) :: []).toArray, #[]⟩
def ho64 (P : Params) : Obj := ⟨(.type "dict"), none, .dict (en P "__module__" 271 (.str "stow.errors" 187) :: en P "__qualname__" 273 (.str "NoGive" 272) :: en P "__firstlineno__" 275 (.int 12 274) :: en P "__static_attributes__" 276 (.ref 78) :: []).toArray 4, #[]⟩
def ho67 (P : Params) : Obj := co ((.str "NoGive" 266) :: (.str "NoGive" 267) :: (.str "/claim/cut.py" 268) :: (.int 12 0) :: (.int 0 0) :: (.int 0 0) :: (.int 0 0) :: (.int 0 0) :: (.ref 74) :: (.bool false) :: (.int 181 0) :: (.ref 75) :: .none :: .none :: .none :: .none :: (.int 269 0) :: (.int 12 0) :: (.str "/claim/cut.py" 270) :: [])
def ho68 (P : Params) : Obj := ⟨(.type "frame"), none, .plain, ((some (.ref 76)) :: (some (.ref 3)) :: (some (.ref 73)) :: none :: (some (.str "stow.errors" 187)) :: none :: (some (.ref 0)) :: []).toArray⟩
def ho70 (P : Params) : Obj := ⟨(.type "dict"), none, .dict (en P "__module__" 271 (.str "stow.errors" 187) :: en P "__firstlineno__" 275 (.int 12 274) :: en P "__static_attributes__" 276 (.ref 78) :: en P "__doc__" 277 .none :: []).toArray 2, #[]⟩
def ho71 (P : Params) : Obj := ⟨(.type "type"), none, .cls ⟨"NoGive", [(.ref 24)], [(.ref 80), (.ref 24), (.type "ValueError"), (.type "Exception"), (.type "BaseException"), (.type "object")], 79, "NoGive", true, [], [], false, none, false⟩, ((some (.ref 71)) :: none :: (some (.str "NoGive" 264)) :: (some (.str "NoGive" 272)) :: (some (.builtin "ValueError.__new__")) :: (some (.bool true)) :: []).toArray⟩
def ho72 (P : Params) : Obj := ⟨(.type "super"), none, .fields ((.ref 80) :: (.ref 80) :: (.ref 80) :: []).toArray, #[]⟩
def ho73 (P : Params) : Obj := ⟨(.type "builtin_function_or_method"), none, .fields ((.builtin "object.__init_subclass__") :: (.ref 80) :: []).toArray, #[]⟩
def ho76 (P : Params) : Obj := ⟨(.type "dict"), none, .dict (en P "__module__" 287 (.str "stow.errors" 187) :: en P "__qualname__" 289 (.str "NoHandle" 288) :: en P "__firstlineno__" 291 (.int 14 290) :: en P "__static_attributes__" 292 (.ref 90) :: []).toArray 4, #[]⟩
def ho79 (P : Params) : Obj := co ((.str "NoHandle" 282) :: (.str "NoHandle" 283) :: (.str "/claim/cut.py" 284) :: (.int 14 0) :: (.int 0 0) :: (.int 0 0) :: (.int 0 0) :: (.int 0 0) :: (.ref 86) :: (.bool false) :: (.int 181 0) :: (.ref 87) :: .none :: .none :: .none :: .none :: (.int 285 0) :: (.int 14 0) :: (.str "/claim/cut.py" 286) :: [])
def ho80 (P : Params) : Obj := ⟨(.type "frame"), none, .plain, ((some (.ref 88)) :: (some (.ref 3)) :: (some (.ref 85)) :: none :: (some (.str "stow.errors" 187)) :: none :: (some (.ref 0)) :: []).toArray⟩
def ho82 (P : Params) : Obj := ⟨(.type "dict"), none, .dict (en P "__module__" 287 (.str "stow.errors" 187) :: en P "__firstlineno__" 291 (.int 14 290) :: en P "__static_attributes__" 292 (.ref 90) :: en P "__doc__" 293 .none :: []).toArray 2, #[]⟩
def ho83 (P : Params) : Obj := ⟨(.type "type"), none, .cls ⟨"NoHandle", [(.ref 24)], [(.ref 92), (.ref 24), (.type "ValueError"), (.type "Exception"), (.type "BaseException"), (.type "object")], 91, "NoHandle", true, [], [], false, none, false⟩, ((some (.ref 83)) :: none :: (some (.str "NoHandle" 280)) :: (some (.str "NoHandle" 288)) :: (some (.builtin "ValueError.__new__")) :: (some (.bool true)) :: []).toArray⟩
def ho84 (P : Params) : Obj := ⟨(.type "super"), none, .fields ((.ref 92) :: (.ref 92) :: (.ref 92) :: []).toArray, #[]⟩
def ho85 (P : Params) : Obj := ⟨(.type "builtin_function_or_method"), none, .fields ((.builtin "object.__init_subclass__") :: (.ref 92) :: []).toArray, #[]⟩
def ho88 (P : Params) : Obj := ⟨(.type "dict"), none, .dict (en P "__module__" 303 (.str "stow.errors" 187) :: en P "__qualname__" 305 (.str "NoPiece" 304) :: en P "__firstlineno__" 307 (.int 16 306) :: en P "__static_attributes__" 308 (.ref 102) :: []).toArray 4, #[]⟩
def ho91 (P : Params) : Obj := co ((.str "NoPiece" 298) :: (.str "NoPiece" 299) :: (.str "/claim/cut.py" 300) :: (.int 16 0) :: (.int 0 0) :: (.int 0 0) :: (.int 0 0) :: (.int 0 0) :: (.ref 98) :: (.bool false) :: (.int 181 0) :: (.ref 99) :: .none :: .none :: .none :: .none :: (.int 301 0) :: (.int 16 0) :: (.str "/claim/cut.py" 302) :: [])
def ho92 (P : Params) : Obj := ⟨(.type "frame"), none, .plain, ((some (.ref 100)) :: (some (.ref 3)) :: (some (.ref 97)) :: none :: (some (.str "stow.errors" 187)) :: none :: (some (.ref 0)) :: []).toArray⟩
def ho94 (P : Params) : Obj := ⟨(.type "dict"), none, .dict (en P "__module__" 303 (.str "stow.errors" 187) :: en P "__firstlineno__" 307 (.int 16 306) :: en P "__static_attributes__" 308 (.ref 102) :: en P "__doc__" 309 .none :: []).toArray 2, #[]⟩
def ho95 (P : Params) : Obj := ⟨(.type "type"), none, .cls ⟨"NoPiece", [(.ref 24)], [(.ref 104), (.ref 24), (.type "ValueError"), (.type "Exception"), (.type "BaseException"), (.type "object")], 103, "NoPiece", true, [], [], false, none, false⟩, ((some (.ref 95)) :: none :: (some (.str "NoPiece" 296)) :: (some (.str "NoPiece" 304)) :: (some (.builtin "ValueError.__new__")) :: (some (.bool true)) :: []).toArray⟩
def ho96 (P : Params) : Obj := ⟨(.type "super"), none, .fields ((.ref 104) :: (.ref 104) :: (.ref 104) :: []).toArray, #[]⟩
def ho97 (P : Params) : Obj := ⟨(.type "builtin_function_or_method"), none, .fields ((.builtin "object.__init_subclass__") :: (.ref 104) :: []).toArray, #[]⟩
def ho100 (P : Params) : Obj := ⟨(.type "dict"), none, .dict (en P "__module__" 319 (.str "stow.errors" 187) :: en P "__qualname__" 321 (.str "NoCell" 320) :: en P "__firstlineno__" 323 (.int 18 322) :: en P "__static_attributes__" 324 (.ref 114) :: []).toArray 4, #[]⟩
def ho103 (P : Params) : Obj := co ((.str "NoCell" 314) :: (.str "NoCell" 315) :: (.str "/claim/cut.py" 316) :: (.int 18 0) :: (.int 0 0) :: (.int 0 0) :: (.int 0 0) :: (.int 0 0) :: (.ref 110) :: (.bool false) :: (.int 181 0) :: (.ref 111) :: .none :: .none :: .none :: .none :: (.int 317 0) :: (.int 18 0) :: (.str "/claim/cut.py" 318) :: [])
def ho104 (P : Params) : Obj := ⟨(.type "frame"), none, .plain, ((some (.ref 112)) :: (some (.ref 3)) :: (some (.ref 109)) :: none :: (some (.str "stow.errors" 187)) :: none :: (some (.ref 0)) :: []).toArray⟩
def ho106 (P : Params) : Obj := ⟨(.type "dict"), none, .dict (en P "__module__" 319 (.str "stow.errors" 187) :: en P "__firstlineno__" 323 (.int 18 322) :: en P "__static_attributes__" 324 (.ref 114) :: en P "__doc__" 325 .none :: []).toArray 2, #[]⟩
def ho107 (P : Params) : Obj := ⟨(.type "type"), none, .cls ⟨"NoCell", [(.ref 24)], [(.ref 116), (.ref 24), (.type "ValueError"), (.type "Exception"), (.type "BaseException"), (.type "object")], 115, "NoCell", true, [], [], false, none, false⟩, ((some (.ref 107)) :: none :: (some (.str "NoCell" 312)) :: (some (.str "NoCell" 320)) :: (some (.builtin "ValueError.__new__")) :: (some (.bool true)) :: []).toArray⟩
def ho108 (P : Params) : Obj := ⟨(.type "super"), none, .fields ((.ref 116) :: (.ref 116) :: (.ref 116) :: []).toArray, #[]⟩
def ho109 (P : Params) : Obj := ⟨(.type "builtin_function_or_method"), none, .fields ((.builtin "object.__init_subclass__") :: (.ref 116) :: []).toArray, #[]⟩
def ho110 (P : Params) : Obj := ⟨(.type "dict"), none, .dict (en P "__name__" 165 (.str "stow.pieces" 518) :: en P "__doc__" 166 .none :: en P "__package__" 167 .none :: en P "__loader__" 168 (.builtin "__main__.__loader__#opaque") :: en P "__spec__" 169 .none :: en P "__annotations__" 170 (.ref 6) :: en P "__builtins__" 171 (.ref 4) :: en P "__file__" 173 (.str "/claim/cut.py" 172) :: en P "__cached__" 174 .none :: en P "StowError" 206 (.ref 24) :: en P "NoName" 222 (.ref 37) :: en P "NoSize" 238 (.ref 49) :: en P "Broken" 263 (.ref 68) :: en P "NoGive" 279 (.ref 80) :: en P "NoHandle" 295 (.ref 92) :: en P "NoPiece" 311 (.ref 104) :: en P "NoCell" 327 (.ref 116) :: en P "NoAsk" 343 (.ref 128) :: en P "NoBound" 359 (.ref 140) :: en P "NoRoom" 375 (.ref 152) :: en P "BadLine" 400 (.ref 171) :: en P "NoLine" 416 (.ref 183) :: en P "NoTurn" 432 (.ref 195) :: en P "MARKS" 436 (.int 2 435) :: en P "check_ask" 444 (.ref 204) :: en P "check_plain_ask" 452 (.ref 211) :: en P "mark_of" 462 (.ref 218) :: en P "long_of" 469 (.ref 225) :: en P "live_of" 476 (.ref 232) :: en P "LEAST_LIVE" 480 (.int 3 479) :: en P "can_begin" 489 (.ref 239) :: en P "bad_of_piece" 498 (.ref 246) :: en P "looked" 509 (.ref 253) :: en P "fresh_room" 517 (.ref 260) :: en P "laid" 530 (.ref 267) :: en P "laid_free" 539 (.ref 274) :: []).toArray 36, #[]⟩
def ho111 (P : Params) : Obj := fl ((.int 2 0) :: (.int 0 0) :: (.ref 20) :: (.int 4 0) :: (.int 0 0) :: (.ref 33) :: (.int 6 0) :: (.int 0 0) :: (.ref 45) :: (.int 8 0) :: (.int 0 0) :: (.ref 57) :: (.int 12 0) :: (.int 0 0) :: (.ref 76) :: (.int 14 0) :: (.int 0 0) :: (.ref 88) :: (.int 16 0) :: (.int 0 0) :: (.ref 100) :: (.int 18 0) :: (.int 0 0) :: (.ref 112) :: (.int 20 0) :: (.int 0 0) :: (.ref 124) :: (.int 22 0) :: (.int 0 0) :: (.ref 136) :: (.int 24 0) :: (.int 0 0) :: (.ref 148) :: (.int 26 0) :: (.int 0 0) :: (.ref 160) :: (.int 30 0) :: (.int 0 0) :: (.ref 179) :: (.int 32 0) :: (.int 0 0) :: (.ref 191) :: (.int 36 0) :: (.int 0 0) :: (.ref 203) :: (.int 39 0) :: (.int 0 0) :: (.ref 210) :: (.int 44 0) :: (.int 0 0) :: (.ref 217) :: (.int 48 0) :: (.int 0 0) :: (.ref 224) :: (.int 50 0) :: (.int 0 0) :: (.ref 231) :: (.int 54 0) :: (.int 0 0) :: (.ref 238) :: (.int 59 0) :: (.int 0 0) :: (.ref 245) :: (.int 66 0) :: (.int 0 0) :: (.ref 252) :: (.int 77 0) :: (.int 0 0) :: (.ref 259) :: (.int 85 0) :: (.int 0 0) :: (.ref 266) :: (.int 90 0) :: (.int 0 0) :: (.ref 273) :: [])
def ho112 (P : Params) : Obj := ⟨(.type "type"), none, .cls ⟨"StowError", [(.type "ValueError")], [(.ref 24), (.type "ValueError"), (.type "Exception"), (.type "BaseException"), (.type "object")], 23, "StowError", true, [], [(.ref 37), (.ref 49), (.ref 68), (.ref 80), (.ref 92), (.ref 104), (.ref 116), (.ref 128), (.ref 140), (.ref 152), (.ref 171), (.ref 183), (.ref 195)], false, none, false⟩, ((some (.ref 15)) :: none :: (some (.str "StowError" 189)) :: (some (.str "StowError" 197)) :: (some (.builtin "ValueError.__new__")) :: (some (.bool true)) :: []).toArray⟩
def ho115 (P : Params) : Obj := ⟨(.type "dict"), none, .dict (en P "__module__" 335 (.str "stow.errors" 187) :: en P "__qualname__" 337 (.str "NoAsk" 336) :: en P "__firstlineno__" 339 (.int 20 338) :: en P "__static_attributes__" 340 (.ref 126) :: []).toArray 4, #[]⟩
def ho118 (P : Params) : Obj := co ((.str "NoAsk" 330) :: (.str "NoAsk" 331) :: (.str "/claim/cut.py" 332) :: (.int 20 0) :: (.int 0 0) :: (.int 0 0) :: (.int 0 0) :: (.int 0 0) :: (.ref 122) :: (.bool false) :: (.int 181 0) :: (.ref 123) :: .none :: .none :: .none :: .none :: (.int 333 0) :: (.int 20 0) :: (.str "/claim/cut.py" 334) :: [])
def ho119 (P : Params) : Obj := ⟨(.type "frame"), none, .plain, ((some (.ref 124)) :: (some (.ref 3)) :: (some (.ref 121)) :: none :: (some (.str "stow.errors" 187)) :: none :: (some (.ref 0)) :: []).toArray⟩
def ho121 (P : Params) : Obj := ⟨(.type "dict"), none, .dict (en P "__module__" 335 (.str "stow.errors" 187) :: en P "__firstlineno__" 339 (.int 20 338) :: en P "__static_attributes__" 340 (.ref 126) :: en P "__doc__" 341 .none :: []).toArray 2, #[]⟩
def ho122 (P : Params) : Obj := ⟨(.type "type"), none, .cls ⟨"NoAsk", [(.ref 24)], [(.ref 128), (.ref 24), (.type "ValueError"), (.type "Exception"), (.type "BaseException"), (.type "object")], 127, "NoAsk", true, [], [], false, none, false⟩, ((some (.ref 119)) :: none :: (some (.str "NoAsk" 328)) :: (some (.str "NoAsk" 336)) :: (some (.builtin "ValueError.__new__")) :: (some (.bool true)) :: []).toArray⟩
def ho123 (P : Params) : Obj := ⟨(.type "super"), none, .fields ((.ref 128) :: (.ref 128) :: (.ref 128) :: []).toArray, #[]⟩
def ho124 (P : Params) : Obj := ⟨(.type "builtin_function_or_method"), none, .fields ((.builtin "object.__init_subclass__") :: (.ref 128) :: []).toArray, #[]⟩
def ho127 (P : Params) : Obj := ⟨(.type "dict"), none, .dict (en P "__module__" 351 (.str "stow.errors" 187) :: en P "__qualname__" 353 (.str "NoBound" 352) :: en P "__firstlineno__" 355 (.int 22 354) :: en P "__static_attributes__" 356 (.ref 138) :: []).toArray 4, #[]⟩
def ho130 (P : Params) : Obj := co ((.str "NoBound" 346) :: (.str "NoBound" 347) :: (.str "/claim/cut.py" 348) :: (.int 22 0) :: (.int 0 0) :: (.int 0 0) :: (.int 0 0) :: (.int 0 0) :: (.ref 134) :: (.bool false) :: (.int 181 0) :: (.ref 135) :: .none :: .none :: .none :: .none :: (.int 349 0) :: (.int 22 0) :: (.str "/claim/cut.py" 350) :: [])
def ho131 (P : Params) : Obj := ⟨(.type "frame"), none, .plain, ((some (.ref 136)) :: (some (.ref 3)) :: (some (.ref 133)) :: none :: (some (.str "stow.errors" 187)) :: none :: (some (.ref 0)) :: []).toArray⟩
def ho133 (P : Params) : Obj := ⟨(.type "dict"), none, .dict (en P "__module__" 351 (.str "stow.errors" 187) :: en P "__firstlineno__" 355 (.int 22 354) :: en P "__static_attributes__" 356 (.ref 138) :: en P "__doc__" 357 .none :: []).toArray 2, #[]⟩
def ho134 (P : Params) : Obj := ⟨(.type "type"), none, .cls ⟨"NoBound", [(.ref 24)], [(.ref 140), (.ref 24), (.type "ValueError"), (.type "Exception"), (.type "BaseException"), (.type "object")], 139, "NoBound", true, [], [], false, none, false⟩, ((some (.ref 131)) :: none :: (some (.str "NoBound" 344)) :: (some (.str "NoBound" 352)) :: (some (.builtin "ValueError.__new__")) :: (some (.bool true)) :: []).toArray⟩
def ho135 (P : Params) : Obj := ⟨(.type "super"), none, .fields ((.ref 140) :: (.ref 140) :: (.ref 140) :: []).toArray, #[]⟩
def ho136 (P : Params) : Obj := ⟨(.type "builtin_function_or_method"), none, .fields ((.builtin "object.__init_subclass__") :: (.ref 140) :: []).toArray, #[]⟩
def ho139 (P : Params) : Obj := ⟨(.type "dict"), none, .dict (en P "__module__" 367 (.str "stow.errors" 187) :: en P "__qualname__" 369 (.str "NoRoom" 368) :: en P "__firstlineno__" 371 (.int 24 370) :: en P "__static_attributes__" 372 (.ref 150) :: []).toArray 4, #[]⟩
def ho142 (P : Params) : Obj := co ((.str "NoRoom" 362) :: (.str "NoRoom" 363) :: (.str "/claim/cut.py" 364) :: (.int 24 0) :: (.int 0 0) :: (.int 0 0) :: (.int 0 0) :: (.int 0 0) :: (.ref 146) :: (.bool false) :: (.int 181 0) :: (.ref 147) :: .none :: .none :: .none :: .none :: (.int 365 0) :: (.int 24 0) :: (.str "/claim/cut.py" 366) :: [])
def ho143 (P : Params) : Obj := ⟨(.type "frame"), none, .plain, ((some (.ref 148)) :: (some (.ref 3)) :: (some (.ref 145)) :: none :: (some (.str "stow.errors" 187)) :: none :: (some (.ref 0)) :: []).toArray⟩
def ho145 (P : Params) : Obj := ⟨(.type "dict"), none, .dict (en P "__module__" 367 (.str "stow.errors" 187) :: en P "__firstlineno__" 371 (.int 24 370) :: en P "__static_attributes__" 372 (.ref 150) :: en P "__doc__" 373 .none :: []).toArray 2, #[]⟩
def ho146 (P : Params) : Obj := ⟨(.type "type"), none, .cls ⟨"NoRoom", [(.ref 24)], [(.ref 152), (.ref 24), (.type "ValueError"), (.type "Exception"), (.type "BaseException"), (.type "object")], 151, "NoRoom", true, [], [], false, none, false⟩, ((some (.ref 143)) :: none :: (some (.str "NoRoom" 360)) :: (some (.str "NoRoom" 368)) :: (some (.builtin "ValueError.__new__")) :: (some (.bool true)) :: []).toArray⟩
def ho147 (P : Params) : Obj := ⟨(.type "super"), none, .fields ((.ref 152) :: (.ref 152) :: (.ref 152) :: []).toArray, #[]⟩
def ho148 (P : Params) : Obj := ⟨(.type "builtin_function_or_method"), none, .fields ((.builtin "object.__init_subclass__") :: (.ref 152) :: []).toArray, #[]⟩
def ho151 (P : Params) : Obj := ⟨(.type "dict"), none, .dict (en P "__module__" 383 (.str "stow.errors" 187) :: en P "__qualname__" 385 (.str "BadLine" 384) :: en P "__firstlineno__" 387 (.int 26 386) :: en P "__init__" 395 (.ref 168) :: en P "__static_attributes__" 397 (.ref 169) :: []).toArray 5, #[]⟩
def ho153 (P : Params) : Obj := fl ((.int 28 0) :: (.int 4 0) :: (.ref 167) :: [])
def ho154 (P : Params) : Obj := co ((.str "BadLine" 378) :: (.str "BadLine" 379) :: (.str "/claim/cut.py" 380) :: (.int 26 0) :: (.int 0 0) :: (.int 0 0) :: (.int 0 0) :: (.int 0 0) :: (.ref 158) :: (.bool false) :: (.int 181 0) :: (.ref 159) :: .none :: .none :: .none :: .none :: (.int 381 0) :: (.int 26 0) :: (.str "/claim/cut.py" 382) :: [])
def ho155 (P : Params) : Obj := ⟨(.type "frame"), none, .plain, ((some (.ref 160)) :: (some (.ref 3)) :: (some (.ref 157)) :: none :: (some (.str "stow.errors" 187)) :: none :: (some (.ref 0)) :: []).toArray⟩
def ho158 (P : Params) : Obj := tu ((.str "self" 391) :: (.str "line" 392) :: [])
def ho160 (P : Params) : Obj := fq "__init__" "BadLine.__init__" (inClass (top 12) 0)
def ho161 (P : Params) : Obj := co ((.str "__init__" 388) :: (.str "BadLine.__init__" 389) :: (.str "/claim/cut.py" 390) :: (.int 28 0) :: (.int 2 0) :: (.int 0 0) :: (.int 0 0) :: (.int 3 0) :: (.ref 162) :: (.bool true) :: (.int 181 0) :: (.ref 163) :: .none :: (.ref 164) :: (.ref 165) :: (.ref 166) :: (.int 393 0) :: (.int 28 0) :: (.str "/claim/cut.py" 394) :: [])
def ho162 (P : Params) : Obj := fo "__init__" "BadLine.__init__" (inClass (top 12) 0) .none .none .none (.str "stow.errors" 187) none (.ref 167) .none none
def ho163 (P : Params) : Obj := tu ((.str "line" 396) :: [])
def ho164 (P : Params) : Obj := ⟨(.type "dict"), none, .dict (en P "__module__" 383 (.str "stow.errors" 187) :: en P "__firstlineno__" 387 (.int 26 386) :: en P "__init__" 395 (.ref 168) :: en P "__static_attributes__" 397 (.ref 169) :: en P "__doc__" 398 .none :: []).toArray 2, #[]⟩
def ho165 (P : Params) : Obj := ⟨(.type "type"), none, .cls ⟨"BadLine", [(.ref 24)], [(.ref 171), (.ref 24), (.type "ValueError"), (.type "Exception"), (.type "BaseException"), (.type "object")], 170, "BadLine", true, [], [], false, none, false⟩, ((some (.ref 155)) :: none :: (some (.str "BadLine" 376)) :: (some (.str "BadLine" 384)) :: (some (.builtin "ValueError.__new__")) :: (some (.bool true)) :: []).toArray⟩
def ho166 (P : Params) : Obj := ⟨(.type "super"), none, .fields ((.ref 171) :: (.ref 171) :: (.ref 171) :: []).toArray, #[]⟩
def ho167 (P : Params) : Obj := ⟨(.type "builtin_function_or_method"), none, .fields ((.builtin "object.__init_subclass__") :: (.ref 171) :: []).toArray, #[]⟩
def ho170 (P : Params) : Obj := ⟨(.type "dict"), none, .dict (en P "__module__" 408 (.str "stow.errors" 187) :: en P "__qualname__" 410 (.str "NoLine" 409) :: en P "__firstlineno__" 412 (.int 30 411) :: en P "__static_attributes__" 413 (.ref 181) :: []).toArray 4, #[]⟩
def ho173 (P : Params) : Obj := co ((.str "NoLine" 403) :: (.str "NoLine" 404) :: (.str "/claim/cut.py" 405) :: (.int 30 0) :: (.int 0 0) :: (.int 0 0) :: (.int 0 0) :: (.int 0 0) :: (.ref 177) :: (.bool false) :: (.int 181 0) :: (.ref 178) :: .none :: .none :: .none :: .none :: (.int 406 0) :: (.int 30 0) :: (.str "/claim/cut.py" 407) :: [])
def ho174 (P : Params) : Obj := ⟨(.type "frame"), none, .plain, ((some (.ref 179)) :: (some (.ref 3)) :: (some (.ref 176)) :: none :: (some (.str "stow.errors" 187)) :: none :: (some (.ref 0)) :: []).toArray⟩
def ho176 (P : Params) : Obj := ⟨(.type "dict"), none, .dict (en P "__module__" 408 (.str "stow.errors" 187) :: en P "__firstlineno__" 412 (.int 30 411) :: en P "__static_attributes__" 413 (.ref 181) :: en P "__doc__" 414 .none :: []).toArray 2, #[]⟩
def ho177 (P : Params) : Obj := ⟨(.type "type"), none, .cls ⟨"NoLine", [(.ref 24)], [(.ref 183), (.ref 24), (.type "ValueError"), (.type "Exception"), (.type "BaseException"), (.type "object")], 182, "NoLine", true, [], [], false, none, false⟩, ((some (.ref 174)) :: none :: (some (.str "NoLine" 401)) :: (some (.str "NoLine" 409)) :: (some (.builtin "ValueError.__new__")) :: (some (.bool true)) :: []).toArray⟩
def ho178 (P : Params) : Obj := ⟨(.type "super"), none, .fields ((.ref 183) :: (.ref 183) :: (.ref 183) :: []).toArray, #[]⟩
def ho179 (P : Params) : Obj := ⟨(.type "builtin_function_or_method"), none, .fields ((.builtin "object.__init_subclass__") :: (.ref 183) :: []).toArray, #[]⟩
def ho182 (P : Params) : Obj := ⟨(.type "dict"), none, .dict (en P "__module__" 424 (.str "stow.errors" 187) :: en P "__qualname__" 426 (.str "NoTurn" 425) :: en P "__firstlineno__" 428 (.int 32 427) :: en P "__static_attributes__" 429 (.ref 193) :: []).toArray 4, #[]⟩
def ho185 (P : Params) : Obj := co ((.str "NoTurn" 419) :: (.str "NoTurn" 420) :: (.str "/claim/cut.py" 421) :: (.int 32 0) :: (.int 0 0) :: (.int 0 0) :: (.int 0 0) :: (.int 0 0) :: (.ref 189) :: (.bool false) :: (.int 181 0) :: (.ref 190) :: .none :: .none :: .none :: .none :: (.int 422 0) :: (.int 32 0) :: (.str "/claim/cut.py" 423) :: [])
def ho186 (P : Params) : Obj := ⟨(.type "frame"), none, .plain, ((some (.ref 191)) :: (some (.ref 3)) :: (some (.ref 188)) :: none :: (some (.str "stow.errors" 187)) :: none :: (some (.ref 0)) :: []).toArray⟩
def ho188 (P : Params) : Obj := ⟨(.type "dict"), none, .dict (en P "__module__" 424 (.str "stow.errors" 187) :: en P "__firstlineno__" 428 (.int 32 427) :: en P "__static_attributes__" 429 (.ref 193) :: en P "__doc__" 430 .none :: []).toArray 2, #[]⟩
def ho189 (P : Params) : Obj := ⟨(.type "type"), none, .cls ⟨"NoTurn", [(.ref 24)], [(.ref 195), (.ref 24), (.type "ValueError"), (.type "Exception"), (.type "BaseException"), (.type "object")], 194, "NoTurn", true, [], [], false, none, false⟩, ((some (.ref 186)) :: none :: (some (.str "NoTurn" 417)) :: (some (.str "NoTurn" 425)) :: (some (.builtin "ValueError.__new__")) :: (some (.bool true)) :: []).toArray⟩
def ho190 (P : Params) : Obj := ⟨(.type "super"), none, .fields ((.ref 195) :: (.ref 195) :: (.ref 195) :: []).toArray, #[]⟩
def ho191 (P : Params) : Obj := ⟨(.type "builtin_function_or_method"), none, .fields ((.builtin "object.__init_subclass__") :: (.ref 195) :: []).toArray, #[]⟩
def ho194 (P : Params) : Obj := tu ((.str "count" 440) :: (.str "bound" 441) :: [])
def ho196 (P : Params) : Obj := fq "check_ask" "check_ask" (top 17)
def ho197 (P : Params) : Obj := co ((.str "check_ask" 437) :: (.str "check_ask" 438) :: (.str "/claim/cut.py" 439) :: (.int 36 0) :: (.int 2 0) :: (.int 0 0) :: (.int 0 0) :: (.int 3 0) :: (.ref 198) :: (.bool true) :: (.int 181 0) :: (.ref 199) :: .none :: (.ref 200) :: (.ref 201) :: (.ref 202) :: (.int 442 0) :: (.int 36 0) :: (.str "/claim/cut.py" 443) :: [])
def ho198 (P : Params) : Obj := fo "check_ask" "check_ask" (top 17) .none .none .none (.str "stow.asks" 433) none (.ref 203) .none none
def ho201 (P : Params) : Obj := tu ((.str "count" 448) :: (.str "bound" 449) :: [])
def ho203 (P : Params) : Obj := fq "check_plain_ask" "check_plain_ask" (top 18)
def ho204 (P : Params) : Obj := co ((.str "check_plain_ask" 445) :: (.str "check_plain_ask" 446) :: (.str "/claim/cut.py" 447) :: (.int 39 0) :: (.int 2 0) :: (.int 0 0) :: (.int 0 0) :: (.int 3 0) :: (.ref 205) :: (.bool true) :: (.int 181 0) :: (.ref 206) :: .none :: (.ref 207) :: (.ref 208) :: (.ref 209) :: (.int 450 0) :: (.int 39 0) :: (.str "/claim/cut.py" 451) :: [])
def ho205 (P : Params) : Obj := fo "check_plain_ask" "check_plain_ask" (top 18) .none .none .none (.str "stow.asks" 433) none (.ref 210) .none none
def ho208 (P : Params) : Obj := tu ((.str "long" 458) :: (.str "live" 459) :: [])
def ho210 (P : Params) : Obj := fq "mark_of" "mark_of" (top 20)
def ho211 (P : Params) : Obj := co ((.str "mark_of" 455) :: (.str "mark_of" 456) :: (.str "/claim/cut.py" 457) :: (.int 44 0) :: (.int 2 0) :: (.int 0 0) :: (.int 0 0) :: (.int 3 0) :: (.ref 212) :: (.bool true) :: (.int 181 0) :: (.ref 213) :: .none :: (.ref 214) :: (.ref 215) :: (.ref 216) :: (.int 460 0) :: (.int 44 0) :: (.str "/claim/cut.py" 461) :: [])
def ho212 (P : Params) : Obj := fo "mark_of" "mark_of" (top 20) .none .none .none (.str "stow.marks" 453) none (.ref 217) .none none
def ho215 (P : Params) : Obj := tu ((.str "number" 466) :: [])
def ho217 (P : Params) : Obj := fq "long_of" "long_of" (top 21)
def ho218 (P : Params) : Obj := co ((.str "long_of" 463) :: (.str "long_of" 464) :: (.str "/claim/cut.py" 465) :: (.int 48 0) :: (.int 1 0) :: (.int 0 0) :: (.int 0 0) :: (.int 3 0) :: (.ref 219) :: (.bool true) :: (.int 181 0) :: (.ref 220) :: .none :: (.ref 221) :: (.ref 222) :: (.ref 223) :: (.int 467 0) :: (.int 48 0) :: (.str "/claim/cut.py" 468) :: [])
def ho219 (P : Params) : Obj := fo "long_of" "long_of" (top 21) .none .none .none (.str "stow.marks" 453) none (.ref 224) .none none
def ho222 (P : Params) : Obj := tu ((.str "number" 473) :: [])
def ho224 (P : Params) : Obj := fq "live_of" "live_of" (top 22)
def ho225 (P : Params) : Obj := co ((.str "live_of" 470) :: (.str "live_of" 471) :: (.str "/claim/cut.py" 472) :: (.int 50 0) :: (.int 1 0) :: (.int 0 0) :: (.int 0 0) :: (.int 3 0) :: (.ref 226) :: (.bool true) :: (.int 181 0) :: (.ref 227) :: .none :: (.ref 228) :: (.ref 229) :: (.ref 230) :: (.int 474 0) :: (.int 50 0) :: (.str "/claim/cut.py" 475) :: [])
def ho226 (P : Params) : Obj := fo "live_of" "live_of" (top 22) .none .none .none (.str "stow.marks" 453) none (.ref 231) .none none
def ho229 (P : Params) : Obj := tu ((.str "cells" 484) :: (.str "at" 485) :: (.str "long" 486) :: [])
def ho231 (P : Params) : Obj := fq "can_begin" "can_begin" (top 25)
def ho232 (P : Params) : Obj := co ((.str "can_begin" 481) :: (.str "can_begin" 482) :: (.str "/claim/cut.py" 483) :: (.int 54 0) :: (.int 2 0) :: (.int 0 0) :: (.int 0 0) :: (.int 3 0) :: (.ref 233) :: (.bool true) :: (.int 181 0) :: (.ref 234) :: .none :: (.ref 235) :: (.ref 236) :: (.ref 237) :: (.int 487 0) :: (.int 54 0) :: (.str "/claim/cut.py" 488) :: [])
def ho233 (P : Params) : Obj := fo "can_begin" "can_begin" (top 25) .none .none .none (.str "stow.looks" 477) none (.ref 238) .none none
def ho236 (P : Params) : Obj := tu ((.str "cells" 493) :: (.str "at" 494) :: (.str "last" 495) :: [])
def ho238 (P : Params) : Obj := fq "bad_of_piece" "bad_of_piece" (top 26)
def ho239 (P : Params) : Obj := co ((.str "bad_of_piece" 490) :: (.str "bad_of_piece" 491) :: (.str "/claim/cut.py" 492) :: (.int 59 0) :: (.int 2 0) :: (.int 0 0) :: (.int 0 0) :: (.int 3 0) :: (.ref 240) :: (.bool true) :: (.int 181 0) :: (.ref 241) :: .none :: (.ref 242) :: (.ref 243) :: (.ref 244) :: (.int 496 0) :: (.int 59 0) :: (.str "/claim/cut.py" 497) :: [])
def ho240 (P : Params) : Obj := fo "bad_of_piece" "bad_of_piece" (top 26) .none .none .none (.str "stow.looks" 477) none (.ref 245) .none none
def ho243 (P : Params) : Obj := tu ((.str "cells" 502) :: (.str "pieces" 503) :: (.str "at" 504) :: (.str "bad" 505) :: (.str "long" 506) :: [])
def ho245 (P : Params) : Obj := fq "looked" "looked" (top 27)
def ho246 (P : Params) : Obj := co ((.str "looked" 499) :: (.str "looked" 500) :: (.str "/claim/cut.py" 501) :: (.int 66 0) :: (.int 1 0) :: (.int 0 0) :: (.int 0 0) :: (.int 3 0) :: (.ref 247) :: (.bool true) :: (.int 181 0) :: (.ref 248) :: .none :: (.ref 249) :: (.ref 250) :: (.ref 251) :: (.int 507 0) :: (.int 66 0) :: (.str "/claim/cut.py" 508) :: [])
def ho247 (P : Params) : Obj := fo "looked" "looked" (top 27) .none .none .none (.str "stow.looks" 477) none (.ref 252) .none none
def ho250 (P : Params) : Obj := tu ((.str "count" 513) :: (.str "cells" 514) :: [])
def ho252 (P : Params) : Obj := fq "fresh_room" "fresh_room" (top 28)
def ho253 (P : Params) : Obj := co ((.str "fresh_room" 510) :: (.str "fresh_room" 511) :: (.str "/claim/cut.py" 512) :: (.int 77 0) :: (.int 1 0) :: (.int 0 0) :: (.int 0 0) :: (.int 3 0) :: (.ref 254) :: (.bool true) :: (.int 181 0) :: (.ref 255) :: .none :: (.ref 256) :: (.ref 257) :: (.ref 258) :: (.int 515 0) :: (.int 77 0) :: (.str "/claim/cut.py" 516) :: [])
def ho254 (P : Params) : Obj := fo "fresh_room" "fresh_room" (top 28) .none .none .none (.str "stow.looks" 477) none (.ref 259) .none none
def ho257 (P : Params) : Obj := tu ((.str "cells" 523) :: (.str "at" 524) :: (.str "long" 525) :: (.str "live" 526) :: (.str "row" 527) :: [])
def ho259 (P : Params) : Obj := fq "laid" "laid" (top 30)
def ho260 (P : Params) : Obj := co ((.str "laid" 520) :: (.str "laid" 521) :: (.str "/claim/cut.py" 522) :: (.int 85 0) :: (.int 4 0) :: (.int 0 0) :: (.int 0 0) :: (.int 3 0) :: (.ref 261) :: (.bool true) :: (.int 181 0) :: (.ref 262) :: .none :: (.ref 263) :: (.ref 264) :: (.ref 265) :: (.int 528 0) :: (.int 85 0) :: (.str "/claim/cut.py" 529) :: [])
def ho261 (P : Params) : Obj := fo "laid" "laid" (top 30) .none .none .none (.str "stow.pieces" 518) none (.ref 266) .none none
def ho264 (P : Params) : Obj := tu ((.str "cells" 534) :: (.str "begin" 535) :: (.str "end" 536) :: [])
def ho266 (P : Params) : Obj := fq "laid_free" "laid_free" (top 31)
def ho267 (P : Params) : Obj := co ((.str "laid_free" 531) :: (.str "laid_free" 532) :: (.str "/claim/cut.py" 533) :: (.int 90 0) :: (.int 3 0) :: (.int 0 0) :: (.int 0 0) :: (.int 3 0) :: (.ref 268) :: (.bool true) :: (.int 181 0) :: (.ref 269) :: .none :: (.ref 270) :: (.ref 271) :: (.ref 272) :: (.int 537 0) :: (.int 90 0) :: (.str "/claim/cut.py" 538) :: [])
def ho268 (P : Params) : Obj := fo "laid_free" "laid_free" (top 31) .none .none .none (.str "stow.pieces" 518) none (.ref 273) .none none
def ho269 (P : Params) : Obj := ⟨(.type "dict"), none, .dict (en P "__name__" 165 (.str "law_stow_k36_a_row" 796) :: en P "__doc__" 166 .none :: en P "__package__" 167 .none :: en P "__loader__" 168 (.builtin "__main__.__loader__#opaque") :: en P "__spec__" 169 .none :: en P "__annotations__" 170 (.ref 6) :: en P "__builtins__" 171 (.ref 4) :: en P "__file__" 173 (.str "/claim/cut.py" 172) :: en P "__cached__" 174 .none :: en P "StowError" 206 (.ref 24) :: en P "NoName" 222 (.ref 37) :: en P "NoSize" 238 (.ref 49) :: en P "Broken" 263 (.ref 68) :: en P "NoGive" 279 (.ref 80) :: en P "NoHandle" 295 (.ref 92) :: en P "NoPiece" 311 (.ref 104) :: en P "NoCell" 327 (.ref 116) :: en P "NoAsk" 343 (.ref 128) :: en P "NoBound" 359 (.ref 140) :: en P "NoRoom" 375 (.ref 152) :: en P "BadLine" 400 (.ref 171) :: en P "NoLine" 416 (.ref 183) :: en P "NoTurn" 432 (.ref 195) :: en P "MARKS" 436 (.int 2 435) :: en P "check_ask" 444 (.ref 204) :: en P "check_plain_ask" 452 (.ref 211) :: en P "mark_of" 462 (.ref 218) :: en P "long_of" 469 (.ref 225) :: en P "live_of" 476 (.ref 232) :: en P "LEAST_LIVE" 480 (.int 3 479) :: en P "can_begin" 489 (.ref 239) :: en P "bad_of_piece" 498 (.ref 246) :: en P "looked" 509 (.ref 253) :: en P "fresh_room" 517 (.ref 260) :: en P "laid" 530 (.ref 267) :: en P "laid_free" 539 (.ref 274) :: en P "piece_at" 548 (.ref 281) :: en P "live_at" 557 (.ref 288) :: en P "free_at" 566 (.ref 295) :: en P "cut_out" 581 (.ref 302) :: en P "carried" 592 (.ref 309) :: en P "Keeper" 745 (.ref 419) :: en P "Row" 795 (.ref 456) :: en P "_law_cell_at" 805 (.ref 465) :: en P "_law_whole" 812 (.ref 472) :: en P "_law_alike" 821 (.ref 479) :: en P "_law_walk" 832 (.ref 486) :: en P "_law_number" 839 (.ref 493) :: en P "_law_pieces" 850 (.ref 500) :: en P "_law_ask_told" 861 (.ref 507) :: en P "_law_refused" 874 (.ref 514) :: en P "_law_step" 892 (.ref 521) :: en P "_law_seen" 905 (.ref 528) :: en P "law" 917 (.ref 535) :: []).toArray 54, #[]⟩
def ho270 (P : Params) : Obj := fl ((.int 2 0) :: (.int 0 0) :: (.ref 20) :: (.int 4 0) :: (.int 0 0) :: (.ref 33) :: (.int 6 0) :: (.int 0 0) :: (.ref 45) :: (.int 8 0) :: (.int 0 0) :: (.ref 57) :: (.int 12 0) :: (.int 0 0) :: (.ref 76) :: (.int 14 0) :: (.int 0 0) :: (.ref 88) :: (.int 16 0) :: (.int 0 0) :: (.ref 100) :: (.int 18 0) :: (.int 0 0) :: (.ref 112) :: (.int 20 0) :: (.int 0 0) :: (.ref 124) :: (.int 22 0) :: (.int 0 0) :: (.ref 136) :: (.int 24 0) :: (.int 0 0) :: (.ref 148) :: (.int 26 0) :: (.int 0 0) :: (.ref 160) :: (.int 30 0) :: (.int 0 0) :: (.ref 179) :: (.int 32 0) :: (.int 0 0) :: (.ref 191) :: (.int 36 0) :: (.int 0 0) :: (.ref 203) :: (.int 39 0) :: (.int 0 0) :: (.ref 210) :: (.int 44 0) :: (.int 0 0) :: (.ref 217) :: (.int 48 0) :: (.int 0 0) :: (.ref 224) :: (.int 50 0) :: (.int 0 0) :: (.ref 231) :: (.int 54 0) :: (.int 0 0) :: (.ref 238) :: (.int 59 0) :: (.int 0 0) :: (.ref 245) :: (.int 66 0) :: (.int 0 0) :: (.ref 252) :: (.int 77 0) :: (.int 0 0) :: (.ref 259) :: (.int 85 0) :: (.int 0 0) :: (.ref 266) :: (.int 90 0) :: (.int 0 0) :: (.ref 273) :: (.int 94 0) :: (.int 0 0) :: (.ref 280) :: (.int 99 0) :: (.int 0 0) :: (.ref 287) :: (.int 104 0) :: (.int 0 0) :: (.ref 294) :: (.int 109 0) :: (.int 0 0) :: (.ref 301) :: (.int 117 0) :: (.int 0 0) :: (.ref 308) :: (.int 121 0) :: (.int 0 0) :: (.ref 315) :: (.int 182 0) :: (.int 0 0) :: (.ref 429) :: (.int 198 0) :: (.int 0 0) :: (.ref 464) :: (.int 202 0) :: (.int 0 0) :: (.ref 471) :: (.int 204 0) :: (.int 0 0) :: (.ref 478) :: (.int 213 0) :: (.int 0 0) :: (.ref 485) :: (.int 230 0) :: (.int 0 0) :: (.ref 492) :: (.int 234 0) :: (.int 0 0) :: (.ref 499) :: (.int 243 0) :: (.int 0 0) :: (.ref 506) :: (.int 254 0) :: (.int 0 0) :: (.ref 513) :: (.int 271 0) :: (.int 0 0) :: (.ref 520) :: (.int 297 0) :: (.int 0 0) :: (.ref 527) :: (.int 306 0) :: (.int 0 0) :: (.ref 534) :: [])
def ho273 (P : Params) : Obj := tu ((.str "cells" 543) :: (.str "at" 544) :: (.str "piece" 545) :: [])
def ho275 (P : Params) : Obj := fq "piece_at" "piece_at" (top 32)
def ho276 (P : Params) : Obj := co ((.str "piece_at" 540) :: (.str "piece_at" 541) :: (.str "/claim/cut.py" 542) :: (.int 94 0) :: (.int 2 0) :: (.int 0 0) :: (.int 0 0) :: (.int 3 0) :: (.ref 275) :: (.bool true) :: (.int 181 0) :: (.ref 276) :: .none :: (.ref 277) :: (.ref 278) :: (.ref 279) :: (.int 546 0) :: (.int 94 0) :: (.str "/claim/cut.py" 547) :: [])
def ho277 (P : Params) : Obj := fo "piece_at" "piece_at" (top 32) .none .none .none (.str "stow.pieces" 518) none (.ref 280) .none none
def ho280 (P : Params) : Obj := tu ((.str "cells" 552) :: (.str "at" 553) :: (.str "piece" 554) :: [])
def ho282 (P : Params) : Obj := fq "live_at" "live_at" (top 33)
def ho283 (P : Params) : Obj := co ((.str "live_at" 549) :: (.str "live_at" 550) :: (.str "/claim/cut.py" 551) :: (.int 99 0) :: (.int 2 0) :: (.int 0 0) :: (.int 0 0) :: (.int 3 0) :: (.ref 282) :: (.bool true) :: (.int 181 0) :: (.ref 283) :: .none :: (.ref 284) :: (.ref 285) :: (.ref 286) :: (.int 555 0) :: (.int 99 0) :: (.str "/claim/cut.py" 556) :: [])
def ho284 (P : Params) : Obj := fo "live_at" "live_at" (top 33) .none .none .none (.str "stow.pieces" 518) none (.ref 287) .none none
def ho287 (P : Params) : Obj := tu ((.str "cells" 561) :: (.str "at" 562) :: (.str "piece" 563) :: [])
def ho289 (P : Params) : Obj := fq "free_at" "free_at" (top 34)
def ho290 (P : Params) : Obj := co ((.str "free_at" 558) :: (.str "free_at" 559) :: (.str "/claim/cut.py" 560) :: (.int 104 0) :: (.int 2 0) :: (.int 0 0) :: (.int 0 0) :: (.int 3 0) :: (.ref 289) :: (.bool true) :: (.int 181 0) :: (.ref 290) :: .none :: (.ref 291) :: (.ref 292) :: (.ref 293) :: (.int 564 0) :: (.int 104 0) :: (.str "/claim/cut.py" 565) :: [])
def ho291 (P : Params) : Obj := fo "free_at" "free_at" (top 34) .none .none .none (.str "stow.pieces" 518) none (.ref 294) .none none
def ho294 (P : Params) : Obj := tu ((.str "cells" 570) :: (.str "at" 571) :: (.str "place" 572) :: (.str "long" 573) :: (.str "begin" 574) :: (.str "free_long" 575) :: (.str "live" 576) :: (.str "end" 577) :: (.str "row" 578) :: [])
def ho296 (P : Params) : Obj := fq "cut_out" "cut_out" (top 35)
def ho297 (P : Params) : Obj := co ((.str "cut_out" 567) :: (.str "cut_out" 568) :: (.str "/claim/cut.py" 569) :: (.int 109 0) :: (.int 4 0) :: (.int 0 0) :: (.int 0 0) :: (.int 3 0) :: (.ref 296) :: (.bool true) :: (.int 181 0) :: (.ref 297) :: .none :: (.ref 298) :: (.ref 299) :: (.ref 300) :: (.int 579 0) :: (.int 109 0) :: (.str "/claim/cut.py" 580) :: [])
def ho298 (P : Params) : Obj := fo "cut_out" "cut_out" (top 35) .none .none .none (.str "stow.pieces" 518) none (.ref 301) .none none
def ho301 (P : Params) : Obj := tu ((.str "cells" 585) :: (.str "source" 586) :: (.str "goal" 587) :: (.str "count" 588) :: (.str "row" 589) :: [])
def ho303 (P : Params) : Obj := fq "carried" "carried" (top 36)
def ho304 (P : Params) : Obj := co ((.str "carried" 582) :: (.str "carried" 583) :: (.str "/claim/cut.py" 584) :: (.int 117 0) :: (.int 4 0) :: (.int 0 0) :: (.int 0 0) :: (.int 3 0) :: (.ref 303) :: (.bool true) :: (.int 181 0) :: (.ref 304) :: .none :: (.ref 305) :: (.ref 306) :: (.ref 307) :: (.int 590 0) :: (.int 117 0) :: (.str "/claim/cut.py" 591) :: [])
def ho305 (P : Params) : Obj := fo "carried" "carried" (top 36) .none .none .none (.str "stow.pieces" 518) none (.ref 308) .none none
def ho308 (P : Params) : Obj := ⟨(.type "dict"), none, .dict (en P "__module__" 602 (.str "stow.keepers" 593) :: en P "__qualname__" 604 (.str "Keeper" 603) :: en P "__firstlineno__" 606 (.int 121 605) :: en P "__init__" 614 (.ref 323) :: en P "cells" 621 (.ref 330) :: en P "pieces" 628 (.ref 337) :: en P "lay" 636 (.ref 344) :: en P "clear" 643 (.ref 351) :: en P "many" 654 (.ref 358) :: en P "get" 663 (.ref 365) :: en P "put" 674 (.ref 372) :: en P "ask" 684 (.ref 380) :: en P "give" 695 (.ref 387) :: en P "grow" 707 (.ref 395) :: en P "room_begin" 715 (.ref 402) :: en P "room_cell_of" 725 (.ref 409) :: en P "room_moved" 736 (.ref 416) :: en P "__static_attributes__" 738 (.ref 417) :: []).toArray 18, #[]⟩
def ho310 (P : Params) : Obj := fl ((.int 123 0) :: (.int 4 0) :: (.ref 322) :: (.int 126 0) :: (.int 4 0) :: (.ref 329) :: (.int 129 0) :: (.int 4 0) :: (.ref 336) :: (.int 132 0) :: (.int 4 0) :: (.ref 343) :: (.int 138 0) :: (.int 4 0) :: (.ref 350) :: (.int 141 0) :: (.int 4 0) :: (.ref 357) :: (.int 145 0) :: (.int 4 0) :: (.ref 364) :: (.int 148 0) :: (.int 4 0) :: (.ref 371) :: (.int 152 0) :: (.int 4 0) :: (.ref 379) :: (.int 156 0) :: (.int 4 0) :: (.ref 386) :: (.int 160 0) :: (.int 4 0) :: (.ref 394) :: (.int 167 0) :: (.int 4 0) :: (.ref 401) :: (.int 170 0) :: (.int 4 0) :: (.ref 408) :: (.int 176 0) :: (.int 4 0) :: (.ref 415) :: [])
def ho311 (P : Params) : Obj := co ((.str "Keeper" 597) :: (.str "Keeper" 598) :: (.str "/claim/cut.py" 599) :: (.int 121 0) :: (.int 0 0) :: (.int 0 0) :: (.int 0 0) :: (.int 0 0) :: (.ref 313) :: (.bool false) :: (.int 181 0) :: (.ref 314) :: .none :: .none :: .none :: .none :: (.int 600 0) :: (.int 121 0) :: (.str "/claim/cut.py" 601) :: [])
def ho312 (P : Params) : Obj := ⟨(.type "frame"), none, .plain, ((some (.ref 315)) :: (some (.ref 3)) :: (some (.ref 312)) :: none :: (some (.str "stow.keepers" 593)) :: none :: (some (.ref 0)) :: []).toArray⟩
def ho315 (P : Params) : Obj := tu ((.str "self" 610) :: (.str "size" 611) :: [])
def ho317 (P : Params) : Obj := fq "__init__" "Keeper.__init__" (inClass (top 38) 0)
def ho318 (P : Params) : Obj := co ((.str "__init__" 607) :: (.str "Keeper.__init__" 608) :: (.str "/claim/cut.py" 609) :: (.int 123 0) :: (.int 2 0) :: (.int 0 0) :: (.int 0 0) :: (.int 3 0) :: (.ref 317) :: (.bool true) :: (.int 181 0) :: (.ref 318) :: .none :: (.ref 319) :: (.ref 320) :: (.ref 321) :: (.int 612 0) :: (.int 123 0) :: (.str "/claim/cut.py" 613) :: [])
def ho319 (P : Params) : Obj := fo "__init__" "Keeper.__init__" (inClass (top 38) 0) .none .none .none (.str "stow.keepers" 593) none (.ref 322) .none none
def ho322 (P : Params) : Obj := tu ((.str "self" 618) :: [])
def ho324 (P : Params) : Obj := fq "cells" "Keeper.cells" (inClass (top 38) 1)
def ho325 (P : Params) : Obj := co ((.str "cells" 615) :: (.str "Keeper.cells" 616) :: (.str "/claim/cut.py" 617) :: (.int 126 0) :: (.int 1 0) :: (.int 0 0) :: (.int 0 0) :: (.int 3 0) :: (.ref 324) :: (.bool true) :: (.int 181 0) :: (.ref 325) :: .none :: (.ref 326) :: (.ref 327) :: (.ref 328) :: (.int 619 0) :: (.int 126 0) :: (.str "/claim/cut.py" 620) :: [])
def ho326 (P : Params) : Obj := fo "cells" "Keeper.cells" (inClass (top 38) 1) .none .none .none (.str "stow.keepers" 593) none (.ref 329) .none none
def ho329 (P : Params) : Obj := tu ((.str "self" 625) :: [])
def ho331 (P : Params) : Obj := fq "pieces" "Keeper.pieces" (inClass (top 38) 2)
def ho332 (P : Params) : Obj := co ((.str "pieces" 622) :: (.str "Keeper.pieces" 623) :: (.str "/claim/cut.py" 624) :: (.int 129 0) :: (.int 1 0) :: (.int 0 0) :: (.int 0 0) :: (.int 3 0) :: (.ref 331) :: (.bool true) :: (.int 181 0) :: (.ref 332) :: .none :: (.ref 333) :: (.ref 334) :: (.ref 335) :: (.int 626 0) :: (.int 129 0) :: (.str "/claim/cut.py" 627) :: [])
def ho333 (P : Params) : Obj := fo "pieces" "Keeper.pieces" (inClass (top 38) 2) .none .none .none (.str "stow.keepers" 593) none (.ref 336) .none none
def ho336 (P : Params) : Obj := tu ((.str "self" 632) :: (.str "cells" 633) :: [])
def ho338 (P : Params) : Obj := fq "lay" "Keeper.lay" (inClass (top 38) 3)
def ho339 (P : Params) : Obj := co ((.str "lay" 629) :: (.str "Keeper.lay" 630) :: (.str "/claim/cut.py" 631) :: (.int 132 0) :: (.int 2 0) :: (.int 0 0) :: (.int 0 0) :: (.int 3 0) :: (.ref 338) :: (.bool true) :: (.int 181 0) :: (.ref 339) :: .none :: (.ref 340) :: (.ref 341) :: (.ref 342) :: (.int 634 0) :: (.int 132 0) :: (.str "/claim/cut.py" 635) :: [])
def ho340 (P : Params) : Obj := fo "lay" "Keeper.lay" (inClass (top 38) 3) .none .none .none (.str "stow.keepers" 593) none (.ref 343) .none none
def ho343 (P : Params) : Obj := tu ((.str "self" 640) :: [])
def ho345 (P : Params) : Obj := fq "clear" "Keeper.clear" (inClass (top 38) 4)
def ho346 (P : Params) : Obj := co ((.str "clear" 637) :: (.str "Keeper.clear" 638) :: (.str "/claim/cut.py" 639) :: (.int 138 0) :: (.int 1 0) :: (.int 0 0) :: (.int 0 0) :: (.int 3 0) :: (.ref 345) :: (.bool true) :: (.int 181 0) :: (.ref 346) :: .none :: (.ref 347) :: (.ref 348) :: (.ref 349) :: (.int 641 0) :: (.int 138 0) :: (.str "/claim/cut.py" 642) :: [])
def ho347 (P : Params) : Obj := fo "clear" "Keeper.clear" (inClass (top 38) 4) .none .none .none (.str "stow.keepers" 593) none (.ref 350) .none none
def ho350 (P : Params) : Obj := tu ((.str "self" 647) :: (.str "place" 648) :: (.str "at" 649) :: (.str "long" 650) :: (.str "live" 651) :: [])
def ho352 (P : Params) : Obj := fq "many" "Keeper.many" (inClass (top 38) 5)
def ho353 (P : Params) : Obj := co ((.str "many" 644) :: (.str "Keeper.many" 645) :: (.str "/claim/cut.py" 646) :: (.int 141 0) :: (.int 2 0) :: (.int 0 0) :: (.int 0 0) :: (.int 3 0) :: (.ref 352) :: (.bool true) :: (.int 181 0) :: (.ref 353) :: .none :: (.ref 354) :: (.ref 355) :: (.ref 356) :: (.int 652 0) :: (.int 141 0) :: (.str "/claim/cut.py" 653) :: [])
def ho354 (P : Params) : Obj := fo "many" "Keeper.many" (inClass (top 38) 5) .none .none .none (.str "stow.keepers" 593) none (.ref 357) .none none
def ho357 (P : Params) : Obj := tu ((.str "self" 658) :: (.str "place" 659) :: (.str "k" 660) :: [])
def ho359 (P : Params) : Obj := fq "get" "Keeper.get" (inClass (top 38) 6)
def ho360 (P : Params) : Obj := co ((.str "get" 655) :: (.str "Keeper.get" 656) :: (.str "/claim/cut.py" 657) :: (.int 145 0) :: (.int 3 0) :: (.int 0 0) :: (.int 0 0) :: (.int 3 0) :: (.ref 359) :: (.bool true) :: (.int 181 0) :: (.ref 360) :: .none :: (.ref 361) :: (.ref 362) :: (.ref 363) :: (.int 661 0) :: (.int 145 0) :: (.str "/claim/cut.py" 662) :: [])
def ho361 (P : Params) : Obj := fo "get" "Keeper.get" (inClass (top 38) 6) .none .none .none (.str "stow.keepers" 593) none (.ref 364) .none none
def ho364 (P : Params) : Obj := tu ((.str "self" 667) :: (.str "place" 668) :: (.str "k" 669) :: (.str "number" 670) :: (.str "cell" 671) :: [])
def ho366 (P : Params) : Obj := fq "put" "Keeper.put" (inClass (top 38) 7)
def ho367 (P : Params) : Obj := co ((.str "put" 664) :: (.str "Keeper.put" 665) :: (.str "/claim/cut.py" 666) :: (.int 148 0) :: (.int 4 0) :: (.int 0 0) :: (.int 0 0) :: (.int 3 0) :: (.ref 366) :: (.bool true) :: (.int 181 0) :: (.ref 367) :: .none :: (.ref 368) :: (.ref 369) :: (.ref 370) :: (.int 672 0) :: (.int 148 0) :: (.str "/claim/cut.py" 673) :: [])
def ho368 (P : Params) : Obj := fo "put" "Keeper.put" (inClass (top 38) 7) .none .none .none (.str "stow.keepers" 593) none (.ref 371) .none none
def ho369 (P : Params) : Obj := tu ((.int 1 675) :: [])
def ho372 (P : Params) : Obj := tu ((.str "self" 679) :: (.str "count" 680) :: (.str "bound" 681) :: [])
def ho374 (P : Params) : Obj := fq "ask" "Keeper.ask" (inClass (top 38) 8)
def ho375 (P : Params) : Obj := co ((.str "ask" 676) :: (.str "Keeper.ask" 677) :: (.str "/claim/cut.py" 678) :: (.int 152 0) :: (.int 3 0) :: (.int 0 0) :: (.int 0 0) :: (.int 3 0) :: (.ref 374) :: (.bool true) :: (.int 181 0) :: (.ref 375) :: .none :: (.ref 376) :: (.ref 377) :: (.ref 378) :: (.int 682 0) :: (.int 152 0) :: (.str "/claim/cut.py" 683) :: [])
def ho376 (P : Params) : Obj := fo "ask" "Keeper.ask" (inClass (top 38) 8) (.ref 373) .none .none (.str "stow.keepers" 593) none (.ref 379) .none none
def ho379 (P : Params) : Obj := tu ((.str "self" 688) :: (.str "place" 689) :: (.str "at" 690) :: (.str "long" 691) :: (.str "live" 692) :: [])
def ho381 (P : Params) : Obj := fq "give" "Keeper.give" (inClass (top 38) 9)
def ho382 (P : Params) : Obj := co ((.str "give" 685) :: (.str "Keeper.give" 686) :: (.str "/claim/cut.py" 687) :: (.int 156 0) :: (.int 2 0) :: (.int 0 0) :: (.int 0 0) :: (.int 3 0) :: (.ref 381) :: (.bool true) :: (.int 181 0) :: (.ref 382) :: .none :: (.ref 383) :: (.ref 384) :: (.ref 385) :: (.int 693 0) :: (.int 156 0) :: (.str "/claim/cut.py" 694) :: [])
def ho383 (P : Params) : Obj := fo "give" "Keeper.give" (inClass (top 38) 9) .none .none .none (.str "stow.keepers" 593) none (.ref 386) .none none
def ho384 (P : Params) : Obj := tu ((.int 1 696) :: [])
def ho387 (P : Params) : Obj := tu ((.str "self" 700) :: (.str "place" 701) :: (.str "count" 702) :: (.str "bound" 703) :: (.str "had" 704) :: [])
def ho389 (P : Params) : Obj := fq "grow" "Keeper.grow" (inClass (top 38) 10)
def ho390 (P : Params) : Obj := co ((.str "grow" 697) :: (.str "Keeper.grow" 698) :: (.str "/claim/cut.py" 699) :: (.int 160 0) :: (.int 4 0) :: (.int 0 0) :: (.int 0 0) :: (.int 3 0) :: (.ref 389) :: (.bool true) :: (.int 181 0) :: (.ref 390) :: .none :: (.ref 391) :: (.ref 392) :: (.ref 393) :: (.int 705 0) :: (.int 160 0) :: (.str "/claim/cut.py" 706) :: [])
def ho391 (P : Params) : Obj := fo "grow" "Keeper.grow" (inClass (top 38) 10) (.ref 388) .none .none (.str "stow.keepers" 593) none (.ref 394) .none none
def ho394 (P : Params) : Obj := tu ((.str "self" 711) :: (.str "cells" 712) :: [])
def ho396 (P : Params) : Obj := fq "room_begin" "Keeper.room_begin" (inClass (top 38) 11)
def ho397 (P : Params) : Obj := co ((.str "room_begin" 708) :: (.str "Keeper.room_begin" 709) :: (.str "/claim/cut.py" 710) :: (.int 167 0) :: (.int 2 0) :: (.int 0 0) :: (.int 0 0) :: (.int 3 0) :: (.ref 396) :: (.bool true) :: (.int 181 0) :: (.ref 397) :: .none :: (.ref 398) :: (.ref 399) :: (.ref 400) :: (.int 713 0) :: (.int 167 0) :: (.str "/claim/cut.py" 714) :: [])
def ho398 (P : Params) : Obj := fo "room_begin" "Keeper.room_begin" (inClass (top 38) 11) .none .none .none (.str "stow.keepers" 593) none (.ref 401) .none none
def ho401 (P : Params) : Obj := tu ((.str "self" 719) :: (.str "place" 720) :: (.str "k" 721) :: (.str "many" 722) :: [])
def ho403 (P : Params) : Obj := fq "room_cell_of" "Keeper.room_cell_of" (inClass (top 38) 12)
def ho404 (P : Params) : Obj := co ((.str "room_cell_of" 716) :: (.str "Keeper.room_cell_of" 717) :: (.str "/claim/cut.py" 718) :: (.int 170 0) :: (.int 3 0) :: (.int 0 0) :: (.int 0 0) :: (.int 3 0) :: (.ref 403) :: (.bool true) :: (.int 181 0) :: (.ref 404) :: .none :: (.ref 405) :: (.ref 406) :: (.ref 407) :: (.int 723 0) :: (.int 170 0) :: (.str "/claim/cut.py" 724) :: [])
def ho405 (P : Params) : Obj := fo "room_cell_of" "Keeper.room_cell_of" (inClass (top 38) 12) .none .none .none (.str "stow.keepers" 593) none (.ref 408) .none none
def ho408 (P : Params) : Obj := tu ((.str "self" 729) :: (.str "place" 730) :: (.str "count" 731) :: (.str "bound" 732) :: (.str "goal" 733) :: [])
def ho410 (P : Params) : Obj := fq "room_moved" "Keeper.room_moved" (inClass (top 38) 13)
def ho411 (P : Params) : Obj := co ((.str "room_moved" 726) :: (.str "Keeper.room_moved" 727) :: (.str "/claim/cut.py" 728) :: (.int 176 0) :: (.int 4 0) :: (.int 0 0) :: (.int 0 0) :: (.int 3 0) :: (.ref 410) :: (.bool true) :: (.int 181 0) :: (.ref 411) :: .none :: (.ref 412) :: (.ref 413) :: (.ref 414) :: (.int 734 0) :: (.int 176 0) :: (.str "/claim/cut.py" 735) :: [])
def ho412 (P : Params) : Obj := fo "room_moved" "Keeper.room_moved" (inClass (top 38) 13) .none .none .none (.str "stow.keepers" 593) none (.ref 415) .none none
def ho413 (P : Params) : Obj := tu ((.str "room_cells" 737) :: [])
def ho414 (P : Params) : Obj := ⟨(.type "dict"), none, .dict (en P "__module__" 602 (.str "stow.keepers" 593) :: en P "__firstlineno__" 606 (.int 121 605) :: en P "__init__" 614 (.ref 323) :: en P "cells" 621 (.ref 330) :: en P "pieces" 628 (.ref 337) :: en P "lay" 636 (.ref 344) :: en P "clear" 643 (.ref 351) :: en P "many" 654 (.ref 358) :: en P "get" 663 (.ref 365) :: en P "put" 674 (.ref 372) :: en P "ask" 684 (.ref 380) :: en P "give" 695 (.ref 387) :: en P "grow" 707 (.ref 395) :: en P "room_begin" 715 (.ref 402) :: en P "room_cell_of" 725 (.ref 409) :: en P "room_moved" 736 (.ref 416) :: en P "__static_attributes__" 738 (.ref 417) :: en P "__dict__" 740 (.ref 420) :: en P "__weakref__" 742 (.ref 421) :: en P "__doc__" 743 .none :: []).toArray 4, #[]⟩
def ho415 (P : Params) : Obj := ⟨(.type "type"), none, .cls ⟨"Keeper", [(.type "object")], [(.ref 419), (.type "object")], 418, "Keeper", true, [], [(.ref 456)], false, none, false⟩, (none :: none :: (some (.str "Keeper" 595)) :: (some (.str "Keeper" 603)) :: (some (.builtin "object.__new__")) :: (some (.bool true)) :: []).toArray⟩
def ho416 (P : Params) : Obj := ⟨(.type "getset_descriptor"), none, .fields ((.str "__dict__" 739) :: (.ref 419) :: (.builtin "function.__dict__") :: (.builtin "function.__dict__#set") :: []).toArray, #[]⟩
def ho417 (P : Params) : Obj := ⟨(.type "getset_descriptor"), none, .fields ((.str "__weakref__" 741) :: (.ref 419) :: (.builtin "ExceptionGroup.__weakref__") :: .none :: []).toArray, #[]⟩
def ho418 (P : Params) : Obj := ⟨(.type "super"), none, .fields ((.ref 419) :: (.ref 419) :: (.ref 419) :: []).toArray, #[]⟩
def ho419 (P : Params) : Obj := ⟨(.type "builtin_function_or_method"), none, .fields ((.builtin "object.__init_subclass__") :: (.ref 419) :: []).toArray, #[]⟩
def ho420 (P : Params) : Obj := tu ((.ref 419) :: [])
def ho422 (P : Params) : Obj := ⟨(.type "dict"), none, .dict (en P "__module__" 755 (.str "stow.rows" 746) :: en P "__qualname__" 757 (.str "Row" 756) :: en P "__firstlineno__" 759 (.int 182 758) :: en P "ask" 772 (.ref 438) :: en P "give" 780 (.ref 445) :: en P "grow" 791 (.ref 453) :: en P "__static_attributes__" 792 (.ref 454) :: []).toArray 7, #[]⟩
def ho424 (P : Params) : Obj := fl ((.int 184 0) :: (.int 4 0) :: (.ref 437) :: (.int 192 0) :: (.int 4 0) :: (.ref 444) :: (.int 195 0) :: (.int 4 0) :: (.ref 452) :: [])
def ho425 (P : Params) : Obj := co ((.str "Row" 750) :: (.str "Row" 751) :: (.str "/claim/cut.py" 752) :: (.int 182 0) :: (.int 0 0) :: (.int 0 0) :: (.int 0 0) :: (.int 0 0) :: (.ref 427) :: (.bool false) :: (.int 181 0) :: (.ref 428) :: .none :: .none :: .none :: .none :: (.int 753 0) :: (.int 182 0) :: (.str "/claim/cut.py" 754) :: [])
def ho426 (P : Params) : Obj := ⟨(.type "frame"), none, .plain, ((some (.ref 429)) :: (some (.ref 3)) :: (some (.ref 426)) :: none :: (some (.str "stow.rows" 746)) :: none :: (some (.ref 0)) :: []).toArray⟩
def ho427 (P : Params) : Obj := tu ((.int 1 760) :: [])
def ho430 (P : Params) : Obj := tu ((.str "self" 764) :: (.str "count" 765) :: (.str "bound" 766) :: (.str "at" 767) :: (.str "long" 768) :: (.str "live" 769) :: [])
def ho432 (P : Params) : Obj := fq "ask" "Row.ask" (inClass (top 40) 0)
def ho433 (P : Params) : Obj := co ((.str "ask" 761) :: (.str "Row.ask" 762) :: (.str "/claim/cut.py" 763) :: (.int 184 0) :: (.int 3 0) :: (.int 0 0) :: (.int 0 0) :: (.int 3 0) :: (.ref 432) :: (.bool true) :: (.int 181 0) :: (.ref 433) :: .none :: (.ref 434) :: (.ref 435) :: (.ref 436) :: (.int 770 0) :: (.int 184 0) :: (.str "/claim/cut.py" 771) :: [])
def ho434 (P : Params) : Obj := fo "ask" "Row.ask" (inClass (top 40) 0) (.ref 431) .none .none (.str "stow.rows" 746) none (.ref 437) .none none
def ho437 (P : Params) : Obj := tu ((.str "self" 776) :: (.str "place" 777) :: [])
def ho439 (P : Params) : Obj := fq "give" "Row.give" (inClass (top 40) 1)
def ho440 (P : Params) : Obj := co ((.str "give" 773) :: (.str "Row.give" 774) :: (.str "/claim/cut.py" 775) :: (.int 192 0) :: (.int 2 0) :: (.int 0 0) :: (.int 0 0) :: (.int 3 0) :: (.ref 439) :: (.bool true) :: (.int 181 0) :: (.ref 440) :: .none :: (.ref 441) :: (.ref 442) :: (.ref 443) :: (.int 778 0) :: (.int 192 0) :: (.str "/claim/cut.py" 779) :: [])
def ho441 (P : Params) : Obj := fo "give" "Row.give" (inClass (top 40) 1) .none .none .none (.str "stow.rows" 746) none (.ref 444) .none none
def ho442 (P : Params) : Obj := tu ((.int 1 781) :: [])
def ho445 (P : Params) : Obj := tu ((.str "self" 785) :: (.str "place" 786) :: (.str "count" 787) :: (.str "bound" 788) :: [])
def ho447 (P : Params) : Obj := fq "grow" "Row.grow" (inClass (top 40) 2)
def ho448 (P : Params) : Obj := co ((.str "grow" 782) :: (.str "Row.grow" 783) :: (.str "/claim/cut.py" 784) :: (.int 195 0) :: (.int 4 0) :: (.int 0 0) :: (.int 0 0) :: (.int 3 0) :: (.ref 447) :: (.bool true) :: (.int 181 0) :: (.ref 448) :: .none :: (.ref 449) :: (.ref 450) :: (.ref 451) :: (.int 789 0) :: (.int 195 0) :: (.str "/claim/cut.py" 790) :: [])
def ho449 (P : Params) : Obj := fo "grow" "Row.grow" (inClass (top 40) 2) (.ref 446) .none .none (.str "stow.rows" 746) none (.ref 452) .none none
def ho451 (P : Params) : Obj := ⟨(.type "dict"), none, .dict (en P "__module__" 755 (.str "stow.rows" 746) :: en P "__firstlineno__" 759 (.int 182 758) :: en P "ask" 772 (.ref 438) :: en P "give" 780 (.ref 445) :: en P "grow" 791 (.ref 453) :: en P "__static_attributes__" 792 (.ref 454) :: en P "__doc__" 793 .none :: []).toArray 2, #[]⟩
def ho452 (P : Params) : Obj := ⟨(.type "type"), none, .cls ⟨"Row", [(.ref 419)], [(.ref 456), (.ref 419), (.type "object")], 455, "Row", true, [], [], false, none, false⟩, ((some (.ref 424)) :: none :: (some (.str "Row" 748)) :: (some (.str "Row" 756)) :: (some (.builtin "object.__new__")) :: (some (.bool true)) :: []).toArray⟩
def ho453 (P : Params) : Obj := ⟨(.type "super"), none, .fields ((.ref 456) :: (.ref 456) :: (.ref 456) :: []).toArray, #[]⟩
def ho454 (P : Params) : Obj := ⟨(.type "builtin_function_or_method"), none, .fields ((.builtin "object.__init_subclass__") :: (.ref 456) :: []).toArray, #[]⟩
def ho457 (P : Params) : Obj := tu ((.str "_law_script" 801) :: (.str "_law_k" 802) :: [])
def ho459 (P : Params) : Obj := fq "_law_cell_at" "_law_cell_at" (top 42)
def ho460 (P : Params) : Obj := co ((.str "_law_cell_at" 798) :: (.str "_law_cell_at" 799) :: (.str "/claim/cut.py" 800) :: (.int 198 0) :: (.int 2 0) :: (.int 0 0) :: (.int 0 0) :: (.int 3 0) :: (.ref 459) :: (.bool true) :: (.int 181 0) :: (.ref 460) :: .none :: (.ref 461) :: (.ref 462) :: (.ref 463) :: (.int 803 0) :: (.int 198 0) :: (.str "/claim/cut.py" 804) :: [])
def ho461 (P : Params) : Obj := fo "_law_cell_at" "_law_cell_at" (top 42) .none .none .none (.str "law_stow_k36_a_row" 796) none (.ref 464) .none none
def ho464 (P : Params) : Obj := tu ((.str "_law_found" 809) :: [])
def ho466 (P : Params) : Obj := fq "_law_whole" "_law_whole" (top 43)
def ho467 (P : Params) : Obj := co ((.str "_law_whole" 806) :: (.str "_law_whole" 807) :: (.str "/claim/cut.py" 808) :: (.int 202 0) :: (.int 1 0) :: (.int 0 0) :: (.int 0 0) :: (.int 3 0) :: (.ref 466) :: (.bool true) :: (.int 181 0) :: (.ref 467) :: .none :: (.ref 468) :: (.ref 469) :: (.ref 470) :: (.int 810 0) :: (.int 202 0) :: (.str "/claim/cut.py" 811) :: [])
def ho468 (P : Params) : Obj := fo "_law_whole" "_law_whole" (top 43) .none .none .none (.str "law_stow_k36_a_row" 796) none (.ref 471) .none none
def ho471 (P : Params) : Obj := tu ((.str "_law_found" 816) :: (.str "_law_due" 817) :: (.str "_law_piece" 818) :: [])
def ho473 (P : Params) : Obj := fq "_law_alike" "_law_alike" (top 44)
def ho474 (P : Params) : Obj := co ((.str "_law_alike" 813) :: (.str "_law_alike" 814) :: (.str "/claim/cut.py" 815) :: (.int 204 0) :: (.int 2 0) :: (.int 0 0) :: (.int 0 0) :: (.int 3 0) :: (.ref 473) :: (.bool true) :: (.int 181 0) :: (.ref 474) :: .none :: (.ref 475) :: (.ref 476) :: (.ref 477) :: (.int 819 0) :: (.int 204 0) :: (.str "/claim/cut.py" 820) :: [])
def ho475 (P : Params) : Obj := fo "_law_alike" "_law_alike" (top 44) .none .none .none (.str "law_stow_k36_a_row" 796) none (.ref 478) .none none
def ho478 (P : Params) : Obj := tu ((.str "_law_cells" 825) :: (.str "_law_told" 826) :: (.str "_law_at" 827) :: (.str "_law_long" 828) :: (.str "_law_live" 829) :: [])
def ho480 (P : Params) : Obj := fq "_law_walk" "_law_walk" (top 45)
def ho481 (P : Params) : Obj := co ((.str "_law_walk" 822) :: (.str "_law_walk" 823) :: (.str "/claim/cut.py" 824) :: (.int 213 0) :: (.int 1 0) :: (.int 0 0) :: (.int 0 0) :: (.int 3 0) :: (.ref 480) :: (.bool true) :: (.int 181 0) :: (.ref 481) :: .none :: (.ref 482) :: (.ref 483) :: (.ref 484) :: (.int 830 0) :: (.int 213 0) :: (.str "/claim/cut.py" 831) :: [])
def ho482 (P : Params) : Obj := fo "_law_walk" "_law_walk" (top 45) .none .none .none (.str "law_stow_k36_a_row" 796) none (.ref 485) .none none
def ho485 (P : Params) : Obj := tu ((.str "_law_cell" 836) :: [])
def ho487 (P : Params) : Obj := fq "_law_number" "_law_number" (top 46)
def ho488 (P : Params) : Obj := co ((.str "_law_number" 833) :: (.str "_law_number" 834) :: (.str "/claim/cut.py" 835) :: (.int 230 0) :: (.int 1 0) :: (.int 0 0) :: (.int 0 0) :: (.int 3 0) :: (.ref 487) :: (.bool true) :: (.int 181 0) :: (.ref 488) :: .none :: (.ref 489) :: (.ref 490) :: (.ref 491) :: (.int 837 0) :: (.int 230 0) :: (.str "/claim/cut.py" 838) :: [])
def ho489 (P : Params) : Obj := fo "_law_number" "_law_number" (top 46) .none .none .none (.str "law_stow_k36_a_row" 796) none (.ref 492) .none none
def ho492 (P : Params) : Obj := tu ((.str "_law_longs" 843) :: (.str "_law_size" 844) :: (.str "_law_told" 845) :: (.str "_law_at" 846) :: (.str "_law_long" 847) :: [])
def ho494 (P : Params) : Obj := fq "_law_pieces" "_law_pieces" (top 47)
def ho495 (P : Params) : Obj := co ((.str "_law_pieces" 840) :: (.str "_law_pieces" 841) :: (.str "/claim/cut.py" 842) :: (.int 234 0) :: (.int 2 0) :: (.int 0 0) :: (.int 0 0) :: (.int 3 0) :: (.ref 494) :: (.bool true) :: (.int 181 0) :: (.ref 495) :: .none :: (.ref 496) :: (.ref 497) :: (.ref 498) :: (.int 848 0) :: (.int 234 0) :: (.str "/claim/cut.py" 849) :: [])
def ho496 (P : Params) : Obj := fo "_law_pieces" "_law_pieces" (top 47) .none .none .none (.str "law_stow_k36_a_row" 796) none (.ref 499) .none none
def ho499 (P : Params) : Obj := tu ((.str "_law_keeper" 854) :: (.str "_law_count" 855) :: (.str "_law_bare" 856) :: (.str "_law_word" 857) :: (.str "_law_place" 858) :: [])
def ho501 (P : Params) : Obj := fq "_law_ask_told" "_law_ask_told" (top 48)
def ho502 (P : Params) : Obj := co ((.str "_law_ask_told" 851) :: (.str "_law_ask_told" 852) :: (.str "/claim/cut.py" 853) :: (.int 243 0) :: (.int 3 0) :: (.int 0 0) :: (.int 0 0) :: (.int 3 0) :: (.ref 501) :: (.bool true) :: (.int 181 0) :: (.ref 502) :: .none :: (.ref 503) :: (.ref 504) :: (.ref 505) :: (.int 859 0) :: (.int 243 0) :: (.str "/claim/cut.py" 860) :: [])
def ho503 (P : Params) : Obj := fo "_law_ask_told" "_law_ask_told" (top 48) .none .none .none (.str "law_stow_k36_a_row" 796) none (.ref 506) .none none
def ho506 (P : Params) : Obj := tu ((.str "_law_keeper" 865) :: (.str "_law_place" 866) :: (.str "_law_cell" 867) :: (.str "_law_right" 868) :: (.str "_law_numbers" 869) :: (.str "e" 870) :: (.str "_law_others" 871) :: [])
def ho508 (P : Params) : Obj := fq "_law_refused" "_law_refused" (top 49)
def ho509 (P : Params) : Obj := co ((.str "_law_refused" 862) :: (.str "_law_refused" 863) :: (.str "/claim/cut.py" 864) :: (.int 254 0) :: (.int 3 0) :: (.int 0 0) :: (.int 0 0) :: (.int 3 0) :: (.ref 508) :: (.bool true) :: (.int 181 0) :: (.ref 509) :: .none :: (.ref 510) :: (.ref 511) :: (.ref 512) :: (.int 872 0) :: (.int 254 0) :: (.str "/claim/cut.py" 873) :: [])
def ho510 (P : Params) : Obj := fo "_law_refused" "_law_refused" (top 49) .none .none .none (.str "law_stow_k36_a_row" 796) none (.ref 513) .none none
def ho513 (P : Params) : Obj := tu ((.str "_law_keeper" 878) :: (.str "_law_longs" 879) :: (.str "_law_known" 880) :: (.str "_law_cell" 881) :: (.str "_law_size" 882) :: (.str "_law_count" 883) :: (.str "_law_way" 884) :: (.str "_law_due" 885) :: (.str "_law_told" 886) :: (.str "_law_number_here" 887) :: (.str "_law_place" 888) :: (.str "_law_k" 889) :: [])
def ho515 (P : Params) : Obj := fq "_law_step" "_law_step" (top 50)
def ho516 (P : Params) : Obj := co ((.str "_law_step" 875) :: (.str "_law_step" 876) :: (.str "/claim/cut.py" 877) :: (.int 271 0) :: (.int 5 0) :: (.int 0 0) :: (.int 0 0) :: (.int 3 0) :: (.ref 515) :: (.bool true) :: (.int 181 0) :: (.ref 516) :: .none :: (.ref 517) :: (.ref 518) :: (.ref 519) :: (.int 890 0) :: (.int 271 0) :: (.str "/claim/cut.py" 891) :: [])
def ho517 (P : Params) : Obj := fo "_law_step" "_law_step" (top 50) .none .none .none (.str "law_stow_k36_a_row" 796) none (.ref 520) .none none
def ho520 (P : Params) : Obj := tu ((.str "_law_keeper" 896) :: (.str "_law_longs" 897) :: (.str "_law_known" 898) :: (.str "_law_size" 899) :: (.str "_law_due" 900) :: (.str "_law_cells" 901) :: (.str "_law_at" 902) :: [])
def ho522 (P : Params) : Obj := fq "_law_seen" "_law_seen" (top 51)
def ho523 (P : Params) : Obj := co ((.str "_law_seen" 893) :: (.str "_law_seen" 894) :: (.str "/claim/cut.py" 895) :: (.int 297 0) :: (.int 4 0) :: (.int 0 0) :: (.int 0 0) :: (.int 3 0) :: (.ref 522) :: (.bool true) :: (.int 181 0) :: (.ref 523) :: .none :: (.ref 524) :: (.ref 525) :: (.ref 526) :: (.int 903 0) :: (.int 297 0) :: (.str "/claim/cut.py" 904) :: [])
def ho524 (P : Params) : Obj := fo "_law_seen" "_law_seen" (top 51) .none .none .none (.str "law_stow_k36_a_row" 796) none (.ref 527) .none none
def ho527 (P : Params) : Obj := tu ((.str "_law_script" 909) :: (.str "_law_size" 910) :: (.str "_law_keeper" 911) :: (.str "_law_longs" 912) :: (.str "_law_known" 913) :: (.str "_law_cell" 914) :: [])
def ho529 (P : Params) : Obj := fq "law" "law" (top 52)
def ho530 (P : Params) : Obj := co ((.str "law" 906) :: (.str "law" 907) :: (.str "/claim/cut.py" 908) :: (.int 306 0) :: (.int 1 0) :: (.int 0 0) :: (.int 0 0) :: (.int 3 0) :: (.ref 529) :: (.bool true) :: (.int 181 0) :: (.ref 530) :: .none :: (.ref 531) :: (.ref 532) :: (.ref 533) :: (.int 915 0) :: (.int 306 0) :: (.str "/claim/cut.py" 916) :: [])
def ho531 (P : Params) : Obj := fo "law" "law" (top 52) .none .none .none (.str "law_stow_k36_a_row" 796) none (.ref 534) .none none
noncomputable def heapA : Params → Heap := fun P => ⟨Array.mk (PySem.W.boot_o_0 P :: PySem.W.boot_o_1 P :: PySem.W.boot_o_2 P :: PySem.W.boot_o_3 P :: PySem.W.boot_o_4 P :: PySem.W.boot_o_5 P :: PySem.W.boot_o_6 P :: PySem.W.boot_o_7 P :: PySem.W.boot_o_8 P :: PySem.W.boot_o_9 P :: PySem.W.boot_o_10 P :: ho0 P :: ho1 P :: ho2 P :: ho3 P :: []), ⟨[], [], [], 0, [], [], false, #[], [], 0, false, false, false, 0, [2000, 10, 10], false, 0, true, [], [], 0, false⟩⟩
def body0 : List Stmt := PySem.W.behindTheImports PySem.Challenge.pw_stow_k36_a_row
def sts0 : List Stmt := (body0.drop 0).take 9
def sts1 : List Stmt := (body0.drop 9).take 23
def sts2 : List Stmt := (body0.drop 32).take 21
def all0 : List Stmt := sts0 ++ (sts1 ++ (sts2 ++ []))
def env0 : Env := { scope := (PySem.Challenge.pw_stow_k36_a_row).main.scope, locals := mainNs, globals := mainNs, cells := [], code := (.ref 13), frame := some 14 }
def code0 : Code := .body all0 env0
theorem pre0 (w : World) (os : OsState) : PySem.W.topGo treeTable PySem.Challenge.pw_stow_k36_a_row w 11 (some (.ref 6)) 12 ⟨PySem.W.boot_heap w.params, Array.mk [], PySem.W.boot_drawn, PySem.W.boot_toks, os⟩ (PySem.W.topStub PySem.Challenge.pw_stow_k36_a_row) = some (⟨heapA w.params, #[], ⟨0, 0, 0, 0⟩, 187, os⟩, ⟨denote treeTable (.body all0 env0), code0, ⟨0, 0, 0, 0⟩, [PySem.W.topFrame ⟨0, 0, 0, 0⟩]⟩) := by kernel_rfl
noncomputable def treeB : Params → PySem.W.BT := fun P => (.node (PySem.W.boot_o_0 P) (.node (PySem.W.boot_o_1 P) (.node (PySem.W.boot_o_3 P) (.node (PySem.W.boot_o_7 P) .nil .nil) (.node (ho0 P) .nil .nil)) (.node (PySem.W.boot_o_5 P) (.node (PySem.W.boot_o_9 P) .nil .nil) (.node (ho2 P) .nil .nil))) (.node (PySem.W.boot_o_2 P) (.node (PySem.W.boot_o_4 P) (.node (PySem.W.boot_o_8 P) .nil .nil) (.node (ho1 P) .nil .nil)) (.node (PySem.W.boot_o_6 P) (.node (PySem.W.boot_o_10 P) .nil .nil) (.node (ho3 P) .nil .nil))))
theorem blk0 (w : World) (os : OsState) : PySem.W.segRun treeTable PySem.Challenge.pw_stow_k36_a_row w 11 (some (.ref 6)) 1 1 ⟨heapA w.params, #[], ⟨0, 0, 0, 0⟩, 187, os⟩ (PySem.W.blockOf all0 env0 code0 ⟨0, 0, 0, 0⟩ [PySem.W.topFrame ⟨0, 0, 0, 0⟩]) = some (.next, (PySem.W.SharedT.mk (treeB w.params) 15 ⟨[], [], [], 0, [], [], false, #[], [], 0, false, false, false, 0, [2000, 10, 10], false, 0, true, [], [], 0, false⟩ #[] ⟨0, 0, 0, 0⟩ 187 os).abs, code0, ⟨0, 0, 0, 0⟩) := by kernel_rfl
noncomputable def treeG9 : Params → PySem.W.BT := fun P => (.node (PySem.W.boot_o_0 P) (.node (PySem.W.boot_o_1 P) (.node (ho4 P) (.node (PySem.W.boot_o_7 P) (.node (ho6 P) (.node (ho0 P) (.node (ho54 P) .nil .nil) (.node (ho19 P) .nil .nil)) (.node (ho0 P) (.node (ho70 P) .nil .nil) (.node (ho1 P) .nil .nil))) (.node (ho14 P) (.node (ho30 P) (.node (ho19 P) .nil .nil) (.node (ho94 P) .nil .nil)) (.node (ho0 P) (.node (ho1 P) .nil .nil) .nil))) (.node (ho0 P) (.node (ho1 P) (.node (ho0 P) (.node (ho58 P) .nil .nil) (.node (ho1 P) .nil .nil)) (.node (ho42 P) (.node (ho19 P) .nil .nil) (.node (ho106 P) .nil .nil))) (.node (ho18 P) (.node (ho0 P) (.node (ho1 P) .nil .nil) (.node (ho19 P) .nil .nil)) (.node (ho0 P) (.node (ho82 P) .nil .nil) .nil)))) (.node (PySem.W.boot_o_5 P) (.node (PySem.W.boot_o_9 P) (.node (ho8 P) (.node (ho24 P) (.node (ho56 P) .nil .nil) (.node (ho88 P) .nil .nil)) (.node (ho40 P) (.node (ho72 P) .nil .nil) (.node (ho104 P) .nil .nil))) (.node (ho16 P) (.node (ho7 P) (.node (ho64 P) .nil .nil) (.node (ho96 P) .nil .nil)) (.node (ho48 P) (.node (ho80 P) .nil .nil) .nil))) (.node (ho2 P) (.node (ho12 P) (.node (ho28 P) (.node (ho60 P) .nil .nil) (.node (ho92 P) .nil .nil)) (.node (ho7 P) (.node (ho76 P) .nil .nil) (.node (ho108 P) .nil .nil))) (.node (ho7 P) (.node (ho36 P) (.node (ho68 P) .nil .nil) (.node (ho100 P) .nil .nil)) (.node (ho52 P) (.node (ho84 P) .nil .nil) .nil))))) (.node (PySem.W.boot_o_2 P) (.node (PySem.W.boot_o_4 P) (.node (PySem.W.boot_o_8 P) (.node (ho7 P) (.node (ho1 P) (.node (ho55 P) .nil .nil) (.node (ho7 P) .nil .nil)) (.node (ho39 P) (.node (ho71 P) .nil .nil) (.node (ho103 P) .nil .nil))) (.node (ho15 P) (.node (ho19 P) (.node (ho7 P) .nil .nil) (.node (ho95 P) .nil .nil)) (.node (ho47 P) (.node (ho79 P) .nil .nil) .nil))) (.node (ho5 P) (.node (ho11 P) (.node (ho27 P) (.node (ho59 P) .nil .nil) (.node (ho91 P) .nil .nil)) (.node (ho19 P) (.node (ho7 P) .nil .nil) (.node (ho107 P) .nil .nil))) (.node (ho19 P) (.node (ho1 P) (.node (ho67 P) .nil .nil) (.node (ho7 P) .nil .nil)) (.node (ho1 P) (.node (ho83 P) .nil .nil) .nil)))) (.node (PySem.W.boot_o_6 P) (.node (PySem.W.boot_o_10 P) (.node (ho0 P) (.node (ho25 P) (.node (ho57 P) .nil .nil) (.node (ho0 P) .nil .nil)) (.node (ho41 P) (.node (ho73 P) .nil .nil) (.node (ho0 P) .nil .nil))) (.node (ho17 P) (.node (ho33 P) (.node (ho0 P) .nil .nil) (.node (ho97 P) .nil .nil)) (.node (ho49 P) (.node (ho0 P) .nil .nil) .nil))) (.node (ho3 P) (.node (ho0 P) (.node (ho29 P) (.node (ho61 P) .nil .nil) (.node (ho0 P) .nil .nil)) (.node (ho45 P) (.node (ho0 P) .nil .nil) (.node (ho109 P) .nil .nil))) (.node (ho21 P) (.node (ho37 P) (.node (ho0 P) .nil .nil) (.node (ho0 P) .nil .nil)) (.node (ho0 P) (.node (ho85 P) .nil .nil) .nil))))))
theorem grp0 (w : World) (os : OsState) : PySem.W.segRunT treeTable PySem.Challenge.pw_stow_k36_a_row w 11 (some (.ref 6)) 1 1719 (PySem.W.SharedT.mk (treeB w.params) 15 ⟨[], [], [], 0, [], [], false, #[], [], 0, false, false, false, 0, [2000, 10, 10], false, 0, true, [], [], 0, false⟩ #[] ⟨0, 0, 0, 0⟩ 187 os) (PySem.W.piecesOf sts0 env0 code0 ⟨0, 0, 0, 0⟩ [PySem.W.topFrame ⟨0, 0, 0, 0⟩]) = some (.next, (PySem.W.SharedT.mk (treeG9 w.params) 119 ⟨[], [], [], 0, [], [], false, #[], [], 0, false, false, false, 0, [2000, 10, 10], false, 0, true, [], [], 0, false⟩ #[] ⟨0, 0, 0, 0⟩ 328 os), code0, ⟨18, 0, 19, 8⟩) := by kernel_rfl
noncomputable def treeG32 : Params → PySem.W.BT := fun P => (.node (PySem.W.boot_o_0 P) (.node (PySem.W.boot_o_1 P) (.node (ho110 P) (.node (PySem.W.boot_o_7 P) (.node (ho6 P) (.node (ho0 P) (.node (ho54 P) (.node (ho121 P) (.node (ho1 P) .nil .nil) .nil) (.node (ho185 P) .nil .nil)) (.node (ho19 P) (.node (ho153 P) .nil .nil) (.node (ho217 P) .nil .nil))) (.node (ho0 P) (.node (ho70 P) (.node (ho19 P) (.node (ho0 P) .nil .nil) .nil) (.node (ho201 P) .nil .nil)) (.node (ho1 P) (.node (ho7 P) .nil .nil) (.node (ho233 P) .nil .nil)))) (.node (ho14 P) (.node (ho30 P) (.node (ho19 P) (.node (ho1 P) (.node (ho257 P) .nil .nil) .nil) (.node (ho1 P) .nil .nil)) (.node (ho94 P) (.node (ho161 P) .nil .nil) (.node (ho225 P) .nil .nil))) (.node (ho0 P) (.node (ho1 P) (.node (ho145 P) .nil .nil) (.node (ho0 P) .nil .nil)) (.node (ho19 P) (.node (ho177 P) .nil .nil) (.node (ho0 P) .nil .nil))))) (.node (ho0 P) (.node (ho1 P) (.node (ho0 P) (.node (ho58 P) (.node (ho19 P) (.node (ho253 P) .nil .nil) .nil) (.node (ho189 P) .nil .nil)) (.node (ho1 P) (.node (ho1 P) .nil .nil) (.node (ho1 P) .nil .nil))) (.node (ho42 P) (.node (ho19 P) (.node (ho1 P) .nil .nil) (.node (ho205 P) .nil .nil)) (.node (ho106 P) (.node (ho173 P) .nil .nil) (.node (ho0 P) .nil .nil)))) (.node (ho18 P) (.node (ho0 P) (.node (ho1 P) (.node (ho133 P) (.node (ho261 P) .nil .nil) .nil) (.node (ho197 P) .nil .nil)) (.node (ho19 P) (.node (ho165 P) .nil .nil) (.node (ho229 P) .nil .nil))) (.node (ho0 P) (.node (ho82 P) (.node (ho19 P) .nil .nil) (.node (ho0 P) .nil .nil)) (.node (ho1 P) (.node (ho7 P) .nil .nil) (.node (ho245 P) .nil .nil)))))) (.node (PySem.W.boot_o_5 P) (.node (PySem.W.boot_o_9 P) (.node (ho8 P) (.node (ho24 P) (.node (ho56 P) (.node (ho123 P) (.node (ho0 P) .nil .nil) .nil) (.node (ho0 P) .nil .nil)) (.node (ho88 P) (.node (ho155 P) .nil .nil) (.node (ho219 P) .nil .nil))) (.node (ho40 P) (.node (ho72 P) (.node (ho139 P) (.node (ho267 P) .nil .nil) .nil) (.node (ho203 P) .nil .nil)) (.node (ho104 P) (.node (ho0 P) .nil .nil) (.node (ho1 P) .nil .nil)))) (.node (ho16 P) (.node (ho7 P) (.node (ho64 P) (.node (ho131 P) (.node (ho259 P) .nil .nil) .nil) (.node (ho0 P) .nil .nil)) (.node (ho96 P) (.node (ho163 P) .nil .nil) (.node (ho0 P) .nil .nil))) (.node (ho48 P) (.node (ho80 P) (.node (ho147 P) .nil .nil) (.node (ho211 P) .nil .nil)) (.node (ho115 P) (.node (ho179 P) .nil .nil) (.node (ho243 P) .nil .nil))))) (.node (ho2 P) (.node (ho12 P) (.node (ho28 P) (.node (ho60 P) (.node (ho127 P) (.node (ho0 P) .nil .nil) .nil) (.node (ho191 P) .nil .nil)) (.node (ho92 P) (.node (ho0 P) .nil .nil) (.node (ho0 P) .nil .nil))) (.node (ho7 P) (.node (ho76 P) (.node (ho143 P) .nil .nil) (.node (ho1 P) .nil .nil)) (.node (ho108 P) (.node (ho0 P) .nil .nil) (.node (ho239 P) .nil .nil)))) (.node (ho7 P) (.node (ho36 P) (.node (ho68 P) (.node (ho135 P) (.node (ho1 P) .nil .nil) .nil) (.node (ho0 P) .nil .nil)) (.node (ho100 P) (.node (ho167 P) .nil .nil) (.node (ho231 P) .nil .nil))) (.node (ho52 P) (.node (ho84 P) (.node (ho151 P) .nil .nil) (.node (ho215 P) .nil .nil)) (.node (ho119 P) (.node (ho0 P) .nil .nil) (.node (ho247 P) .nil .nil))))))) (.node (PySem.W.boot_o_2 P) (.node (PySem.W.boot_o_4 P) (.node (PySem.W.boot_o_8 P) (.node (ho7 P) (.node (ho1 P) (.node (ho55 P) (.node (ho122 P) (.node (ho250 P) .nil .nil) .nil) (.node (ho186 P) .nil .nil)) (.node (ho7 P) (.node (ho154 P) .nil .nil) (.node (ho218 P) .nil .nil))) (.node (ho39 P) (.node (ho71 P) (.node (ho7 P) (.node (ho266 P) .nil .nil) .nil) (.node (ho0 P) .nil .nil)) (.node (ho103 P) (.node (ho170 P) .nil .nil) (.node (ho0 P) .nil .nil)))) (.node (ho112 P) (.node (ho19 P) (.node (ho7 P) (.node (ho130 P) (.node (ho0 P) .nil .nil) .nil) (.node (ho194 P) .nil .nil)) (.node (ho95 P) (.node (ho162 P) .nil .nil) (.node (ho226 P) .nil .nil))) (.node (ho47 P) (.node (ho79 P) (.node (ho146 P) .nil .nil) (.node (ho210 P) .nil .nil)) (.node (ho7 P) (.node (ho178 P) .nil .nil) (.node (ho1 P) .nil .nil))))) (.node (ho111 P) (.node (ho11 P) (.node (ho27 P) (.node (ho59 P) (.node (ho7 P) (.node (ho254 P) .nil .nil) .nil) (.node (ho190 P) .nil .nil)) (.node (ho91 P) (.node (ho158 P) .nil .nil) (.node (ho222 P) .nil .nil))) (.node (ho19 P) (.node (ho7 P) (.node (ho142 P) .nil .nil) (.node (ho0 P) .nil .nil)) (.node (ho107 P) (.node (ho174 P) .nil .nil) (.node (ho238 P) .nil .nil)))) (.node (ho19 P) (.node (ho1 P) (.node (ho67 P) (.node (ho134 P) (.node (ho0 P) .nil .nil) .nil) (.node (ho198 P) .nil .nil)) (.node (ho7 P) (.node (ho166 P) .nil .nil) (.node (ho0 P) .nil .nil))) (.node (ho1 P) (.node (ho83 P) (.node (ho7 P) .nil .nil) (.node (ho1 P) .nil .nil)) (.node (ho118 P) (.node (ho182 P) .nil .nil) (.node (ho246 P) .nil .nil)))))) (.node (PySem.W.boot_o_6 P) (.node (PySem.W.boot_o_10 P) (.node (ho0 P) (.node (ho25 P) (.node (ho57 P) (.node (ho124 P) (.node (ho252 P) .nil .nil) .nil) (.node (ho188 P) .nil .nil)) (.node (ho0 P) (.node (ho0 P) .nil .nil) (.node (ho0 P) .nil .nil))) (.node (ho41 P) (.node (ho73 P) (.node (ho0 P) (.node (ho268 P) .nil .nil) .nil) (.node (ho204 P) .nil .nil)) (.node (ho0 P) (.node (ho1 P) .nil .nil) (.node (ho236 P) .nil .nil)))) (.node (ho17 P) (.node (ho33 P) (.node (ho0 P) (.node (ho0 P) (.node (ho260 P) .nil .nil) .nil) (.node (ho196 P) .nil .nil)) (.node (ho97 P) (.node (ho164 P) .nil .nil) (.node (ho1 P) .nil .nil))) (.node (ho49 P) (.node (ho0 P) (.node (ho148 P) .nil .nil) (.node (ho212 P) .nil .nil)) (.node (ho0 P) (.node (ho19 P) .nil .nil) (.node (ho0 P) .nil .nil))))) (.node (ho3 P) (.node (ho0 P) (.node (ho29 P) (.node (ho61 P) (.node (ho0 P) (.node (ho1 P) .nil .nil) .nil) (.node (ho0 P) .nil .nil)) (.node (ho0 P) (.node (ho160 P) .nil .nil) (.node (ho224 P) .nil .nil))) (.node (ho45 P) (.node (ho0 P) (.node (ho0 P) .nil .nil) (.node (ho208 P) .nil .nil)) (.node (ho109 P) (.node (ho176 P) .nil .nil) (.node (ho240 P) .nil .nil)))) (.node (ho21 P) (.node (ho37 P) (.node (ho0 P) (.node (ho136 P) (.node (ho264 P) .nil .nil) .nil) (.node (ho1 P) .nil .nil)) (.node (ho0 P) (.node (ho19 P) .nil .nil) (.node (ho232 P) .nil .nil))) (.node (ho0 P) (.node (ho85 P) (.node (ho0 P) .nil .nil) (.node (ho0 P) .nil .nil)) (.node (ho0 P) (.node (ho1 P) .nil .nil) (.node (ho0 P) .nil .nil))))))))
theorem grp1 (w : World) (os : OsState) : PySem.W.segRunT treeTable PySem.Challenge.pw_stow_k36_a_row w 11 (some (.ref 6)) 1 1702 (PySem.W.SharedT.mk (treeG9 w.params) 119 ⟨[], [], [], 0, [], [], false, #[], [], 0, false, false, false, 0, [2000, 10, 10], false, 0, true, [], [], 0, false⟩ #[] ⟨0, 0, 0, 0⟩ 328 os) (PySem.W.piecesOf sts1 env0 code0 ⟨18, 0, 19, 8⟩ [PySem.W.topFrame ⟨0, 0, 0, 0⟩]) = some (.next, (PySem.W.SharedT.mk (treeG32 w.params) 275 ⟨[], [], [], 0, [], [], false, #[], [], 0, false, false, false, 0, [2000, 10, 10], false, 0, true, [], [], 0, false⟩ #[] ⟨0, 0, 0, 0⟩ 540 os), code0, ⟨90, 0, 93, 49⟩) := by kernel_rfl
noncomputable def treeG53 : Params → PySem.W.BT := fun P => (.node (PySem.W.boot_o_0 P) (.node (PySem.W.boot_o_1 P) (.node (ho269 P) (.node (PySem.W.boot_o_7 P) (.node (ho6 P) (.node (ho0 P) (.node (ho54 P) (.node (ho121 P) (.node (ho1 P) (.node (ho0 P) .nil .nil) .nil) (.node (ho379 P) .nil .nil)) (.node (ho185 P) (.node (ho315 P) .nil .nil) (.node (ho0 P) .nil .nil))) (.node (ho19 P) (.node (ho153 P) (.node (ho283 P) .nil .nil) (.node (ho411 P) .nil .nil)) (.node (ho217 P) (.node (ho347 P) .nil .nil) (.node (ho475 P) .nil .nil)))) (.node (ho0 P) (.node (ho70 P) (.node (ho19 P) (.node (ho0 P) (.node (ho523 P) .nil .nil) .nil) (.node (ho0 P) .nil .nil)) (.node (ho201 P) (.node (ho331 P) .nil .nil) (.node (ho459 P) .nil .nil))) (.node (ho1 P) (.node (ho7 P) (.node (ho0 P) .nil .nil) (.node (ho427 P) .nil .nil)) (.node (ho233 P) (.node (ho1 P) .nil .nil) (.node (ho1 P) .nil .nil))))) (.node (ho14 P) (.node (ho30 P) (.node (ho19 P) (.node (ho1 P) (.node (ho257 P) (.node (ho515 P) .nil .nil) .nil) (.node (ho387 P) .nil .nil)) (.node (ho1 P) (.node (ho0 P) .nil .nil) (.node (ho451 P) .nil .nil))) (.node (ho94 P) (.node (ho161 P) (.node (ho291 P) .nil .nil) (.node (ho419 P) .nil .nil)) (.node (ho225 P) (.node (ho0 P) .nil .nil) (.node (ho0 P) .nil .nil)))) (.node (ho0 P) (.node (ho1 P) (.node (ho145 P) (.node (ho275 P) (.node (ho531 P) .nil .nil) .nil) (.node (ho403 P) .nil .nil)) (.node (ho0 P) (.node (ho339 P) .nil .nil) (.node (ho467 P) .nil .nil))) (.node (ho19 P) (.node (ho177 P) (.node (ho7 P) .nil .nil) (.node (ho0 P) .nil .nil)) (.node (ho0 P) (.node (ho1 P) .nil .nil) (.node (ho499 P) .nil .nil)))))) (.node (ho0 P) (.node (ho1 P) (.node (ho0 P) (.node (ho58 P) (.node (ho19 P) (.node (ho253 P) (.node (ho0 P) .nil .nil) .nil) (.node (ho383 P) .nil .nil)) (.node (ho189 P) (.node (ho319 P) .nil .nil) (.node (ho447 P) .nil .nil))) (.node (ho1 P) (.node (ho1 P) (.node (ho287 P) .nil .nil) (.node (ho415 P) .nil .nil)) (.node (ho1 P) (.node (ho0 P) .nil .nil) (.node (ho0 P) .nil .nil)))) (.node (ho42 P) (.node (ho19 P) (.node (ho1 P) (.node (ho0 P) (.node (ho527 P) .nil .nil) .nil) (.node (ho0 P) .nil .nil)) (.node (ho205 P) (.node (ho1 P) .nil .nil) (.node (ho1 P) .nil .nil))) (.node (ho106 P) (.node (ho173 P) (.node (ho303 P) .nil .nil) (.node (ho0 P) .nil .nil)) (.node (ho0 P) (.node (ho367 P) .nil .nil) (.node (ho495 P) .nil .nil))))) (.node (ho18 P) (.node (ho0 P) (.node (ho1 P) (.node (ho133 P) (.node (ho261 P) (.node (ho1 P) .nil .nil) .nil) (.node (ho391 P) .nil .nil)) (.node (ho197 P) (.node (ho0 P) .nil .nil) (.node (ho0 P) .nil .nil))) (.node (ho19 P) (.node (ho165 P) (.node (ho0 P) .nil .nil) (.node (ho0 P) .nil .nil)) (.node (ho229 P) (.node (ho359 P) .nil .nil) (.node (ho487 P) .nil .nil)))) (.node (ho0 P) (.node (ho82 P) (.node (ho19 P) (.node (ho1 P) .nil .nil) (.node (ho1 P) .nil .nil)) (.node (ho0 P) (.node (ho343 P) .nil .nil) (.node (ho471 P) .nil .nil))) (.node (ho1 P) (.node (ho7 P) (.node (ho311 P) .nil .nil) (.node (ho439 P) .nil .nil)) (.node (ho245 P) (.node (ho375 P) .nil .nil) (.node (ho503 P) .nil .nil))))))) (.node (PySem.W.boot_o_5 P) (.node (PySem.W.boot_o_9 P) (.node (ho8 P) (.node (ho24 P) (.node (ho56 P) (.node (ho123 P) (.node (ho0 P) (.node (ho509 P) .nil .nil) .nil) (.node (ho381 P) .nil .nil)) (.node (ho0 P) (.node (ho317 P) .nil .nil) (.node (ho445 P) .nil .nil))) (.node (ho88 P) (.node (ho155 P) (.node (ho0 P) .nil .nil) (.node (ho413 P) .nil .nil)) (.node (ho219 P) (.node (ho1 P) .nil .nil) (.node (ho1 P) .nil .nil)))) (.node (ho40 P) (.node (ho72 P) (.node (ho139 P) (.node (ho267 P) (.node (ho0 P) .nil .nil) .nil) (.node (ho397 P) .nil .nil)) (.node (ho203 P) (.node (ho333 P) .nil .nil) (.node (ho461 P) .nil .nil))) (.node (ho104 P) (.node (ho0 P) (.node (ho301 P) .nil .nil) (.node (ho1 P) .nil .nil)) (.node (ho1 P) (.node (ho0 P) .nil .nil) (.node (ho0 P) .nil .nil))))) (.node (ho16 P) (.node (ho7 P) (.node (ho64 P) (.node (ho131 P) (.node (ho259 P) (.node (ho517 P) .nil .nil) .nil) (.node (ho389 P) .nil .nil)) (.node (ho0 P) (.node (ho325 P) .nil .nil) (.node (ho453 P) .nil .nil))) (.node (ho96 P) (.node (ho163 P) (.node (ho1 P) .nil .nil) (.node (ho7 P) .nil .nil)) (.node (ho0 P) (.node (ho357 P) .nil .nil) (.node (ho485 P) .nil .nil)))) (.node (ho48 P) (.node (ho80 P) (.node (ho147 P) (.node (ho277 P) .nil .nil) (.node (ho405 P) .nil .nil)) (.node (ho211 P) (.node (ho0 P) .nil .nil) (.node (ho0 P) .nil .nil))) (.node (ho115 P) (.node (ho179 P) (.node (ho0 P) .nil .nil) (.node (ho437 P) .nil .nil)) (.node (ho243 P) (.node (ho0 P) .nil .nil) (.node (ho501 P) .nil .nil)))))) (.node (ho2 P) (.node (ho12 P) (.node (ho28 P) (.node (ho60 P) (.node (ho127 P) (.node (ho0 P) (.node (ho513 P) .nil .nil) .nil) (.node (ho0 P) .nil .nil)) (.node (ho191 P) (.node (ho1 P) .nil .nil) (.node (ho449 P) .nil .nil))) (.node (ho92 P) (.node (ho0 P) (.node (ho289 P) .nil .nil) (.node (ho417 P) .nil .nil)) (.node (ho0 P) (.node (ho353 P) .nil .nil) (.node (ho481 P) .nil .nil)))) (.node (ho7 P) (.node (ho76 P) (.node (ho143 P) (.node (ho273 P) (.node (ho529 P) .nil .nil) .nil) (.node (ho401 P) .nil .nil)) (.node (ho1 P) (.node (ho0 P) .nil .nil) (.node (ho0 P) .nil .nil))) (.node (ho108 P) (.node (ho0 P) (.node (ho305 P) .nil .nil) (.node (ho433 P) .nil .nil)) (.node (ho239 P) (.node (ho369 P) .nil .nil) (.node (ho0 P) .nil .nil))))) (.node (ho7 P) (.node (ho36 P) (.node (ho68 P) (.node (ho135 P) (.node (ho1 P) (.node (ho0 P) .nil .nil) .nil) (.node (ho1 P) .nil .nil)) (.node (ho0 P) (.node (ho329 P) .nil .nil) (.node (ho457 P) .nil .nil))) (.node (ho100 P) (.node (ho167 P) (.node (ho297 P) .nil .nil) (.node (ho425 P) .nil .nil)) (.node (ho231 P) (.node (ho361 P) .nil .nil) (.node (ho489 P) .nil .nil)))) (.node (ho52 P) (.node (ho84 P) (.node (ho151 P) (.node (ho0 P) .nil .nil) (.node (ho0 P) .nil .nil)) (.node (ho215 P) (.node (ho345 P) .nil .nil) (.node (ho473 P) .nil .nil))) (.node (ho119 P) (.node (ho0 P) (.node (ho0 P) .nil .nil) (.node (ho441 P) .nil .nil)) (.node (ho247 P) (.node (ho0 P) .nil .nil) (.node (ho1 P) .nil .nil)))))))) (.node (PySem.W.boot_o_2 P) (.node (PySem.W.boot_o_4 P) (.node (PySem.W.boot_o_8 P) (.node (ho7 P) (.node (ho1 P) (.node (ho55 P) (.node (ho122 P) (.node (ho250 P) (.node (ho508 P) .nil .nil) .nil) (.node (ho0 P) .nil .nil)) (.node (ho186 P) (.node (ho0 P) .nil .nil) (.node (ho1 P) .nil .nil))) (.node (ho7 P) (.node (ho154 P) (.node (ho284 P) .nil .nil) (.node (ho412 P) .nil .nil)) (.node (ho218 P) (.node (ho0 P) .nil .nil) (.node (ho0 P) .nil .nil)))) (.node (ho39 P) (.node (ho71 P) (.node (ho7 P) (.node (ho266 P) (.node (ho524 P) .nil .nil) .nil) (.node (ho396 P) .nil .nil)) (.node (ho0 P) (.node (ho332 P) .nil .nil) (.node (ho460 P) .nil .nil))) (.node (ho103 P) (.node (ho170 P) (.node (ho1 P) .nil .nil) (.node (ho0 P) .nil .nil)) (.node (ho0 P) (.node (ho364 P) .nil .nil) (.node (ho492 P) .nil .nil))))) (.node (ho112 P) (.node (ho19 P) (.node (ho7 P) (.node (ho130 P) (.node (ho0 P) (.node (ho516 P) .nil .nil) .nil) (.node (ho0 P) .nil .nil)) (.node (ho194 P) (.node (ho324 P) .nil .nil) (.node (ho452 P) .nil .nil))) (.node (ho95 P) (.node (ho162 P) (.node (ho0 P) .nil .nil) (.node (ho420 P) .nil .nil)) (.node (ho226 P) (.node (ho1 P) .nil .nil) (.node (ho1 P) .nil .nil)))) (.node (ho47 P) (.node (ho79 P) (.node (ho146 P) (.node (ho276 P) .nil .nil) (.node (ho404 P) .nil .nil)) (.node (ho210 P) (.node (ho340 P) .nil .nil) (.node (ho468 P) .nil .nil))) (.node (ho7 P) (.node (ho178 P) (.node (ho308 P) .nil .nil) (.node (ho1 P) .nil .nil)) (.node (ho1 P) (.node (ho372 P) .nil .nil) (.node (ho0 P) .nil .nil)))))) (.node (ho270 P) (.node (ho11 P) (.node (ho27 P) (.node (ho59 P) (.node (ho7 P) (.node (ho254 P) (.node (ho1 P) .nil .nil) .nil) (.node (ho384 P) .nil .nil)) (.node (ho190 P) (.node (ho0 P) .nil .nil) (.node (ho448 P) .nil .nil))) (.node (ho91 P) (.node (ho158 P) (.node (ho0 P) .nil .nil) (.node (ho416 P) .nil .nil)) (.node (ho222 P) (.node (ho352 P) .nil .nil) (.node (ho480 P) .nil .nil)))) (.node (ho19 P) (.node (ho7 P) (.node (ho142 P) (.node (ho1 P) (.node (ho0 P) .nil .nil) .nil) (.node (ho1 P) .nil .nil)) (.node (ho0 P) (.node (ho336 P) .nil .nil) (.node (ho464 P) .nil .nil))) (.node (ho107 P) (.node (ho174 P) (.node (ho304 P) .nil .nil) (.node (ho432 P) .nil .nil)) (.node (ho238 P) (.node (ho368 P) .nil .nil) (.node (ho496 P) .nil .nil))))) (.node (ho19 P) (.node (ho1 P) (.node (ho67 P) (.node (ho134 P) (.node (ho0 P) (.node (ho520 P) .nil .nil) .nil) (.node (ho0 P) .nil .nil)) (.node (ho198 P) (.node (ho1 P) .nil .nil) (.node (ho1 P) .nil .nil))) (.node (ho7 P) (.node (ho166 P) (.node (ho296 P) .nil .nil) (.node (ho424 P) .nil .nil)) (.node (ho0 P) (.node (ho360 P) .nil .nil) (.node (ho488 P) .nil .nil)))) (.node (ho1 P) (.node (ho83 P) (.node (ho7 P) (.node (ho280 P) .nil .nil) (.node (ho408 P) .nil .nil)) (.node (ho1 P) (.node (ho0 P) .nil .nil) (.node (ho0 P) .nil .nil))) (.node (ho118 P) (.node (ho182 P) (.node (ho312 P) .nil .nil) (.node (ho440 P) .nil .nil)) (.node (ho246 P) (.node (ho376 P) .nil .nil) (.node (ho0 P) .nil .nil))))))) (.node (PySem.W.boot_o_6 P) (.node (PySem.W.boot_o_10 P) (.node (ho0 P) (.node (ho25 P) (.node (ho57 P) (.node (ho124 P) (.node (ho252 P) (.node (ho510 P) .nil .nil) .nil) (.node (ho382 P) .nil .nil)) (.node (ho188 P) (.node (ho318 P) .nil .nil) (.node (ho0 P) .nil .nil))) (.node (ho0 P) (.node (ho0 P) (.node (ho1 P) .nil .nil) (.node (ho414 P) .nil .nil)) (.node (ho0 P) (.node (ho350 P) .nil .nil) (.node (ho478 P) .nil .nil)))) (.node (ho41 P) (.node (ho73 P) (.node (ho0 P) (.node (ho268 P) (.node (ho1 P) .nil .nil) .nil) (.node (ho398 P) .nil .nil)) (.node (ho204 P) (.node (ho0 P) .nil .nil) (.node (ho0 P) .nil .nil))) (.node (ho0 P) (.node (ho1 P) (.node (ho0 P) .nil .nil) (.node (ho430 P) .nil .nil)) (.node (ho236 P) (.node (ho366 P) .nil .nil) (.node (ho494 P) .nil .nil))))) (.node (ho17 P) (.node (ho33 P) (.node (ho0 P) (.node (ho0 P) (.node (ho260 P) (.node (ho0 P) .nil .nil) .nil) (.node (ho390 P) .nil .nil)) (.node (ho196 P) (.node (ho326 P) .nil .nil) (.node (ho454 P) .nil .nil))) (.node (ho97 P) (.node (ho164 P) (.node (ho294 P) .nil .nil) (.node (ho422 P) .nil .nil)) (.node (ho1 P) (.node (ho0 P) .nil .nil) (.node (ho0 P) .nil .nil)))) (.node (ho49 P) (.node (ho0 P) (.node (ho148 P) (.node (ho0 P) .nil .nil) (.node (ho0 P) .nil .nil)) (.node (ho212 P) (.node (ho1 P) .nil .nil) (.node (ho1 P) .nil .nil))) (.node (ho0 P) (.node (ho19 P) (.node (ho310 P) .nil .nil) (.node (ho0 P) .nil .nil)) (.node (ho0 P) (.node (ho374 P) .nil .nil) (.node (ho502 P) .nil .nil)))))) (.node (ho3 P) (.node (ho0 P) (.node (ho29 P) (.node (ho61 P) (.node (ho0 P) (.node (ho1 P) (.node (ho0 P) .nil .nil) .nil) (.node (ho1 P) .nil .nil)) (.node (ho0 P) (.node (ho322 P) .nil .nil) (.node (ho0 P) .nil .nil))) (.node (ho0 P) (.node (ho160 P) (.node (ho290 P) .nil .nil) (.node (ho418 P) .nil .nil)) (.node (ho224 P) (.node (ho354 P) .nil .nil) (.node (ho482 P) .nil .nil)))) (.node (ho45 P) (.node (ho0 P) (.node (ho0 P) (.node (ho0 P) (.node (ho530 P) .nil .nil) .nil) (.node (ho0 P) .nil .nil)) (.node (ho208 P) (.node (ho338 P) .nil .nil) (.node (ho466 P) .nil .nil))) (.node (ho109 P) (.node (ho176 P) (.node (ho0 P) .nil .nil) (.node (ho434 P) .nil .nil)) (.node (ho240 P) (.node (ho0 P) .nil .nil) (.node (ho1 P) .nil .nil))))) (.node (ho21 P) (.node (ho37 P) (.node (ho0 P) (.node (ho136 P) (.node (ho264 P) (.node (ho522 P) .nil .nil) .nil) (.node (ho394 P) .nil .nil)) (.node (ho1 P) (.node (ho0 P) .nil .nil) (.node (ho0 P) .nil .nil))) (.node (ho0 P) (.node (ho19 P) (.node (ho298 P) .nil .nil) (.node (ho426 P) .nil .nil)) (.node (ho232 P) (.node (ho0 P) .nil .nil) (.node (ho0 P) .nil .nil)))) (.node (ho0 P) (.node (ho85 P) (.node (ho0 P) (.node (ho282 P) .nil .nil) (.node (ho410 P) .nil .nil)) (.node (ho0 P) (.node (ho346 P) .nil .nil) (.node (ho474 P) .nil .nil))) (.node (ho0 P) (.node (ho1 P) (.node (ho1 P) .nil .nil) (.node (ho442 P) .nil .nil)) (.node (ho0 P) (.node (ho1 P) .nil .nil) (.node (ho506 P) .nil .nil)))))))))
theorem grp2 (w : World) (os : OsState) : PySem.W.segRunT treeTable PySem.Challenge.pw_stow_k36_a_row w 11 (some (.ref 6)) 1 1529 (PySem.W.SharedT.mk (treeG32 w.params) 275 ⟨[], [], [], 0, [], [], false, #[], [], 0, false, false, false, 0, [2000, 10, 10], false, 0, true, [], [], 0, false⟩ #[] ⟨0, 0, 0, 0⟩ 540 os) (PySem.W.piecesOf sts2 env0 code0 ⟨90, 0, 93, 49⟩ [PySem.W.topFrame ⟨0, 0, 0, 0⟩]) = some (.next, (PySem.W.SharedT.mk (treeG53 w.params) 536 ⟨[], [], [], 0, [], [], false, #[], [], 0, false, false, false, 0, [2000, 10, 10], false, 0, true, [], [], 0, false⟩ #[] ⟨0, 0, 0, 0⟩ 918 os), code0, ⟨306, 0, 318, 15⟩) := by kernel_rfl
theorem fin0 (w : World) (os : OsState) : PySem.W.topRun treeTable PySem.Challenge.pw_stow_k36_a_row w 11 (some (.ref 6)) 2 ⟨PySem.W.absHeap (treeG53 w.params) 536 ⟨[], [], [], 0, [], [], false, #[], [], 0, false, false, false, 0, [2000, 10, 10], false, 0, true, [], [], 0, false⟩, #[], ⟨0, 0, 0, 0⟩, 918, os⟩ (PySem.W.restOf [] env0 code0 ⟨306, 0, 318, 15⟩ [PySem.W.topFrame ⟨0, 0, 0, 0⟩]) = some ⟨PySem.W.absHeap (treeG53 w.params) 536 ⟨[], [], [], 0, [], [], false, #[], [], 0, false, false, false, 0, [2000, 10, 10], false, 0, true, [], [], 0, false⟩, #[], ⟨0, 0, 0, 0⟩, 918, os⟩ := by kernel_rfl
theorem run0 (w : World) (os : OsState) : PySem.W.topRun treeTable PySem.Challenge.pw_stow_k36_a_row w 11 (some (.ref 6)) (12 + (1 + (1719 + (1702 + (1529 + 2))))) ⟨PySem.W.boot_heap w.params, Array.mk [], PySem.W.boot_drawn, PySem.W.boot_toks, os⟩ (PySem.W.topStub PySem.Challenge.pw_stow_k36_a_row) = some ⟨PySem.W.absHeap (treeG53 w.params) 536 ⟨[], [], [], 0, [], [], false, #[], [], 0, false, false, false, 0, [2000, 10, 10], false, 0, true, [], [], 0, false⟩, #[], ⟨0, 0, 0, 0⟩, 918, os⟩ := PySem.W.go_top (pre0 w os) (PySem.W.piece_block (blk0 w os) (PySem.W.piece_app (PySem.W.segRun_of (grp0 w os)) (PySem.W.piece_app (PySem.W.segRun_of (grp1 w os)) (PySem.W.piece_app (PySem.W.segRun_of (grp2 w os)) (fin0 w os)))))
theorem open0 (w : World) : (PySem.W.fencedOpening treeTable PySem.Challenge.pw_stow_k36_a_row w 5665).map (fun s => (s.heap, s.gens, s.drawn, s.toks)) = some (PySem.W.boot_heap w.params, Array.mk [], PySem.W.boot_drawn, PySem.W.boot_toks) := PySem.W.boot_open (by kernel_rfl) rfl (fun s => by kernel_rfl) w
noncomputable def heap0 : Params → PySem.W.Frag := fun P =>
 (nat_lit 2, PySem.W.boot_o_2 P) ::
 (nat_lit 3, ho269 P) ::
 (nat_lit 17, ho8 P) ::
 (nat_lit 23, ho14 P) ::
 (nat_lit 24, ho112 P) ::
 (nat_lit 30, ho21 P) ::
 (nat_lit 36, ho27 P) ::
 (nat_lit 37, ho28 P) ::
 (nat_lit 42, ho33 P) ::
 (nat_lit 48, ho39 P) ::
 (nat_lit 49, ho40 P) ::
 (nat_lit 54, ho45 P) ::
 (nat_lit 64, ho55 P) ::
 (nat_lit 65, ho56 P) ::
 (nat_lit 67, ho58 P) ::
 (nat_lit 68, ho59 P) ::
 (nat_lit 73, ho64 P) ::
 (nat_lit 79, ho70 P) ::
 (nat_lit 80, ho71 P) ::
 (nat_lit 85, ho76 P) ::
 (nat_lit 91, ho82 P) ::
 (nat_lit 92, ho83 P) ::
 (nat_lit 97, ho88 P) ::
 (nat_lit 103, ho94 P) ::
 (nat_lit 104, ho95 P) ::
 (nat_lit 109, ho100 P) ::
 (nat_lit 115, ho106 P) ::
 (nat_lit 116, ho107 P) ::
 (nat_lit 121, ho115 P) ::
 (nat_lit 127, ho121 P) ::
 (nat_lit 128, ho122 P) ::
 (nat_lit 133, ho127 P) ::
 (nat_lit 139, ho133 P) ::
 (nat_lit 140, ho134 P) ::
 (nat_lit 145, ho139 P) ::
 (nat_lit 151, ho145 P) ::
 (nat_lit 152, ho146 P) ::
 (nat_lit 157, ho151 P) ::
 (nat_lit 170, ho164 P) ::
 (nat_lit 171, ho165 P) ::
 (nat_lit 176, ho170 P) ::
 (nat_lit 182, ho176 P) ::
 (nat_lit 183, ho177 P) ::
 (nat_lit 188, ho182 P) ::
 (nat_lit 194, ho188 P) ::
 (nat_lit 195, ho189 P) ::
 (nat_lit 203, ho197 P) ::
 (nat_lit 204, ho198 P) ::
 (nat_lit 210, ho204 P) ::
 (nat_lit 211, ho205 P) ::
 (nat_lit 217, ho211 P) ::
 (nat_lit 218, ho212 P) ::
 (nat_lit 224, ho218 P) ::
 (nat_lit 225, ho219 P) ::
 (nat_lit 231, ho225 P) ::
 (nat_lit 232, ho226 P) ::
 (nat_lit 238, ho232 P) ::
 (nat_lit 239, ho233 P) ::
 (nat_lit 245, ho239 P) ::
 (nat_lit 246, ho240 P) ::
 (nat_lit 252, ho246 P) ::
 (nat_lit 253, ho247 P) ::
 (nat_lit 259, ho253 P) ::
 (nat_lit 260, ho254 P) ::
 (nat_lit 266, ho260 P) ::
 (nat_lit 267, ho261 P) ::
 (nat_lit 273, ho267 P) ::
 (nat_lit 274, ho268 P) ::
 (nat_lit 280, ho276 P) ::
 (nat_lit 281, ho277 P) ::
 (nat_lit 287, ho283 P) ::
 (nat_lit 288, ho284 P) ::
 (nat_lit 294, ho290 P) ::
 (nat_lit 295, ho291 P) ::
 (nat_lit 301, ho297 P) ::
 (nat_lit 302, ho298 P) ::
 (nat_lit 308, ho304 P) ::
 (nat_lit 309, ho305 P) ::
 (nat_lit 312, ho308 P) ::
 (nat_lit 322, ho318 P) ::
 (nat_lit 323, ho319 P) ::
 (nat_lit 329, ho325 P) ::
 (nat_lit 330, ho326 P) ::
 (nat_lit 336, ho332 P) ::
 (nat_lit 337, ho333 P) ::
 (nat_lit 343, ho339 P) ::
 (nat_lit 344, ho340 P) ::
 (nat_lit 350, ho346 P) ::
 (nat_lit 351, ho347 P) ::
 (nat_lit 357, ho353 P) ::
 (nat_lit 358, ho354 P) ::
 (nat_lit 364, ho360 P) ::
 (nat_lit 365, ho361 P) ::
 (nat_lit 371, ho367 P) ::
 (nat_lit 372, ho368 P) ::
 (nat_lit 401, ho397 P) ::
 (nat_lit 402, ho398 P) ::
 (nat_lit 408, ho404 P) ::
 (nat_lit 409, ho405 P) ::
 (nat_lit 418, ho414 P) ::
 (nat_lit 419, ho415 P) ::
 (nat_lit 426, ho422 P) ::
 (nat_lit 431, ho427 P) ::
 (nat_lit 437, ho433 P) ::
 (nat_lit 438, ho434 P) ::
 (nat_lit 444, ho440 P) ::
 (nat_lit 445, ho441 P) ::
 (nat_lit 446, ho442 P) ::
 (nat_lit 452, ho448 P) ::
 (nat_lit 453, ho449 P) ::
 (nat_lit 455, ho451 P) ::
 (nat_lit 456, ho452 P) ::
 (nat_lit 464, ho460 P) ::
 (nat_lit 465, ho461 P) ::
 (nat_lit 471, ho467 P) ::
 (nat_lit 472, ho468 P) ::
 (nat_lit 478, ho474 P) ::
 (nat_lit 479, ho475 P) ::
 (nat_lit 485, ho481 P) ::
 (nat_lit 486, ho482 P) ::
 (nat_lit 492, ho488 P) ::
 (nat_lit 493, ho489 P) ::
 (nat_lit 499, ho495 P) ::
 (nat_lit 500, ho496 P) ::
 (nat_lit 506, ho502 P) ::
 (nat_lit 507, ho503 P) ::
 (nat_lit 513, ho509 P) ::
 (nat_lit 514, ho510 P) ::
 (nat_lit 520, ho516 P) ::
 (nat_lit 521, ho517 P) ::
 (nat_lit 527, ho523 P) ::
 (nat_lit 528, ho524 P) ::
 (nat_lit 534, ho530 P) ::
 (nat_lit 535, ho531 P) ::
 []
def at0 : List Addr := 2 :: 3 :: 17 :: 23 :: 24 :: 30 :: 36 :: 37 :: 42 :: 48 :: 49 :: 54 :: 64 :: 65 :: 67 :: 68 :: 73 :: 79 :: 80 :: 85 :: 91 :: 92 :: 97 :: 103 :: 104 :: 109 :: 115 :: 116 :: 121 :: 127 :: 128 :: 133 :: 139 :: 140 :: 145 :: 151 :: 152 :: 157 :: 170 :: 171 :: 176 :: 182 :: 183 :: 188 :: 194 :: 195 :: 203 :: 204 :: 210 :: 211 :: 217 :: 218 :: 224 :: 225 :: 231 :: 232 :: 238 :: 239 :: 245 :: 246 :: 252 :: 253 :: 259 :: 260 :: 266 :: 267 :: 273 :: 274 :: 280 :: 281 :: 287 :: 288 :: 294 :: 295 :: 301 :: 302 :: 308 :: 309 :: 312 :: 322 :: 323 :: 329 :: 330 :: 336 :: 337 :: 343 :: 344 :: 350 :: 351 :: 357 :: 358 :: 364 :: 365 :: 371 :: 372 :: 401 :: 402 :: 408 :: 409 :: 418 :: 419 :: 426 :: 431 :: 437 :: 438 :: 444 :: 445 :: 446 :: 452 :: 453 :: 455 :: 456 :: 464 :: 465 :: 471 :: 472 :: 478 :: 479 :: 485 :: 486 :: 492 :: 493 :: 499 :: 500 :: 506 :: 507 :: 513 :: 514 :: 520 :: 521 :: 527 :: 528 :: 534 :: 535 :: []
def loose0 : List Str := "StowError" :: "NoName" :: "NoSize" :: "Broken" :: "NoGive" :: "NoHandle" :: "NoPiece" :: "NoCell" :: "NoAsk" :: "NoBound" :: "NoRoom" :: "BadLine" :: "NoLine" :: "NoTurn" :: "MARKS" :: "check_ask" :: "check_plain_ask" :: "mark_of" :: "long_of" :: "live_of" :: "LEAST_LIVE" :: "can_begin" :: "bad_of_piece" :: "looked" :: "fresh_room" :: "laid" :: "laid_free" :: "piece_at" :: "live_at" :: "free_at" :: "cut_out" :: "carried" :: "Keeper" :: "Row" :: "_law_cell_at" :: "_law_whole" :: "_law_alike" :: "_law_walk" :: "_law_number" :: "_law_pieces" :: "_law_ask_told" :: "_law_refused" :: "_law_step" :: "_law_seen" :: []
theorem at0_eq (P : Params) : at0 = (heap0 P).map (·.1) := by kernel_rfl
abbrev seen0 (s : Shared) : Bool := PySem.W.recOk (PySem.W.RowW.records (PySem.W.OpenRow.toRowW (PySem.Challenge.rw_stow_k36_a_row).row)) s
theorem left0 : PySem.W.LeftO PySem.Challenge.pw_stow_k36_a_row (PySem.W.view PySem.Challenge.pw_stow_k36_a_row [52]) loose0 seen0 (fun s => at0.map s.heap.get?) (fun w => (heap0 w.params).map fun p => some p.2) 5665 :=
 PySem.W.LeftO.of_pieces (H₁ := fun P => PySem.W.absHeap (treeG53 P) 536 ⟨[], [], [], 0, [], [], false, #[], [], 0, false, false, false, 0, [2000, 10, 10], false, 0, true, [], [], 0, false⟩) (gs₁ := #[]) (d₁ := ⟨0, 0, 0, 0⟩) (k₁ := 918) (m₀ := 11) (ann := (some (.ref 6))) open0 (fun w => by kernel_rfl) run0 rfl (fun w => funext fun os => by kernel_rfl)
end Stow
set_option Elab.async false
set_option linter.all false
set_option maxRecDepth 100000
namespace L2
open PySem PySem.Spec PyProof.Rows
abbrev Key := Sum Int Str
def keyIs : Key → Value → Bool
 | .inl k, v => Value.isInt k v
 | .inr x, v => Value.isStrOf x v
def keyH (w : World) : Key → Int
 | .inl k => hashInt k
 | .inr x => hashStr w x
theorem keyIs_shape : ∀ {k : Key} {v : Value}, keyIs k v = true → (∃ i t, k = Sum.inl i ∧ v = Value.int i t) ∨ (∃ x t, k = Sum.inr x ∧ v = Value.str x t)
 | .inl i, v, h => by
   obtain ⟨t, e⟩ := Value.isInt_shape (k := i) (v := v) h
   exact .inl ⟨i, t, rfl, e⟩
 | .inr x, v, h => by
   obtain ⟨t, e⟩ := Value.isStrOf_shape (x := x) (v := v) h
   exact .inr ⟨x, t, rfl, e⟩
theorem keyIs_int (i : Int) (t : Tok) : keyIs (.inl i) (.int i t) = true := by simp [keyIs, Value.isInt]
theorem keyIs_str (x : Str) (t : Tok) : keyIs (.inr x) (.str x t) = true := by simp [keyIs, Value.isStrOf]
theorem key_ll (a b : Int) : decide ((Sum.inl a : Key) = Sum.inl b) = (a == b) := by
 by_cases e : a = b
 · subst e; simp
 · have h : ¬ (Sum.inl a : Key) = Sum.inl b := fun q => e (Sum.inl.inj q)
   rw [decide_eq_false h]
   exact (beq_eq_false_iff_ne.mpr e).symm
theorem key_rr (a b : Str) : decide ((Sum.inr a : Key) = Sum.inr b) = decide (a = b) := by
 by_cases e : a = b
 · subst e; simp
 · have h : ¬ (Sum.inr a : Key) = Sum.inr b := fun q => e (Sum.inr.inj q)
   rw [decide_eq_false h, decide_eq_false e]
theorem key_lr (a : Int) (b : Str) : decide ((Sum.inl a : Key) = Sum.inr b) = false := decide_eq_false (fun q => nomatch q)
theorem key_rl (a : Str) (b : Int) : decide ((Sum.inr a : Key) = Sum.inl b) = false := decide_eq_false (fun q => nomatch q)
def mixKind (prog : Program) (w : World) : PySem.KeyKind prog w Key where
 is := keyIs
 hash := keyH w
 inj := fun v a b ha hb => by
   rcases keyIs_shape ha with ⟨i, t, rfl, rfl⟩ | ⟨x, t, rfl, rfl⟩
   · rcases keyIs_shape hb with ⟨j, u, rfl, e⟩ | ⟨y, u, rfl, e⟩
     · injection e with e1 _; rw [e1]
     · exact nomatch e
   · rcases keyIs_shape hb with ⟨j, u, rfl, e⟩ | ⟨y, u, rfl, e⟩
     · exact nomatch e
     · injection e with e1 _; rw [e1]
 byValue := fun k v h => by
   rcases keyIs_shape h with ⟨i, t, rfl, rfl⟩ | ⟨x, t, rfl, rfl⟩ <;> rfl
 pyHash := fun hv h => by
   rcases keyIs_shape hv with ⟨i, t, rfl, rfl⟩ | ⟨x, t, rfl, rfl⟩
   · exact wpAny_pyHash_int h
   · exact wpAny_pyHash_str h
 eqBool := fun hu hv h => by
   rcases keyIs_shape hu with ⟨i, t, rfl, rfl⟩ | ⟨x, t, rfl, rfl⟩
   · rcases keyIs_shape hv with ⟨j, u, rfl, rfl⟩ | ⟨y, u, rfl, rfl⟩
     · rw [key_ll] at h; exact wpAny_eqBool_int h
     · rw [key_lr] at h; exact SeqAt.EqAt.int_str i t y u _ _ _ _ h
   · rcases keyIs_shape hv with ⟨j, u, rfl, rfl⟩ | ⟨y, u, rfl, rfl⟩
     · rw [key_rl] at h; exact SeqAt.EqAt.str_int x t j u _ _ _ _ h
     · rw [key_rr] at h; exact wpAny_eqBool_str h
 «strs» := fun k x t v h => by
   rcases keyIs_shape h with ⟨i, u, rfl, e⟩ | ⟨y, u, rfl, e⟩
   · exact nomatch e
   · injection e with e1 _
     subst e1
     cases v <;> rfl
theorem mixKind_int (prog : Program) (w : World) (i : Int) (t : Tok) : (mixKind prog w).is (.inl i) (.int i t) = true := keyIs_int i t
theorem mixKind_str (prog : Program) (w : World) (x : Str) (t : Tok) : (mixKind prog w).is (.inr x) (.str x t) = true := keyIs_str x t
end L2
namespace L2
open PySem PySem.Spec PyProof.Rows
inductive V where
 | non | bl (b : Bool) | int (i : Int) | str (x : Str) | byt (b : Array UInt8) | flt (b : UInt64) | ref (a : Addr) | ty (n : String)
 deriving DecidableEq
def RelV : V → Value → Prop
 | .non, u => u = Value.none
 | .bl b, u => u = Value.bool b
 | .int i, u => ∃ t, u = Value.int i t
 | .str x, u => ∃ t, u = Value.str x t
 | .byt b, u => ∃ t, u = Value.bytes b t
 | .flt b, u => ∃ t, u = Value.float b t
 | .ref a, u => u = Value.ref a
 | .ty n, u => u = Value.type n
abbrev Vals : List V → List Value → Prop := Paired RelV
theorem Vals.length {xs : List V} {us : List Value} (r : Vals xs us) : xs.length = us.length := Paired.length r
theorem Vals.get : ∀ {xs : List V} {us : List Value} {i : Nat} {x : V}, Vals xs us → xs[i]? = some x → ∃ u, us[i]? = some u ∧ RelV x u
 | _, _, _, _, .nil, e => by simp at e
 | _, _, 0, _, .cons r _, e => by simp at e; subst e; exact ⟨_, rfl, r⟩
 | _, _, i + 1, x, .cons _ t, e => by
   obtain ⟨u, h1, h2⟩ := Vals.get (i := i) (x := x) t (by simpa using e)
   exact ⟨u, by simpa using h1, h2⟩
theorem Vals.set {x : V} {u : Value} (r : RelV x u) : ∀ {xs : List V} {us : List Value} (i : Nat), Vals xs us → Vals (xs.set i x) (us.set i u)
 | _, _, _, .nil => .nil
 | _, _, 0, .cons _ t => .cons r t
 | _, _, i + 1, .cons q t => .cons q (Vals.set r i t)
theorem Vals.append : ∀ {xs ys : List V} {us ws : List Value}, Vals xs us → Vals ys ws → Vals (xs ++ ys) (us ++ ws)
 | _, _, _, _, .nil, s => s
 | _, _, _, _, .cons r t, s => .cons r (Vals.append t s)
theorem Vals.take : ∀ {xs : List V} {us : List Value} (n : Nat), Vals xs us → Vals (xs.take n) (us.take n)
 | _, _, 0, _ => .nil
 | _, _, _ + 1, .nil => .nil
 | _, _, n + 1, .cons r t => .cons r (Vals.take n t)
theorem Vals.drop : ∀ {xs : List V} {us : List Value} (n : Nat), Vals xs us → Vals (xs.drop n) (us.drop n)
 | _, _, 0, r => r
 | _, _, _ + 1, .nil => .nil
 | _, _, n + 1, .cons _ t => Vals.drop n t
theorem Vals.none_of : ∀ {xs : List V} {us : List Value} {i : Nat}, Vals xs us → xs[i]? = none → us[i]? = none := fun {xs us i} r e => by
 have h1 := r.length
 have h2 : xs.length ≤ i := List.getElem?_eq_none_iff.mp e
 exact List.getElem?_eq_none_iff.mpr (by omega)
def RelO : Option V → Option Value → Prop
 | some v, some u => RelV v u
 | none, none => True
 | _, _ => False
def KV {κ : Type} : List (κ × V) → List (κ × Value) → Prop := Paired fun (p : κ × V) (q : κ × Value) => p.1 = q.1 ∧ RelV p.2 q.2
def kV : Key → V
 | .inl i => .int i
 | .inr x => .str x
inductive HO where
 /-- a list -/
 | lst (xs : List V)
 /-- a tuple (never changes) -/
 | tup (xs : List V)
 /-- a dict whose keys are ints and texts; one whose keys are tuples of ints and texts (the empty one is both) -/
 | dK (kvs : List (Key × V)) | dT (kvs : List (List Key × V))
 /-- a set of ints: its members, its size -/
 | set (S : Int → Bool) (n : Nat)
 /-- an instance of the class at C, its dict at dx, its attributes -/
 | ins (C dx : Addr) (fs : List (Str × V))
 /-- the dict of the instance at x -/
 | own (x : Addr)
 /-- the dict of an exception -/
 | xd (fs : List (Str × V))
 /-- a bound method, f of x -/
 | met (f x : Addr)
 /-- a range object lo, lo + 1, .. below hi -/
 | rng (lo hi : Int)
 /-- a thing that is known to the object (the script; a dict while a loop walks it): read, never written while it is so -/
 | frz (o : Obj) (u : HO)
 /-- a code object's table -/
 | tbl (ps : Array Value)
 /-- any other thing, by what is true of its one object (a def of one's own: SetO a S n := HO.ext fun h => ..) -/
 | ext (φ : Heap → Prop)
abbrev Hp := Addr → Option HO
def upd (H : Hp) (a : Addr) (o : HO) : Hp := fun b => if b = a then some o else H b
theorem upd_same {H : Hp} {a : Addr} {o : HO} : upd H a o a = some o := by unfold upd; rw [if_pos rfl]
theorem upd_ne {H : Hp} {a b : Addr} {o : HO} (h : b ≠ a) : upd H a o b = H b := by unfold upd; rw [if_neg h]
theorem ne_of {H : Hp} {a b : Addr} {o u : HO} (h : H a = some o) (h' : H b = some u) (d : o ≠ u) : a ≠ b := by
 intro e; subst e; rw [h] at h'; exact d (Option.some.inj h')
theorem ne_of_none {H : Hp} {a b : Addr} {o : HO} (h : H a = some o) (h' : H b = none) : a ≠ b := by
 intro e; subst e; rw [h] at h'; cases h'
section
variable (P : Program) (w : World)
def ObjOk (H : Hp) (h : Heap) (a : Addr) : HO → Prop
 | .lst xs => xs.length ≤ sizeLine ∧ ∃ (its : List Value) (n : Nat), Vals xs its ∧ h.get? a = some { cls := .type "list", data := .seq its.toArray n }
 | .tup xs => xs.length ≤ sizeLine ∧ ∃ its : List Value, Vals xs its ∧ IsTup h a its.toArray
 | .dK kvs => kvs.length ≤ sizeLine ∧ (a == sysModules) = false ∧ ∃ vs, KV kvs vs ∧ h.DictOf (mixKind P w) a vs
 | .dT kvs => kvs.length ≤ sizeLine ∧ (a == sysModules) = false ∧ ∃ xs : List (List Key × Addr × Value),
     Paired (fun (p : List Key × V) (q : List Key × Addr × Value) => p.1 = q.1 ∧ H q.2.1 = some (.tup (p.1.map kV)) ∧ RelV p.2 q.2.2) kvs xs ∧
     ∃ o es ep, h.get? a = some o ∧ o.ExactDict ∧ o.data = .dict es ep ∧ es.toList = xs.map (entryOfKey (tupleKind (mixKind P w))) ∧ (xs.map (·.1)).Nodup
 | .set S n => h.SetOf (intKind P w) a S n
 | .ins C dx fs => H dx = some (.own a) ∧ fs.length ≤ 1000 ∧ dx ≠ a ∧ h.get? a = some (PySem.W.instObj C dx) ∧
     ∃ mA, h.Ns1 dx mA ∧ (∀ f, RelO (fs.lookup f) (mA f)) ∧ PySem.Within mA (fs.map (·.1))
 | .own _ => ∃ o, h.get? a = some o
 | .xd fs => ∃ mA, h.Ns1 a mA ∧ ∀ f, RelO (fs.lookup f) (mA f)
 | .rng lo hi => ∃ t u v, h.get? a = some { cls := .type "range", data := .fields #[.int lo t, .int hi u, .int 1 v] }
 | .frz o u => h.get? a = some o ∧ ObjOk H h a u
 | .tbl ps => h.get? a = some { cls := .none, data := .fields ps }
 | .met f x => h.get? a = some (PySem.W.methodObj (.ref f) (.ref x))
 | .ext φ => φ h ∧ (∃ o, h.get? a = some o) ∧ ∀ h1 h2 : Heap, φ h1 → (∀ o, h1.get? a = some o → h2.get? a = some o) → φ h2
def HOk (H : Hp) (h : Heap) : Prop := ∀ a o, H a = some o → ObjOk P w H h a o
end
section
variable {P : Program} {w : World} {H H' : Hp} {h h' : Heap} {a : Addr} {o : HO}
theorem ObjOk.lt (x : ObjOk P w H h a o) : a < h.objs.size := by
 cases o with
 | lst xs => obtain ⟨_, _, _, _, e⟩ := x; exact Heap.lt_size e
 | tup xs => obtain ⟨_, _, _, p⟩ := x; exact p.lt
 | dK kvs => obtain ⟨_, _, _, _, o, _, _, e, _⟩ := x; exact Heap.lt_size e
 | dT kvs => obtain ⟨_, _, _, _, o, _, _, e, _⟩ := x; exact Heap.lt_size e
 | set S n => obtain ⟨o, _, _, _, e, _⟩ := x; exact Heap.lt_size e
 | ins C dx fs => obtain ⟨_, _, _, e, _⟩ := x; exact Heap.lt_size e
 | own y => obtain ⟨_, e⟩ := x; exact Heap.lt_size e
 | xd fs => obtain ⟨_, ⟨_, _, _, e, _⟩, _⟩ := x; exact Heap.lt_size e
 | rng lo hi => obtain ⟨_, _, _, e⟩ := x; exact Heap.lt_size e
 | frz ob u => obtain ⟨e, _⟩ := x; exact Heap.lt_size e
 | tbl ps => exact Heap.lt_size (show h.get? a = some _ from x)
 | met f y => exact Heap.lt_size (show h.get? a = some _ from x)
 | ext φ => obtain ⟨_, ⟨_, e⟩, _⟩ := x; exact Heap.lt_size e
theorem Paired.mapP {α β : Type} {F G : α → β → Prop} : ∀ {l₁ : List α} {l₂ : List β}, Paired F l₁ l₂ → (∀ a b, F a b → G a b) → Paired G l₁ l₂
 | _, _, .nil, _ => .nil
 | _, _, .cons r t, f => .cons (f _ _ r) (Paired.mapP t f)
theorem ObjOk.stay (x : ObjOk P w H h a o) (k : ∀ b u, (b = a ∨ H b = some (.own a)) → h.get? b = some u → h'.get? b = some u)
   (ho : ∀ b, H b = some (.own a) → H' b = some (.own a)) (ht : ∀ b xs, H b = some (.tup xs) → H' b = some (.tup xs)) : ObjOk P w H' h' a o := by
 induction o with
 | lst xs => obtain ⟨z, its, n, r, e⟩ := x; exact ⟨z, its, n, r, k _ _ (.inl rfl) e⟩
 | tup xs => obtain ⟨z, its, r, ob, e, c⟩ := x; exact ⟨z, its, r, ob, k _ _ (.inl rfl) e, c⟩
 | dK kvs => obtain ⟨z, y, vs, r, ob, es, ep, e, c⟩ := x; exact ⟨z, y, vs, r, ob, es, ep, k _ _ (.inl rfl) e, c⟩
 | dT kvs =>
   obtain ⟨z, y, xs, r, ob, es, ep, e, c⟩ := x
   exact ⟨z, y, xs, Paired.mapP r fun p q z => ⟨z.1, ht _ _ z.2.1, z.2.2⟩, ob, es, ep, k _ _ (.inl rfl) e, c⟩
 | set S n => obtain ⟨ob, es, ep, t, e, c⟩ := x; exact ⟨ob, es, ep, t, k _ _ (.inl rfl) e, c⟩
 | ins C dx fs =>
   obtain ⟨d, z, ne, e, mA, ⟨od, es, ep, e2, c⟩, r⟩ := x
   exact ⟨ho _ d, z, ne, k _ _ (.inl rfl) e, mA, ⟨od, es, ep, k _ _ (.inr d) e2, c⟩, r⟩
 | own y => obtain ⟨ob, e⟩ := x; exact ⟨ob, k _ _ (.inl rfl) e⟩
 | xd fs => obtain ⟨mA, ⟨od, es, ep, e, c⟩, r⟩ := x; exact ⟨mA, ⟨od, es, ep, k _ _ (.inl rfl) e, c⟩, r⟩
 | rng lo hi => obtain ⟨t, u, v, e⟩ := x; exact ⟨t, u, v, k _ _ (.inl rfl) e⟩
 | frz ob u ih => obtain ⟨e, q⟩ := x; exact ⟨k _ _ (.inl rfl) e, ih q⟩
 | tbl ps =>
   have e : h.get? a = some { cls := .none, data := .fields ps } := x
   show h'.get? a = some { cls := .none, data := .fields ps }
   exact k a _ (.inl rfl) e
 | met f y =>
   have e : h.get? a = some (PySem.W.methodObj (.ref f) (.ref y)) := x
   show h'.get? a = some (PySem.W.methodObj (.ref f) (.ref y))
   exact k a _ (.inl rfl) e
 | ext φ => obtain ⟨p, ⟨o, e⟩, st⟩ := x; exact ⟨st _ _ p fun o q => k _ _ (.inl rfl) q, ⟨o, k _ _ (.inl rfl) e⟩, st⟩
theorem HOk.lt (x : HOk P w H h) (e : H a = some o) : a < h.objs.size := (x a o e).lt
theorem HOk.fresh (x : HOk P w H h) (e : h.objs.size ≤ a) : H a = none := by
 cases q : H a with
 | none => rfl
 | some u => exact absurd (Nat.lt_of_lt_of_le (x.lt q) e) (Nat.lt_irrefl _)
theorem HOk.kept (x : HOk P w H h) (k : ∀ b u, h.get? b = some u → h'.get? b = some u) : HOk P w H h' := fun a o e =>
 (x a o e).stay (fun b u _ q => k b u q) (fun _ q => q) fun _ _ q => q
theorem HOk.laid (x : HOk P w H h) (k : ∀ b u, h.get? b = some u → h'.get? b = some u) (hp : h.objs.size ≤ a) (new : ObjOk P w (upd H a o) h' a o) : HOk P w (upd H a o) h' := fun b u e => by
 have hn := x.fresh hp
 by_cases hb : b = a
 · subst hb; rw [upd_same] at e; cases e; exact new
 · rw [upd_ne hb] at e
   exact (x b u e).stay (fun c v _ q => k c v q) (fun c q => by rw [upd_ne (ne_of_none q hn)]; exact q) fun c xs q => by rw [upd_ne (ne_of_none q hn)]; exact q
end
def Rd (H : Hp) (a : Addr) (u : HO) : Prop := H a = some u ∨ ∃ o, H a = some (.frz o u)
theorem Rd.of {H : Hp} {a : Addr} {u : HO} (h : H a = some u) : Rd H a u := .inl h
theorem Rd.ok {P : Program} {w : World} {H : Hp} {h : Heap} {a : Addr} {u : HO} (r : Rd H a u) (x : HOk P w H h) : ObjOk P w H h a u := by
 rcases r with r | ⟨o, r⟩
 · exact x a u r
 · obtain ⟨_, q⟩ := x a _ r
   exact q
def Mut : Option HO → Prop
 | some (.lst _) => True
 | some (.dK _) => True
 | some (.dT _) => True
 | some (.set _ _) => True
 | some (.ins _ _ _) => True
 | some (.ext _) => True
 | _ => False
section
variable {P : Program} {w : World} {H : Hp} {h h' : Heap} {x e : Addr} {o' : HO}
theorem HOk.write (ok : HOk P w H h) (mu : Mut (H x)) (he : e = x ∨ H e = some (.own x)) (k : ∀ b u, b ≠ e → h.get? b = some u → h'.get? b = some u) (heo : ∃ u, h'.get? e = some u)
   (new : ObjOk P w (upd H x o') h' x o') : HOk P w (upd H x o') h' := fun b u q => by
 have nown : ∀ c y, H c = some (.own y) → c ≠ x := fun c y r z => by subst z; rw [r] at mu; exact mu
 have ntup : ∀ c xs, H c = some (.tup xs) → c ≠ x := fun c xs r z => by subst z; rw [r] at mu; exact mu
 by_cases hb : b = x
 · subst hb; rw [upd_same] at q; cases q; exact new
 · rw [upd_ne hb] at q
   by_cases hbe : b = e
   · have q' : H b = some (.own x) := by
       rcases he with z | z
       · exact absurd (hbe.trans z) hb
       · rw [hbe]; exact z
     rw [q] at q'; cases q'
     obtain ⟨v, hv⟩ := heo
     exact ⟨v, by rw [hbe]; exact hv⟩
   · refine (ok b u q).stay (fun c v hc r => k c v ?_ r) (fun c r => by rw [upd_ne (nown c b r)]; exact r) fun c xs r => by rw [upd_ne (ntup c xs r)]; exact r
     rcases hc with rfl | hc
     · exact hbe
     · rintro rfl
       rcases he with z | z
       · exact nown c b hc z
       · rw [hc] at z; cases z; exact hb rfl
end
structure Un (fs ex : List Addr) (H H' : Hp) (h h' : Heap) : Prop where
 keep : ∀ b o, h.get? b = some o → H b = none → b ∉ fs → b ∉ ex → h'.get? b = some o
 slot : ∀ b o, h.get? b = some o → H b = none → b ∈ fs → b ∉ ex → ∃ sl, h'.get? b = some { o with slots := sl }
 free : ∀ b o, h.get? b = some o → H b = none → b ∉ ex → H' b = none
 there : ∀ b o, h.get? b = some o → b ∉ ex → ∃ o', h'.get? b = some o'
 tups : ∀ b xs, H b = some (.tup xs) → H' b = some (.tup xs)
 frzs : ∀ b o u, H b = some (.frz o u) → H' b = some (.frz o u)
 tbls : ∀ b ps, H b = some (.tbl ps) → ∃ more, H' b = some (.tbl (ps ++ more))
section
variable {fs fs' ex ex' : List Addr} {H H1 H2 : Hp} {h h1 h2 h' : Heap} {a x e : Addr} {o : HO}
theorem Un.any (u : Un fs ex H H1 h h1) {b : Addr} {ob : Obj} (q : h.get? b = some ob) (n : H b = none) (hx : b ∉ ex) : ∃ sl, h1.get? b = some { ob with slots := sl } := by
 by_cases hb : b ∈ fs
 · exact u.slot b ob q n hb hx
 · exact ⟨ob.slots, u.keep b ob q n hb hx⟩
theorem Un.trans (a : Un fs ex H H1 h h1) (b : Un fs ex H1 H2 h1 h2) : Un fs ex H H2 h h2 where
 keep := fun c ob q n hc hx => b.keep c ob (a.keep c ob q n hc hx) (a.free c ob q n hx) hc hx
 slot := fun c ob q n hc hx => by
   obtain ⟨sl, e1⟩ := a.slot c ob q n hc hx
   obtain ⟨sl', e2⟩ := b.slot c _ e1 (a.free c ob q n hx) hc hx
   exact ⟨sl', e2⟩
 free := fun c ob q n hx => by
   obtain ⟨o', e1⟩ := a.there c ob q hx
   exact b.free c o' e1 (a.free c ob q n hx) hx
 there := fun c ob q hx => by
   obtain ⟨o', e1⟩ := a.there c ob q hx
   exact b.there c o' e1 hx
 tups := fun c xs q => b.tups c xs (a.tups c xs q)
 frzs := fun c ob xs q => b.frzs c ob xs (a.frzs c ob xs q)
 tbls := fun c ps q => by
   obtain ⟨m1, e1⟩ := a.tbls c ps q
   obtain ⟨m2, e2⟩ := b.tbls c _ e1
   exact ⟨m1 ++ m2, by rw [e2, Array.append_assoc]⟩
theorem Un.kept (k : ∀ b u, h.get? b = some u → h'.get? b = some u) : Un fs ex H H h h' :=
 ⟨fun b ob q _ _ _ => k b ob q, fun b ob q _ _ _ => ⟨ob.slots, k b ob q⟩, fun _ _ _ n _ => n, fun b ob q _ => ⟨ob, k b ob q⟩, fun _ _ q => q, fun _ _ _ q => q, fun _ ps q => ⟨#[], by rw [q]; simp⟩⟩
theorem Un.refl : Un fs ex H H h h := Un.kept fun _ _ q => q
theorem Un.laid (k : ∀ b u, h.get? b = some u → h'.get? b = some u) (hp : h.objs.size ≤ a) (hn : H a = none) : Un fs ex H (upd H a o) h h' where
 keep := fun b u q _ _ _ => k b u q
 slot := fun b u q _ _ _ => ⟨u.slots, k b u q⟩
 free := fun b u q n _ => by rw [upd_ne (Nat.ne_of_lt (Nat.lt_of_lt_of_le (Heap.lt_size q) hp))]; exact n
 there := fun b u q _ => ⟨u, k b u q⟩
 tups := fun b xs q => by rw [upd_ne (ne_of_none q hn)]; exact q
 frzs := fun b u xs q => by rw [upd_ne (ne_of_none q hn)]; exact q
 tbls := fun b ps q => ⟨#[], by rw [upd_ne (ne_of_none q hn), q]; simp⟩
theorem Un.write (mu : Mut (H x)) (he : e = x ∨ H e = some (.own x)) (k : ∀ b u, b ≠ e → h.get? b = some u → h'.get? b = some u) (heo : ∃ u, h'.get? e = some u) : Un fs ex H (upd H x o) h h' := by
 have hx : ∀ b, H b = none → b ≠ x := fun b n z => by subst z; rw [n] at mu; exact mu
 have hb : ∀ b, H b = none → b ≠ e := fun b n z => by
   subst z
   rcases he with r | r
   · exact hx b n r
   · rw [n] at r; cases r
 have hm : ∀ b u, H b = some u → ¬ Mut (some u) → b ≠ x := fun b u q nm z => by subst z; rw [q] at mu; exact nm mu
 refine ⟨fun b u q n _ _ => k b u (hb b n) q, fun b u q n _ _ => ⟨u.slots, k b u (hb b n) q⟩, fun b u q n _ => by rw [upd_ne (hx b n)]; exact n, fun b u q _ => ?_,
   fun b xs q => by rw [upd_ne (hm b _ q fun z => z)]; exact q, fun b u xs q => by rw [upd_ne (hm b _ q fun z => z)]; exact q, fun b ps q => ⟨#[], by rw [upd_ne (hm b _ q fun z => z), q]; simp⟩⟩
 by_cases hbe : b = e
 · subst hbe; exact heo
 · exact ⟨u, k b u hbe q⟩
theorem Un.mono (u : Un fs ex H H1 h h1) (hs : ∀ b ∈ fs, b ∈ fs') (hx : ∀ b ∈ ex, b ∈ ex') : Un fs' ex' H H1 h h1 :=
 ⟨fun b ob q n hb he => u.keep b ob q n (fun z => hb (hs b z)) fun z => he (hx b z), fun _ _ q n _ he => u.any q n fun z => he (hx _ z), fun b ob q n he => u.free b ob q n fun z => he (hx b z), fun b ob q he => u.there b ob q fun z => he (hx b z), u.tups, u.frzs, u.tbls⟩
end
def trk (h : Heap) (H : Hp) : List Addr := (List.range h.objs.size).filter fun a => (H a).isSome
def hidT (h : Heap) (H : Hp) : Heap := PySem.W.hideAll h (trk h H)
theorem hidT_size (h : Heap) (H : Hp) : (hidT h H).objs.size = h.objs.size := PySem.W.hideAll_size _ _
theorem hidT_get {h : Heap} {H : Hp} {b : Addr} {o : Obj} (e : h.get? b = some o) (n : H b = none) : (hidT h H).get? b = some o :=
 PySem.W.hideAll_get _ e fun hm => by
   have q : (H b).isSome = true := (List.mem_filter.mp hm).2
   rw [n] at q; simp at q
theorem of_hidT {h : Heap} {H : Hp} {b : Addr} {o : Obj} (e : (hidT h H).get? b = some o) : h.get? b = some o ∧ H b = none := by
 have e' : h.get? b = some o := PySem.W.of_hideAll (trk h H) e
 refine ⟨e', ?_⟩
 cases q : H b with
 | none => rfl
 | some x =>
   have hm : b ∈ trk h H := List.mem_filter.mpr ⟨List.mem_range.mpr (Heap.lt_size e'), by simp [q]⟩
   have z : (hidT h H).get? b = none := PySem.W.hideAll_none (trk h H) hm
   rw [z] at e; cases e
def allNews (g h : Heap) (L : Addr) : List (Addr × Obj) := (List.range h.objs.size).filterMap fun a => if a = L ∨ (g.get? a).isSome = true then none else (h.get? a).map fun o => (a, o)
def rest (g h : Heap) (L d : Addr) : List (Addr × Obj) := (allNews g h L).filter fun p => decide (p.1 ≠ d)
end L2
namespace L2
open PySem PySem.Spec PyProof.Rows
structure Mod (K : PySem.W.Frag) (mg : Str → Option Value) (base : Heap) : Prop where
 kin : K.In base
 glob : base.Ns mainGlobals mg
 blt : ∃ mb, base.Ns builtinsNs mb ∧ ∀ x : Str, x ≠ "__name__" → mb x = bootBuiltins x
 nolimit : base.NoLimit
structure Cx where
 prog : Program
 w : World
 K : PySem.W.Frag
 mg : Str → Option Value
 base : Heap
 A : Around
 N : List Str
 s₀ : Shared
 H₀ : Hp
 env : Env
 outer : List Env
 stack : List Env
 ex : List Addr
 fn : Str → Bool
 calm : Bool
 pn : List (Addr × Obj)
 xe : Value → Shared → Prop
def frs (l : List Env) : List Addr := l.filterMap (·.frame)
abbrev Cx.fs (X : Cx) : List Addr := frs X.outer
def Vis (sc : Scope) (x : Str) : Prop := sc.names.lookup x = some .local ∨ sc.names.lookup x = some .cell ∨ sc.names.lookup x = some .free
def Loc (sc : Scope) (x : Str) : Prop := sc.names.lookup x = some .local ∨ sc.names.lookup x = some .cell
def Look (env : Env) (h : Heap) (m : Str → Option Value) (x : Str) (u : Value) : Prop :=
 (env.kindOf x = some .local ∧ m x = some u) ∨ ((env.kindOf x = some .cell ∨ env.kindOf x = some .free) ∧ ∃ c, env.cells.lookup x = some c ∧ h.IsCell c (some u))
structure Cx.Ok (X : Cx) : Prop where
 mod : Mod X.K X.mg X.base
 kind : X.env.scope.kind = .function
 glob : X.env.globals = mainGlobals
 blt : X.env.builtins = builtinsNs
 above : X.s₀.heap.objs.size ≤ X.env.locals
 inj : ∀ x y c, X.env.cells.lookup x = some c → X.env.cells.lookup y = some c → x = y
 has : ∀ x, (X.env.kindOf x = some .cell ∨ X.env.kindOf x = some .free) → ∃ c, X.env.cells.lookup x = some c
 cab : ∀ x c, X.fn x = true → X.env.cells.lookup x = some c → X.s₀.heap.objs.size ≤ c
 hd : X.calm = true → X.A.handled = none
 frames : X.A.frames = some X.stack
 stk : X.stack = X.outer ∨ (X.stack = X.env :: X.outer ∧ X.env.frame = some X.env.locals)
 exf : ∀ b ∈ X.ex, b ≠ X.env.locals ∧ ∀ x c, X.env.cells.lookup x = some c → c ≠ b
 bs : ∀ b o, X.base.get? b = some o → X.s₀.heap.get? b = some o ∧ X.H₀ b = none
 bsz : X.base.objs.size ≤ X.s₀.heap.objs.size
 noex : ∀ b o, X.base.get? b = some o → b ∉ X.ex
 exfs : ∀ b ∈ X.ex, b ∉ X.fs
 funs : X.s₀.heap.FunFrames X.base X.outer
 frf : ∀ b ∈ X.fs, X.H₀ b = none
structure Inv (X : Cx) (pins : List (Addr × Obj)) (σ : List (Option V)) (H : Hp) (s : Shared) : Prop where
 ok : X.Ok
 os : s.os = X.s₀.os
 bare : AllBare s.gens
 base : Un X.fs X.ex X.H₀ H X.s₀.heap s.heap
 loc : ∃ m, s.heap.Ns X.env.locals m ∧ ∀ (i : Nat) (x : Str) (v : V), X.N[i]? = some x → σ[i]? = some (some v) → Vis X.env.scope x → ∃ u, RelV v u ∧ Look X.env s.heap m x u
 cell : ∀ x c, X.env.cells.lookup x = some c → ∃ v, s.heap.IsCell c v
 free : H X.env.locals = none
 freeC : ∀ x c, X.env.cells.lookup x = some c → H c = none
 pin : ∀ p ∈ X.pn ++ pins, s.heap.get? p.1 = some p.2 ∧ H p.1 = none ∧ p.1 ≠ X.env.locals ∧ p.1 ∉ X.fs ∧ ∀ v, p.2.data ≠ .cell v
 hok : HOk X.prog X.w H s.heap
 len : σ.length = X.N.length
section
variable {X : Cx} {pins : List (Addr × Obj)} {σ : List (Option V)} {H H' : Hp} {s : Shared} {h' : Heap}
theorem Cx.Ok.nofr (ok : X.Ok) {b : Addr} {o : Obj} (e : X.base.get? b = some o) : b ∉ X.fs := fun hb => by
 have := (ok.funs.mem hb).1
 rw [e] at this; cases this
theorem Inv.bs (I : Inv X pins σ H s) : ∀ b o, X.base.get? b = some o → s.heap.get? b = some o ∧ H b = none := fun b o e =>
 ⟨I.base.keep b o (I.ok.bs b o e).1 (I.ok.bs b o e).2 (I.ok.nofr e) (I.ok.noex b o e), I.base.free b o (I.ok.bs b o e).1 (I.ok.bs b o e).2 (I.ok.noex b o e)⟩
theorem Inv.bk (I : Inv X pins σ H s) : ∀ b o, X.base.get? b = some o → s.heap.get? b = some o := fun b o e => (I.bs b o e).1
theorem Inv.mod (I : Inv X pins σ H s) : Mod X.K X.mg X.base := I.ok.mod
theorem Inv.kIn (I : Inv X pins σ H s) : X.K.In s.heap := I.ok.mod.kin.keeps I.bk
theorem Inv.nolimit (I : Inv X pins σ H s) : s.heap.NoLimit := I.ok.mod.nolimit.keeps I.bk
theorem Inv.fr (I : Inv X pins σ H s) : ∃ m, Fr X.base X.env.locals s.heap m :=
 let ⟨m, hn, _⟩ := I.loc
 ⟨m, hn, I.bk, Nat.le_trans I.ok.bsz I.ok.above⟩
theorem Inv.lt (I : Inv X pins σ H s) : X.env.locals < s.heap.objs.size := let ⟨_, hn, _⟩ := I.loc; hn.lt
theorem Inv.sz (I : Inv X pins σ H s) : X.s₀.heap.objs.size ≤ s.heap.objs.size := Nat.le_trans I.ok.above (Nat.le_of_lt I.lt)
theorem Inv.nofs (I : Inv X pins σ H s) {a : Addr} (h : s.heap.objs.size ≤ a) : a ∉ X.fs := fun hb => by
 obtain ⟨_, o, ho, _⟩ := I.ok.funs.mem hb
 exact absurd (Nat.lt_of_lt_of_le (Heap.lt_size ho) (Nat.le_trans I.sz h)) (Nat.lt_irrefl _)
theorem Inv.cne (I : Inv X pins σ H s) : ∀ x c, X.env.cells.lookup x = some c → c ≠ X.env.locals := fun x c e z => by
 obtain ⟨v, o, ho, hd⟩ := I.cell x c e
 obtain ⟨m, ⟨o', es, ep, ho', hd', _⟩, _⟩ := I.loc
 rw [z, ho'] at ho; cases ho; rw [hd'] at hd; cases hd
theorem Inv.funs (I : Inv X pins σ H s) : s.heap.FunFrames X.base X.outer := by
 have all : ∀ (l : List Env), (∀ b ∈ frs l, b ∈ X.fs) → X.s₀.heap.FunFrames X.base l → s.heap.FunFrames X.base l := by
   intro l
   induction l with
   | nil => intro _ _; trivial
   | cons env r ih =>
     intro hs hl
     obtain ⟨hk, ⟨L, o, hf, hn, ho, hd⟩, hr⟩ := hl
     have hL : L ∈ X.fs := hs L (by unfold frs; rw [List.filterMap_cons, hf]; exact List.mem_cons_self)
     obtain ⟨sl, e⟩ := I.base.slot L o ho (I.ok.frf L hL) hL fun z => I.ok.exfs L z hL
     exact ⟨hk, ⟨L, _, hf, hn, e, hd⟩, ih (fun b hb => hs b (by unfold frs; rw [List.filterMap_cons, hf]; exact List.mem_cons_of_mem _ hb)) hr⟩
 exact all X.outer (fun _ hb => hb) I.ok.funs
theorem Inv.stack (I : Inv X pins σ H s) : s.heap.FunFrames X.base X.stack := by
 rcases I.ok.stk with e | ⟨e, hf⟩
 · rw [e]; exact I.funs
 · rw [e]
   obtain ⟨m, hn, _⟩ := I.loc
   refine .cons (by rw [I.ok.kind]; decide) hf hn ?_ I.funs
   exact Heap.get?_none_of_le (Nat.le_trans I.ok.bsz I.ok.above)
theorem Inv.stkSub (I : Inv X pins σ H s) : ∀ b ∈ frs X.stack, b ∈ X.env.locals :: X.fs := fun b hb => by
 rcases I.ok.stk with e | ⟨e, hf⟩
 · rw [e] at hb; exact List.mem_cons_of_mem _ hb
 · rw [e] at hb
   unfold frs at hb
   rw [List.filterMap_cons, hf] at hb
   exact hb
theorem Inv.stkFree (I : Inv X pins σ H s) : ∀ b ∈ frs X.stack, H b = none := fun b hb => by
 rcases List.mem_cons.mp (I.stkSub b hb) with e | hb
 · rw [e]; exact I.free
 · obtain ⟨_, o, ho, _⟩ := I.ok.funs.mem hb
   exact I.base.free b o ho (I.ok.frf b hb) fun z => I.ok.exfs b z hb
theorem Inv.step {g' : Array GenState} {t' : Nat} {d' : Drawn} {ch : List Addr} (I : Inv X pins σ H s)
   (hch : ∀ b ∈ ch, (b ∈ X.ex ∨ X.s₀.heap.objs.size ≤ b) ∧ b ≠ X.env.locals ∧ (∀ x c, X.env.cells.lookup x = some c → c ≠ b) ∧ ∀ p ∈ X.pn ++ pins, p.1 ≠ b)
   (keep : ∀ b o, b ≠ X.env.locals → b ∉ X.fs → b ∉ ch → s.heap.get? b = some o → H b = none → h'.get? b = some o)
   (slot : ∀ b o, b ≠ X.env.locals → b ∈ X.fs → b ∉ ch → s.heap.get? b = some o → H b = none → ∃ sl, h'.get? b = some { o with slots := sl }) (free : ∀ b o, b ∉ ch → s.heap.get? b = some o → H b = none → H' b = none)
   (there : ∀ b o, b ∉ ch → s.heap.get? b = some o → ∃ o', h'.get? b = some o')
   (tups : ∀ b xs, H b = some (.tup xs) → H' b = some (.tup xs)) (frzs : ∀ b o u, H b = some (.frz o u) → H' b = some (.frz o u)) (tbls : ∀ b ps, H b = some (.tbl ps) → ∃ more, H' b = some (.tbl (ps ++ more)))
   (ns : ∀ m, s.heap.Ns X.env.locals m → h'.Ns X.env.locals m) (hok : HOk X.prog X.w H' h') (hg : AllBare g') :
   Inv X pins σ H' { s with heap := h', gens := g', drawn := d', toks := t' } := by
 have neL : ∀ b o, X.s₀.heap.get? b = some o → b ≠ X.env.locals := fun b o e => Nat.ne_of_lt (Nat.lt_of_lt_of_le (Heap.lt_size e) I.ok.above)
 have neC : ∀ b o, X.s₀.heap.get? b = some o → b ∉ X.ex → b ∉ ch := fun b o e hx hb => by
   rcases (hch b hb).1 with z | z
   · exact hx z
   · exact absurd (Nat.lt_of_lt_of_le (Heap.lt_size e) z) (Nat.lt_irrefl _)
 have cellK : ∀ x c, X.env.cells.lookup x = some c → ∀ v, s.heap.IsCell c v → h'.IsCell c v := fun x c e v ⟨o, ho, hd⟩ => by
   have nch : c ∉ ch := fun z => (hch c z).2.2.1 x c e rfl
   by_cases hc : c ∈ X.fs
   · obtain ⟨sl, q⟩ := slot c o (I.cne x c e) hc nch ho (I.freeC x c e)
     exact ⟨_, q, hd⟩
   · exact ⟨o, keep c o (I.cne x c e) hc nch ho (I.freeC x c e), hd⟩
 refine ⟨I.ok, I.os, hg, ⟨fun b o e n hb hx => ?_, fun b o e n hb hx => ?_, fun b o e n hx => ?_, fun b o e hx => ?_, fun b xs e => tups b xs (I.base.tups b xs e), fun b o xs e => frzs b o xs (I.base.frzs b o xs e), fun b ps e => ?_⟩, ?_, fun x c e => ?_, ?_, fun x c e => ?_, fun p hp => ?_, hok, I.len⟩
 · exact keep b o (neL b o e) hb (neC b o e hx) (I.base.keep b o e n hb hx) (I.base.free b o e n hx)
 · obtain ⟨sl, e1⟩ := I.base.slot b o e n hb hx
   obtain ⟨sl', e2⟩ := slot b _ (neL b o e) hb (neC b o e hx) e1 (I.base.free b o e n hx)
   exact ⟨sl', e2⟩
 · obtain ⟨o', e1⟩ := I.base.there b o e hx
   exact free b o' (neC b o e hx) e1 (I.base.free b o e n hx)
 · obtain ⟨o', e1⟩ := I.base.there b o e hx
   exact there b o' (neC b o e hx) e1
 · obtain ⟨m1, e1⟩ := I.base.tbls b ps e
   obtain ⟨m2, e2⟩ := tbls b _ e1
   exact ⟨m1 ++ m2, by rw [e2, Array.append_assoc]⟩
 · obtain ⟨m, hn, hl⟩ := I.loc
   refine ⟨m, ns m hn, fun i x v e1 e2 e3 => ?_⟩
   obtain ⟨u, r, l⟩ := hl i x v e1 e2 e3
   refine ⟨u, r, ?_⟩
   rcases l with l | ⟨k, c, e, z⟩
   · exact .inl l
   · exact .inr ⟨k, c, e, cellK x c e _ z⟩
 · obtain ⟨v, z⟩ := I.cell x c e
   exact ⟨v, cellK x c e v z⟩
 · obtain ⟨m, ⟨o, _, _, ho, _⟩, _⟩ := I.loc
   exact free _ o (fun z => (hch _ z).2.1 rfl) ho I.free
 · obtain ⟨v, o, ho, hd⟩ := I.cell x c e
   exact free c o (fun z => (hch c z).2.2.1 x c e rfl) ho (I.freeC x c e)
 · obtain ⟨e, n, ne, nf, d⟩ := I.pin p hp
   have nch : p.1 ∉ ch := fun z => (hch p.1 z).2.2.2 p hp rfl
   exact ⟨keep p.1 p.2 ne nf nch e n, free p.1 p.2 nch e n, ne, nf, d⟩
theorem Inv.un {t' : Nat} (I : Inv X pins σ H s) (u : Un X.fs [] H H' s.heap h') (hok : HOk X.prog X.w H' h') : Inv X pins σ H' { s with heap := h', toks := t' } := by
 obtain ⟨m, ⟨o, es, ep, ho, r⟩, _⟩ := id I.loc
 obtain ⟨sl, hL⟩ := u.any ho I.free (by simp)
 exact I.step (g' := s.gens) (d' := s.drawn) (ch := []) (fun _ z => nomatch z) (fun b o _ hb _ e n => u.keep b o e n hb (by simp)) (fun b o _ hb _ e n => u.slot b o e n hb (by simp)) (fun b o _ e n => u.free b o e n (by simp)) (fun b o _ e => u.there b o e (by simp)) u.tups u.frzs u.tbls (fun m' hm => by
   obtain ⟨o', es', ep', ho', r'⟩ := hm
   rw [ho] at ho'; cases ho'
   exact ⟨_, es', ep', hL, r'⟩) hok I.bare
theorem Inv.call {g' : Array GenState} {t' : Nat} {d' : Drawn} {ch : List Addr} (I : Inv X pins σ H s) (u : Un (frs X.stack) ch H H' s.heap h') (hok : HOk X.prog X.w H' h') (hg : AllBare g')
   (hch : ∀ b ∈ ch, (b ∈ X.ex ∨ X.s₀.heap.objs.size ≤ b) ∧ b ≠ X.env.locals ∧ (∀ x c, X.env.cells.lookup x = some c → c ≠ b) ∧ ∀ p ∈ X.pn ++ pins, p.1 ≠ b) :
   Inv X pins σ H' { s with heap := h', gens := g', drawn := d', toks := t' } := by
 obtain ⟨m, ⟨o, es, ep, ho, r⟩, _⟩ := id I.loc
 obtain ⟨sl, hL⟩ := u.any ho I.free fun z => (hch _ z).2.1 rfl
 exact I.step (ch := ch) hch (fun b o hL hb hc e n => u.keep b o e n (fun z => (List.mem_cons.mp (I.stkSub b z)).elim hL hb) hc) (fun b o _ _ hc e n => u.any e n hc) (fun b o hc e n => u.free b o e n hc) (fun b o hc e => u.there b o e hc) u.tups u.frzs u.tbls (fun m' hm => by
   obtain ⟨o', es', ep', ho', r'⟩ := hm
   rw [ho] at ho'; cases ho'
   exact ⟨_, es', ep', hL, r'⟩) hok hg
theorem Inv.turned {t' : Nat} {it : Addr} (I : Inv X pins σ H s) (k : ∀ b o, b ≠ it → s.heap.get? b = some o → h'.get? b = some o) (hn : H it = none) (hL : it ≠ X.env.locals)
   (h1 : it ∈ X.ex ∨ X.s₀.heap.objs.size ≤ it) (h2 : ∀ x c, X.env.cells.lookup x = some c → c ≠ it) (h3 : ∀ p ∈ X.pn ++ pins, p.1 ≠ it) : Inv X pins σ H { s with heap := h', toks := t' } := by
 have nit : ∀ b u, H b = some u → b ≠ it := fun b u e z => by rw [z, hn] at e; cases e
 refine I.step (g' := s.gens) (d' := s.drawn) (ch := [it]) (fun b hb => ?_) (fun b o _ _ hc e _ => k b o (fun z => hc (by simp [z])) e) (fun b o _ _ hc e _ => ⟨o.slots, k b o (fun z => hc (by simp [z])) e⟩) (fun _ _ _ _ n => n)
   (fun b o hc e => ⟨o, k b o (fun z => hc (by simp [z])) e⟩) (fun _ _ e => e) (fun _ _ _ e => e) (fun b ps e => ⟨#[], by rw [e]; simp⟩) (fun m hm => ?_) (fun b u e => ?_) I.bare
 · have e : b = it := by simpa using hb
   subst e
   exact ⟨h1, hL, h2, h3⟩
 · obtain ⟨o, es, ep, ho, r⟩ := hm
   exact ⟨o, es, ep, k _ o (Ne.symm hL) ho, r⟩
 · refine (I.hok b u e).stay (fun c v hc q => k c v ?_ q) (fun _ q => q) fun _ _ q => q
   rcases hc with z | z
   · rw [z]; exact nit b u e
   · exact nit c _ z
theorem Inv.tok (I : Inv X pins σ H s) (t : Nat) : Inv X pins σ H { s with toks := t } := I.un (h' := s.heap) (t' := t) Un.refl I.hok
theorem Inv.kept {t' : Nat} (I : Inv X pins σ H s) (k : ∀ b u, s.heap.get? b = some u → h'.get? b = some u) : Inv X pins σ H { s with heap := h', toks := t' } := I.un (Un.kept k) (I.hok.kept k)
theorem Inv.laid {a : Addr} {o : HO} {t' : Nat} (I : Inv X pins σ H s) (k : ∀ b u, s.heap.get? b = some u → h'.get? b = some u) (hp : s.heap.objs.size ≤ a) (new : ObjOk X.prog X.w (upd H a o) h' a o) :
   Inv X pins σ (upd H a o) { s with heap := h', toks := t' } := I.un (Un.laid k hp (I.hok.fresh hp)) (I.hok.laid k hp new)
theorem Inv.write {x e : Addr} {o : HO} {t' : Nat} (I : Inv X pins σ H s) (mu : Mut (H x)) (he : e = x ∨ H e = some (.own x)) (k : ∀ b u, b ≠ e → s.heap.get? b = some u → h'.get? b = some u) (heo : ∃ u, h'.get? e = some u)
   (new : ObjOk X.prog X.w (upd H x o) h' x o) : Inv X pins σ (upd H x o) { s with heap := h', toks := t' } := I.un (Un.write mu he k heo) (I.hok.write mu he k heo new)
theorem Inv.pins_of {pins' : List (Addr × Obj)} (I : Inv X pins σ H s) (h : ∀ p ∈ pins', s.heap.get? p.1 = some p.2 ∧ H p.1 = none ∧ p.1 ≠ X.env.locals ∧ p.1 ∉ X.fs ∧ ∀ v, p.2.data ≠ .cell v) : Inv X pins' σ H s :=
 ⟨I.ok, I.os, I.bare, I.base, I.loc, I.cell, I.free, I.freeC, fun p hp => (List.mem_append.mp hp).elim (fun z => I.pin p (List.mem_append_left _ z)) (h p), I.hok, I.len⟩
theorem nodup_ix {N : List Str} (hN : N.Nodup) {i j : Nat} {x : Str} (a : N[i]? = some x) (b : N[j]? = some x) : i = j := by
 obtain ⟨h1, e1⟩ := List.getElem?_eq_some_iff.mp a
 obtain ⟨h2, e2⟩ := List.getElem?_eq_some_iff.mp b
 exact (List.getElem_inj hN).mp (e1.trans e2.symm)
theorem store_ok2 {M : Model} {A : Around} {E : Value → Shared → Prop} {i : Nat} {x : Str} {v : V} {u : Value} {Q : Unit → Shared → Prop} (I : Inv X pins σ H s) (hN : X.N.Nodup) (hi : X.N[i]? = some x) (hx : Loc X.env.scope x) (r : RelV v u)
   (h : ∀ s', Inv X pins (σ.set i (some v)) H s' → (∃ a, Heap.SameBut a s.heap s'.heap ∧ (a = X.env.locals ∨ X.env.cells.lookup x = some a)) → Q () s') (hf : X.fn x = true ∨ X.env.scope.names.lookup x = some .local := by first | exact .inl rfl | exact .inr rfl | assumption) : wpAny M A (storeName X.env x u) Q E s := by
 obtain ⟨m, hn, hl⟩ := id I.loc
 have hcls : (X.env.scope.kind == .class || (X.env.scope.kind == .module && X.env.locals != X.env.globals)) = false := by rw [I.ok.kind]; rfl
 have hiσ : i < σ.length := by rw [I.len]; exact (List.getElem?_eq_some_iff.mp hi).1
 have cne := I.cne
 have tracked : ∀ {a : Addr} {h' : Heap}, (∃ o, s.heap.get? a = some o ∧ H a = none) → Heap.SameBut a s.heap h' → HOk X.prog X.w H h' := fun {a h'} ha hs b ob e => by
   obtain ⟨_, _, hfree⟩ := ha
   refine (I.hok b ob e).stay (fun c w' hc q => (hs.2 c ?_).trans q) (fun _ q => q) fun _ _ q => q
   rintro rfl
   rcases hc with rfl | hc
   · rw [hfree] at e; cases e
   · rw [hfree] at hc; cases hc
 rcases hx with hk | hk
 · refine wpAny_storeName_local hk hn (fun h' hn' hs => ?_) hcls
   obtain ⟨oL, _, _, hoL, _⟩ := id hn
   refine h _ ⟨I.ok, I.os, I.bare, ⟨fun b o e n hb hx => ?_, fun b o e n hb hx => ?_, I.base.free, fun b o e hx => ?_, I.base.tups, I.base.frzs, I.base.tbls⟩, ⟨_, hn', fun j y v' e1 e2 e3 => ?_⟩, fun y c e => ?_, I.free, I.freeC, fun p hp => ?_, tracked ⟨oL, hoL, I.free⟩ hs, by simpa using I.len⟩ ⟨_, hs, .inl rfl⟩
   · exact (hs.2 b (Nat.ne_of_lt (Nat.lt_of_lt_of_le (Heap.lt_size e) I.ok.above))).trans (I.base.keep b o e n hb hx)
   · obtain ⟨sl, e1⟩ := I.base.slot b o e n hb hx
     exact ⟨sl, (hs.2 b (Nat.ne_of_lt (Nat.lt_of_lt_of_le (Heap.lt_size e) I.ok.above))).trans e1⟩
   · obtain ⟨o', e1⟩ := I.base.there b o e hx
     exact ⟨o', (hs.2 b (Nat.ne_of_lt (Nat.lt_of_lt_of_le (Heap.lt_size e) I.ok.above))).trans e1⟩
   · by_cases hj : j = i
     · subst hj
       rw [hi] at e1; cases e1
       rw [List.getElem?_set_self hiσ] at e2
       cases e2
       exact ⟨u, r, .inl ⟨hk, by simp⟩⟩
     · rw [List.getElem?_set_ne (Ne.symm hj)] at e2
       obtain ⟨u', r', q⟩ := hl j y v' e1 e2 e3
       refine ⟨u', r', ?_⟩
       rcases q with ⟨k, e⟩ | ⟨k, c, e, z⟩
       · refine .inl ⟨k, ?_⟩
         have : y ≠ x := fun e => hj (nodup_ix hN e1 (e ▸ hi))
         simp [this, e]
       · exact .inr ⟨k, c, e, z.sameBut hs (cne y c e)⟩
   · obtain ⟨w', z⟩ := I.cell y c e
     exact ⟨w', z.sameBut hs (cne y c e)⟩
   · obtain ⟨e, n, ne, nf, d⟩ := I.pin p hp
     exact ⟨(hs.2 p.1 ne).trans e, n, ne, nf, d⟩
 · have hfn : X.fn x = true := by
     rcases hf with z | z
     · exact z
     · rw [z] at hk; cases hk
   obtain ⟨c, hc⟩ := I.ok.has x (.inl hk)
   obtain ⟨w', z⟩ := I.cell x c hc
   refine wpAny_storeName_cell I.ok.kind hk hc z (fun h' hc' hs => ?_)
   obtain ⟨oc, hoc, hocd⟩ := id z
   refine h { s with heap := h' } ⟨I.ok, I.os, I.bare, ⟨fun b o e n hb hx => ?_, fun b o e n hb hx => ?_, I.base.free, fun b o e hx => ?_, I.base.tups, I.base.frzs, I.base.tbls⟩, ⟨m, hn.sameBut hs (Ne.symm (cne x c hc)), fun j y v' e1 e2 e3 => ?_⟩, fun y c' e => ?_, I.free, I.freeC, fun p hp => ?_, tracked ⟨oc, hoc, I.freeC x c hc⟩ hs, by simpa using I.len⟩ ⟨c, hs, .inr hc⟩
   · exact (hs.2 b (Nat.ne_of_lt (Nat.lt_of_lt_of_le (Heap.lt_size e) (I.ok.cab x c hfn hc)))).trans (I.base.keep b o e n hb hx)
   · obtain ⟨sl, e1⟩ := I.base.slot b o e n hb hx
     exact ⟨sl, (hs.2 b (Nat.ne_of_lt (Nat.lt_of_lt_of_le (Heap.lt_size e) (I.ok.cab x c hfn hc)))).trans e1⟩
   · obtain ⟨o', e1⟩ := I.base.there b o e hx
     exact ⟨o', (hs.2 b (Nat.ne_of_lt (Nat.lt_of_lt_of_le (Heap.lt_size e) (I.ok.cab x c hfn hc)))).trans e1⟩
   · by_cases hj : j = i
     · subst hj
       rw [hi] at e1; cases e1
       rw [List.getElem?_set_self hiσ] at e2
       cases e2
       exact ⟨u, r, .inr ⟨.inl hk, c, hc, hc'⟩⟩
     · rw [List.getElem?_set_ne (Ne.symm hj)] at e2
       obtain ⟨u', r', q⟩ := hl j y v' e1 e2 e3
       refine ⟨u', r', ?_⟩
       rcases q with q | ⟨k, c', e, z'⟩
       · exact .inl q
       · refine .inr ⟨k, c', e, z'.sameBut hs ?_⟩
         rintro rfl
         exact hj (nodup_ix hN e1 (I.ok.inj _ _ _ e hc ▸ hi))
   · by_cases hcc : c' = c
     · subst hcc; exact ⟨_, hc'⟩
     · obtain ⟨w2, z2⟩ := I.cell y c' e
       exact ⟨w2, z2.sameBut hs hcc⟩
   · obtain ⟨e, n, ne, nf, d⟩ := I.pin p hp
     refine ⟨(hs.2 p.1 ?_).trans e, n, ne, nf, d⟩
     intro q
     rw [q, hoc] at e
     have q' : oc = p.2 := Option.some.inj e
     exact d w' (by rw [← q']; exact hocd)
theorem store_ok {M : Model} {A : Around} {E : Value → Shared → Prop} {i : Nat} {x : Str} {v : V} {u : Value} {Q : Unit → Shared → Prop} (I : Inv X pins σ H s) (hN : X.N.Nodup) (hi : X.N[i]? = some x) (hx : Loc X.env.scope x) (r : RelV v u)
   (h : ∀ s', Inv X pins (σ.set i (some v)) H s' → Q () s') (hf : X.fn x = true ∨ X.env.scope.names.lookup x = some .local := by first | exact .inl rfl | exact .inr rfl | assumption) : wpAny M A (storeName X.env x u) Q E s :=
 store_ok2 I hN hi hx r (fun s' I' _ => h s' I') hf
end
abbrev XK := Value → Option Addr → Hp → Prop
abbrev St := List (Option V)
abbrev VK := V → Hp → Prop
abbrev TE := St → Hp → VK → Prop
abbrev TT := St → Hp → (Bool → Hp → Prop) → Prop
abbrev TA := St → Hp → (List V → Hp → Prop) → Prop
structure Ends where
 nx : St → Hp → Prop
 rt : VK
 bk : St → Hp → Prop := fun _ _ => False
 ct : St → Hp → Prop := fun _ _ => False
abbrev TS := Ends → St → Hp → Prop
def EP (X : Cx) (pins : List (Addr × Obj)) (σ : St) (Q : VK) (u : Value) (s' : Shared) : Prop := ∃ v H', Inv X pins σ H' s' ∧ RelV v u ∧ Q v H'
def TP (X : Cx) (pins : List (Addr × Obj)) (σ : St) (Q : Bool → Hp → Prop) (b : Bool) (s' : Shared) : Prop := ∃ H', Inv X pins σ H' s' ∧ Q b H'
def AP (X : Cx) (pins : List (Addr × Obj)) (σ : St) (Q : List V → Hp → Prop) (us : List Value) (s' : Shared) : Prop := ∃ vs H', Inv X pins σ H' s' ∧ Vals vs us ∧ Q vs H'
def SP (X : Cx) (pins : List (Addr × Obj)) (D : Ends) (f : Flow) (s' : Shared) : Prop :=
 match f with
 | .next => ∃ σ' H', Inv X pins σ' H' s' ∧ D.nx σ' H'
 | .brk => ∃ σ' H', Inv X pins σ' H' s' ∧ D.bk σ' H'
 | .cont => ∃ σ' H', Inv X pins σ' H' s' ∧ D.ct σ' H'
 | .ret u => ∃ v σ' H', Inv X pins σ' H' s' ∧ RelV v u ∧ D.rt v H'
def PE (X : Cx) (e : Expr) (t : TE) : Prop :=
 ∀ (pins : List (Addr × Obj)) (s : Shared) (σ : St) (H : Hp) (Q : VK), Inv X pins σ H s → t σ H Q → wpAny (model X.prog X.w) X.A (eval e X.env) (EP X pins σ Q) X.xe s
def PT (X : Cx) (e : Expr) (t : TT) : Prop :=
 ∀ (pins : List (Addr × Obj)) (s : Shared) (σ : St) (H : Hp) (Q : Bool → Hp → Prop), Inv X pins σ H s → t σ H Q → wpAny (model X.prog X.w) X.A (isTrue e X.env (eval e X.env)) (TP X pins σ Q) X.xe s
def PW (X : Cx) (e : Expr) (t : TT) : Prop :=
 ∀ (whole : Sem Value) (pins : List (Addr × Obj)) (s : Shared) (σ : St) (H : Hp) (Q : Bool → Hp → Prop), Inv X pins σ H s → t σ H Q → wpAny (model X.prog X.w) X.A (isTrue e X.env whole) (TP X pins σ Q) X.xe s
theorem PW.pt {X : Cx} {e : Expr} {t : TT} (h : PW X e t) : PT X e t := h _
def PA (X : Cx) (es : List Expr) (t : TA) : Prop :=
 ∀ (pos : Pos) (pins : List (Addr × Obj)) (s : Shared) (σ : St) (H : Hp) (Q : List V → Hp → Prop), Inv X pins σ H s → t σ H Q → wpAny (model X.prog X.w) X.A (spliced (backTo pos (starEach es X.env))) (AP X pins σ Q) X.xe s
def PS (X : Cx) (st : Stmt) (t : TS) : Prop :=
 ∀ (pins : List (Addr × Obj)) (s : Shared) (σ : St) (H : Hp) (D : Ends), Inv X pins σ H s → t D σ H → wpAny (model X.prog X.w) X.A (exec st X.env) (SP X pins D) X.xe s
def PSs (X : Cx) (st : List Stmt) (t : TS) : Prop :=
 ∀ (pins : List (Addr × Obj)) (s : Shared) (σ : St) (H : Hp) (D : Ends), Inv X pins σ H s → t D σ H → wpAny (model X.prog X.w) X.A (execs st X.env) (SP X pins D) X.xe s
theorem thn {α : Type} {t : Sem α} {Q Q' : α → Shared → Prop} {M : Model} {A : Around} {E : Value → Shared → Prop} {s : Shared} (h : wpAny M A t Q E s) (hQ : ∀ a s, Q a s → Q' a s) : wpAny M A t Q' E s := wpAny_mono h hQ fun _ _ x => x
end L2
namespace L2
open PySem PySem.Spec PyProof.Rows
section
variable {X : Cx}
theorem bin {a b : Expr} {ta tb : TE} (ha : PE X a ta) (hb : PE X b tb) {pins : List (Addr × Obj)} {s : Shared} {σ : St} {H : Hp} {R : V → V → Hp → Prop} (I : Inv X pins σ H s) (h : ta σ H fun x H1 => tb σ H1 fun y H2 => R x y H2)
   {α : Type} {Q : α → Shared → Prop} {f : Value → Value → Sem α}
   (hf : ∀ v u s2 x y H2, Inv X pins σ H2 s2 → RelV x v → RelV y u → R x y H2 → wpAny (model X.prog X.w) X.A (f v u) Q X.xe s2) :
   wpAny (model X.prog X.w) X.A (eval a X.env) (fun v s₁ => wpAny (model X.prog X.w) X.A (eval b X.env) (fun u s₂ => wpAny (model X.prog X.w) X.A (f v u) Q X.xe s₂) X.xe s₁) X.xe s := by
 refine thn (ha pins s σ H _ I h) fun v s1 ⟨x, H1, I1, r1, q1⟩ => ?_
 refine thn (hb pins s1 σ H1 _ I1 q1) fun u s2 ⟨y, H2, I2, r2, q2⟩ => ?_
 exact hf v u s2 x y H2 I2 r1 r2 q2
def tVar (i : Nat) : TE := fun σ H Q => ∃ v, σ[i]? = some (some v) ∧ Q v H
def tC (v : V) : TE := fun _ H Q => Q v H
theorem pe_var {i : Nat} {x : Str} {pos : Pos} (hN : X.N[i]? = some x) (hv : Vis X.env.scope x) (hd : (x == ("__debug__" : Str)) = false := by decide) (hcd : (x == ("__classdict__" : Str)) = false := by decide) : PE X (.Name x pos) (tVar i) := by
 intro pins s σ H Q I h
 obtain ⟨v, e, h⟩ := h
 obtain ⟨m, hn, hl⟩ := I.loc
 obtain ⟨u, r, l⟩ := hl i x v hN e hv
 have fin : EP X pins σ Q u s := ⟨v, H, I, r, h⟩
 rcases l with ⟨hk, hm⟩ | ⟨hk, c, hc, hcell⟩
 · exact wpAny_Name (wpAny_loadName_local I.ok.kind hk hn hm fin) hd
 · rcases hk with hk | hk
   · exact wpAny_Name (wpAny_loadName_cell I.ok.kind hk hc hcell fin) hd
   · exact wpAny_Name (wpAny_loadName_free I.ok.kind hk hc hcell fin hcd) hd
theorem pe_int {i j pos} : PE X (.Constant (.int i) j pos) (tC (.int i)) := fun _ _ _ H _ I h => wpAny_Constant_int ⟨.int i, H, I.tok _, ⟨_, rfl⟩, h⟩
theorem pe_bl {b j pos} : PE X (.Constant (.bool b) j pos) (tC (.bl b)) := fun _ _ _ H _ I h => Constant_bool ⟨.bl b, H, I, rfl, h⟩
theorem pe_non {j pos} : PE X (.Constant .none j pos) (tC .non) := fun _ _ _ H _ I h => Constant_none ⟨.non, H, I, rfl, h⟩
theorem pe_str {x j pos} : PE X (.Constant (.str x) j pos) (tC (.str x)) := fun _ _ _ H _ I h => Calls.Constant_str ⟨.str x, H, I.tok _, ⟨_, rfl⟩, h⟩
def Gl (X : Cx) (x : Str) : Prop := X.env.kindOf x = some .globalImplicit
theorem ld_glob {E : Value → Shared → Prop} {pins : List (Addr × Obj)} {s : Shared} {σ : St} {H : Hp} {x : Str} {u : Value} {pos : Pos} {Q : Value → Shared → Prop} (I : Inv X pins σ H s) (hg : Gl X x) (hm : X.mg x = some u) (h : Q u s)
   (hd : (x == ("__debug__" : Str)) = false := by decide) : wpAny (model X.prog X.w) X.A (eval (.Name x pos) X.env) Q E s :=
 Calls.Name_function_global I.ok.kind hg (Calls.loadGlobal_global (by rw [I.ok.glob]; exact I.mod.glob.keeps I.bk) hm h) hd
theorem ld_blt {E : Value → Shared → Prop} {pins : List (Addr × Obj)} {s : Shared} {σ : St} {H : Hp} {x : Str} {u : Value} {pos : Pos} {Q : Value → Shared → Prop} (I : Inv X pins σ H s) (hg : Gl X x) (hm : X.mg x = none) (hv : bootBuiltins x = some u) (h : Q u s)
   (hn : x ≠ "__name__" := by decide) (hd : (x == ("__debug__" : Str)) = false := by decide) : wpAny (model X.prog X.w) X.A (eval (.Name x pos) X.env) Q E s := by
 obtain ⟨mb, h1, h2⟩ := I.mod.blt
 exact Calls.Name_function_global I.ok.kind hg (Calls.loadGlobal_builtin (by rw [I.ok.glob]; exact I.mod.glob.keeps I.bk) hm (by rw [I.ok.blt]; exact h1.keeps I.bk) ((h2 x hn).trans hv) h) hd
theorem pe_glob {x : Str} {v : V} {u : Value} {pos : Pos} (hg : Gl X x) (hm : X.mg x = some u) (r : RelV v u) (hd : (x == ("__debug__" : Str)) = false := by decide) : PE X (.Name x pos) (tC v) :=
 fun _ _ _ H _ I h => ld_glob I hg hm ⟨v, H, I, r, h⟩ hd
theorem pe_bltn {x : Str} {v : V} {u : Value} {pos : Pos} (hg : Gl X x) (hm : X.mg x = none) (hv : bootBuiltins x = some u) (r : RelV v u) (hn : x ≠ "__name__" := by decide) (hd : (x == ("__debug__" : Str)) = false := by decide) : PE X (.Name x pos) (tC v) :=
 fun _ _ _ H _ I h => ld_blt I hg hm hv ⟨v, H, I, r, h⟩ hn hd
variable {a b : Expr} {ta tb : TE} {pos : Pos}
def PC (X : Cx) (op : CmpOp) (a b : Expr) (t : TE) : Prop :=
 ∀ (pins : List (Addr × Obj)) (s : Shared) (σ : St) (H : Hp) (Q : VK), Inv X pins σ H s → t σ H Q →
   wpAny (model X.prog X.w) X.A (eval a X.env) (fun v s₁ => wpAny (model X.prog X.w) X.A (eval b X.env) (fun u s₂ => wpAny (model X.prog X.w) X.A (compareOp op v u) (EP X pins σ Q) X.xe s₂) X.xe s₁) X.xe s
theorem nobehind (b : Expr) {op : CmpOp} (h : op ≠ .In) (h2 : op ≠ .NotIn) : behindInMarks op b = false := by
 have e1 : (op == CmpOp.In) = false := by cases op <;> first | rfl | exact absurd rfl h
 have e2 : (op == CmpOp.NotIn) = false := by cases op <;> first | rfl | exact absurd rfl h2
 cases b <;> simp [behindInMarks, e1, e2]
def tB (t : TE) : TT := fun σ H Q => t σ H fun x H1 => ∃ c, x = .bl c ∧ Q c H1
theorem pt_cmp {op : CmpOp} {t : TE} (h : PC X op a b t) (h1 : behindInMarks op b = false := by first | exact nobehind _ (by decide) (by decide) | rfl) : PT X (.Compare a [op] [b] pos) (tB t) := by
 intro pins s σ H Q I hw
 refine wpAny_isTrue_Compare1 (thn (h pins s σ H _ I hw) fun v s1 h1 => thn h1 fun u s2 h2 => thn h2 fun c s3 ⟨x, H1, I1, r1, q1⟩ => ?_) h1
 obtain ⟨d, rfl, q⟩ := q1
 cases r1
 exact wpAny_truthy_bool ⟨H1, I1, q⟩
theorem pt_val {e : Expr} {t : TE} (h : PE X e t) (he : ∀ whole, isTrue e X.env whole = (do let v ← whole; standAt e.pos; holding [v] (truthy v)) := by intro _; rfl) : PT X e (tB t) := by
 intro pins s σ H Q I hw
 refine isTrue_plain (thn (h pins s σ H _ I hw) fun v s1 ⟨x, H1, I1, r1, q1⟩ => ?_) (he _)
 obtain ⟨d, rfl, q⟩ := q1
 cases r1
 exact wpAny_truthy_bool ⟨H1, I1, q⟩
variable {tA tB' : TT} {rest : List Expr}
def tAnd (t u : TT) : TT := fun σ H Q => t σ H fun c H1 => if c = true then u σ H1 Q else Q false H1
def tOr (t u : TT) : TT := fun σ H Q => t σ H fun c H1 => if c = true then Q true H1 else u σ H1 Q
def tNot (t : TT) : TT := fun σ H Q => t σ H fun c H1 => Q (!c) H1
theorem pw_and1 (ha : PT X a tA) : PW X (.BoolOp .And [a] pos) tA := by
 intro wh pins s σ H Q I h
 refine isTrue_and (thn (ha pins s σ H Q I h) fun c s1 e => ?_)
 cases c with
 | true => exact isTrue_and_nil e
 | false => exact e
theorem pw_or1 (ha : PT X a tA) : PW X (.BoolOp .Or [a] pos) tA := by
 intro wh pins s σ H Q I h
 refine isTrue_or (thn (ha pins s σ H Q I h) fun c s1 e => ?_)
 cases c with
 | false => exact isTrue_or_nil e
 | true => exact e
theorem pw_and (ha : PT X a tA) (hb : PW X (.BoolOp .And (b :: rest) pos) tB') : PW X (.BoolOp .And (a :: b :: rest) pos) (tAnd tA tB') := by
 intro wh pins s σ H Q I h
 refine isTrue_and (thn (ha pins s σ H _ I h) fun c s1 ⟨H1, I1, q1⟩ => ?_)
 cases c with
 | true => exact hb wh pins s1 σ H1 Q I1 q1
 | false => exact ⟨H1, I1, q1⟩
theorem pw_or (ha : PT X a tA) (hb : PW X (.BoolOp .Or (b :: rest) pos) tB') : PW X (.BoolOp .Or (a :: b :: rest) pos) (tOr tA tB') := by
 intro wh pins s σ H Q I h
 refine isTrue_or (thn (ha pins s σ H _ I h) fun c s1 ⟨H1, I1, q1⟩ => ?_)
 cases c with
 | true => exact ⟨H1, I1, q1⟩
 | false => exact hb wh pins s1 σ H1 Q I1 q1
theorem pt_not (ha : PT X a tA) : PT X (.UnaryOp .Not a pos) (tNot tA) := by
 intro pins s σ H Q I h
 exact isTrue_not (ha pins s σ H (fun c H1 => Q (!c) H1) I h)
def tAndV (ta tb : TE) : TE := fun σ H Q => ta σ H fun x H1 => ∃ c, x = .bl c ∧ if c = true then tb σ H1 Q else Q (.bl false) H1
def tOrV (ta tb : TE) : TE := fun σ H Q => ta σ H fun x H1 => ∃ c, x = .bl c ∧ if c = true then Q (.bl true) H1 else tb σ H1 Q
def tNotV (ta : TE) : TE := fun σ H Q => ta σ H fun x H1 => ∃ c, x = .bl c ∧ Q (.bl (!c)) H1
theorem pe_one {op} {t : TE} (h : PE X a t) : PE X (.BoolOp op [a] pos) t := fun pins s σ H Q I hw => BoolOp_one (h pins s σ H Q I hw)
theorem pe_and (ha : PE X a ta) (hb : PE X (.BoolOp .And (b :: rest) pos) tb) : PE X (.BoolOp .And (a :: b :: rest) pos) (tAndV ta tb) := by
 intro pins s σ H Q I h
 refine BoolOp_and (thn (ha pins s σ H _ I h) fun v s1 ⟨x, H1, I1, r1, q1⟩ => ?_)
 obtain ⟨c, rfl, q1⟩ := q1
 cases r1
 refine wpAny_truthy_bool ?_
 cases c with
 | true => exact hb pins s1 σ H1 Q I1 q1
 | false => exact ⟨.bl false, H1, I1, rfl, q1⟩
theorem pe_or (ha : PE X a ta) (hb : PE X (.BoolOp .Or (b :: rest) pos) tb) : PE X (.BoolOp .Or (a :: b :: rest) pos) (tOrV ta tb) := by
 intro pins s σ H Q I h
 refine BoolOp_or (thn (ha pins s σ H _ I h) fun v s1 ⟨x, H1, I1, r1, q1⟩ => ?_)
 obtain ⟨c, rfl, q1⟩ := q1
 cases r1
 refine wpAny_truthy_bool ?_
 cases c with
 | false => exact hb pins s1 σ H1 Q I1 q1
 | true => exact ⟨.bl true, H1, I1, rfl, q1⟩
theorem pe_not (ha : PE X a ta) : PE X (.UnaryOp .Not a pos) (tNotV ta) := by
 intro pins s σ H Q I h
 refine UnaryOp_ (thn (ha pins s σ H _ I h) fun v s1 ⟨x, H1, I1, r1, q1⟩ => ?_)
 obtain ⟨c, rfl, q1⟩ := q1
 cases r1
 exact not_of (wpAny_truthy_bool ⟨.bl (!c), H1, I1, rfl, q1⟩)
end
end L2
namespace L2
open PySem PySem.Spec PyProof.Rows
def SqL (K : PySem.W.Frag) (H : Hp) (a : Addr) (xs : List V) : Prop :=
 Rd H a (.lst xs) ∨
   ∃ (o : Obj) (its : Array Value) (n : Nat), K.lookup a = some o ∧ o.cls = .type "list" ∧ o.dict = none ∧ o.data = .seq its n ∧ its.size ≤ sizeLine ∧ Vals xs its.toList
def SqT (K : PySem.W.Frag) (H : Hp) (a : Addr) (xs : List V) : Prop :=
 Rd H a (.tup xs) ∨
   ∃ (o : Obj) (its : Array Value) (n : Nat), K.lookup a = some o ∧ o.cls = .type "tuple" ∧ o.data = .seq its n ∧ its.size ≤ sizeLine ∧ Vals xs its.toList
def absV : Value → Option V
 | .none => some .non
 | .bool b => some (.bl b)
 | .int i _ => some (.int i)
 | .str x _ => some (.str x)
 | .bytes b _ => some (.byt b)
 | .float b _ => some (.flt b)
 | .ref a => some (.ref a)
 | .type n => some (.ty n)
 | _ => none
theorem RelV.abs {x : V} {u : Value} (r : RelV x u) : absV u = some x := by
 cases x with
 | non => cases r; rfl
 | bl _ => cases r; rfl
 | int _ => obtain ⟨t, rfl⟩ := r; rfl
 | str _ => obtain ⟨t, rfl⟩ := r; rfl
 | byt _ => obtain ⟨t, rfl⟩ := r; rfl
 | flt _ => obtain ⟨t, rfl⟩ := r; rfl
 | ref _ => cases r; rfl
 | ty _ => cases r; rfl
theorem RelV.inj {x y : V} {u : Value} (r : RelV x u) (q : RelV y u) : x = y := Option.some.inj (r.abs.symm.trans q.abs)
theorem Vals.inj : ∀ {xs ys : List V} {us : List Value}, Vals xs us → Vals ys us → xs = ys
 | _, _, _, .nil, .nil => rfl
 | _, _, _, .cons r t, .cons r' t' => by rw [r.inj r', Vals.inj t t']
section
variable {X : Cx} {pins : List (Addr × Obj)} {σ : St} {H : Hp} {s : Shared} {a : Addr} {xs ys : List V}
theorem SqL.of {K : PySem.W.Frag} (h : H a = some (.lst xs)) : SqL K H a xs := .inl (.inl h)
theorem SqT.of {K : PySem.W.Frag} (h : H a = some (.tup xs)) : SqT K H a xs := .inl (.inl h)
theorem Inv.list (I : Inv X pins σ H s) (h : SqL X.K H a xs) : ∃ its : List Value, Vals xs its ∧ PlainL s.heap a its.toArray ∧ xs.length ≤ sizeLine := by
 rcases h with h | ⟨o, its, n, hk, hc, hd, hs, hz, r⟩
 · obtain ⟨z, its, n, r, e⟩ := h.ok I.hok
   exact ⟨its, r, ⟨_, n, e, rfl, rfl, rfl⟩, z⟩
 · refine ⟨its.toList, r, ⟨o, n, I.kIn a o hk, hc, hd, by simpa using hs⟩, ?_⟩
   have e := r.length
   simp only [Array.length_toList] at e
   omega
theorem Inv.tuple (I : Inv X pins σ H s) (h : SqT X.K H a xs) : ∃ its : List Value, Vals xs its ∧ IsTup s.heap a its.toArray ∧ xs.length ≤ sizeLine := by
 rcases h with h | ⟨o, its, n, hk, hc, hs, hz, r⟩
 · obtain ⟨z, its, r, p⟩ := h.ok I.hok
   exact ⟨its, r, p, z⟩
 · refine ⟨its.toList, r, ⟨o, I.kIn a o hk, hc, n, by simpa using hs⟩, ?_⟩
   have e := r.length
   simp only [Array.length_toList] at e
   omega
theorem Inv.list_inj (I : Inv X pins σ H s) (h : SqL X.K H a xs) (h' : SqL X.K H a ys) : xs = ys := by
 obtain ⟨its, r, ⟨o, n, e, _, _, d⟩, _⟩ := I.list h
 obtain ⟨its', r', ⟨o', n', e', _, _, d'⟩, _⟩ := I.list h'
 rw [e] at e'; cases e'
 rw [d] at d'
 injection d' with d1 _
 have : its = its' := by simpa using congrArg Array.toList d1
 subst this
 exact r.inj r'
end
abbrev Cx.wish (X : Cx) (E : Value → Shared → Prop) : Cx := { X with xe := E }
abbrev Cx.nox (X : Cx) : Cx := X.wish fun _ _ => False
theorem Cx.Ok.wish {X : Cx} (ok : X.Ok) (E : Value → Shared → Prop) : (X.wish E).Ok :=
 ⟨ok.mod, ok.kind, ok.glob, ok.blt, ok.above, ok.inj, ok.has, ok.cab, ok.hd, ok.frames, ok.stk, ok.exf, ok.bs, ok.bsz, ok.noex, ok.exfs, ok.funs, ok.frf⟩
theorem Cx.Ok.unwish {X : Cx} {E : Value → Shared → Prop} (ok : (X.wish E).Ok) : X.Ok :=
 ⟨ok.mod, ok.kind, ok.glob, ok.blt, ok.above, ok.inj, ok.has, ok.cab, ok.hd, ok.frames, ok.stk, ok.exf, ok.bs, ok.bsz, ok.noex, ok.exfs, ok.funs, ok.frf⟩
section
variable {X : Cx} {pins : List (Addr × Obj)} {σ : St} {H : Hp} {s : Shared} {E : Value → Shared → Prop}
theorem Inv.wish (I : Inv X pins σ H s) (E : Value → Shared → Prop) : Inv (X.wish E) pins σ H s := ⟨I.ok.wish E, I.os, I.bare, I.base, I.loc, I.cell, I.free, I.freeC, I.pin, I.hok, I.len⟩
theorem Inv.unwish (I : Inv (X.wish E) pins σ H s) : Inv X pins σ H s := ⟨I.ok.unwish, I.os, I.bare, I.base, I.loc, I.cell, I.free, I.freeC, I.pin, I.hok, I.len⟩
theorem SP.unwish {D : Ends} {f : Flow} {s' : Shared} (h : SP (X.wish E) pins D f s') : SP X pins D f s' := by
 cases f with
 | next => obtain ⟨σ', H', I, q⟩ := h; exact ⟨σ', H', I.unwish, q⟩
 | brk => obtain ⟨σ', H', I, q⟩ := h; exact ⟨σ', H', I.unwish, q⟩
 | cont => obtain ⟨σ', H', I, q⟩ := h; exact ⟨σ', H', I.unwish, q⟩
 | ret u => obtain ⟨v, σ', H', I, r, q⟩ := h; exact ⟨v, σ', H', I.unwish, r, q⟩
theorem PE.nox {e : Expr} {t : TE} (h : PE X.nox e t) : PE X e t := fun pins s σ H Q I hw =>
 wpAny_mono (h pins s σ H Q (I.wish _) hw) (fun _ _ ⟨v, H', I', r, q⟩ => ⟨v, H', I'.unwish, r, q⟩) fun _ _ z => False.elim z
theorem PT.nox {e : Expr} {t : TT} (h : PT X.nox e t) : PT X e t := fun pins s σ H Q I hw =>
 wpAny_mono (h pins s σ H Q (I.wish _) hw) (fun _ _ ⟨H', I', q⟩ => ⟨H', I'.unwish, q⟩) fun _ _ z => False.elim z
theorem PSs.nox {st : List Stmt} {t : TS} (h : PSs X.nox st t) : PSs X st t := fun pins s σ H D I hw =>
 wpAny_mono (h pins s σ H D (I.wish _) hw) (fun _ _ q => q.unwish) fun _ _ z => False.elim z
end
section
variable {X : Cx} {st : Stmt} {rest : List Stmt} {t u : TS} {e : Expr} {te : TE} {pos : Pos}
def tNext : TS := fun D σ H => D.nx σ H
def tSeq (t u : TS) : TS := fun D σ H => t { D with nx := u D } σ H
theorem pss_nil : PSs X [] tNext := fun _ _ σ H _ I h => wpAny_execs_nil ⟨σ, H, I, h⟩
theorem pss_cons (h1 : PS X st t) (h2 : PSs X rest u) : PSs X (st :: rest) (tSeq t u) := by
 intro pins s σ H D I h
 refine wpAny_execs_cons (thn (h1 pins s σ H { D with nx := u D } I h) fun f s1 q => ?_)
 cases f with
 | next =>
   obtain ⟨σ', H', I', q⟩ := q
   exact h2 pins s1 σ' H' D I' q
 | ret v => exact q
 | brk => exact q
 | cont => exact q
theorem pss_one (h1 : PS X st t) : PSs X [st] t := by
 intro pins s σ H D I h
 refine wpAny_execs_cons (thn (h1 pins s σ H D I h) fun f s1 q => ?_)
 cases f with
 | next => exact wpAny_execs_nil q
 | ret v => exact q
 | brk => exact q
 | cont => exact q
theorem Inv.quiet {pins : List (Addr × Obj)} {σ : St} {H : Hp} {s : Shared} (I : Inv X pins σ H s) : interactive X.env = false := by simp [interactive, I.ok.kind]
def tDrop (te : TE) : TS := fun D σ H => te σ H fun _ H1 => D.nx σ H1
theorem ps_expr (he : PE X e te) (hs : swapsWith e none pos.line X.env = pure false := by rfl) : PS X (.Expr e pos) (tDrop te) := by
 intro pins s σ H D I h
 exact wpAny_Expr_any (thn (he pins s σ H _ I h) fun v s1 ⟨x, H1, I1, r1, q1⟩ => ⟨σ, H1, I1, q1⟩) I.quiet hs
def tRet (te : TE) : TS := fun D σ H => te σ H D.rt
theorem ps_ret (he : PE X e te) : PS X (.Return (some e) pos) (tRet te) := by
 intro pins s σ H D I h
 exact wpAny_Return_some (thn (he pins s σ H _ I h) fun v s1 ⟨x, H1, I1, r1, q1⟩ => ⟨x, σ, H1, I1, r1, q1⟩)
def tIfS (c : TT) (t u : TS) : TS := fun D σ H => c σ H fun b H1 => if b = true then t D σ H1 else u D σ H1
theorem ps_if {c : Expr} {a b : List Stmt} {tc : TT} (hc : PT X c tc) (ha : PSs X a t) (hb : PSs X b u) : PS X (.If c a b pos) (tIfS tc t u) := by
 intro pins s σ H D I h
 refine wpAny_If (thn (hc pins s σ H _ I h) fun d s1 ⟨H1, I1, q1⟩ => ?_)
 cases d with
 | true => exact ha pins s1 σ H1 D I1 q1
 | false => exact hb pins s1 σ H1 D I1 q1
def tNever : TS := fun _ _ _ => False
theorem ps_never : PS X st tNever := fun _ _ _ _ _ _ h => h.elim
end
abbrev TG := V → St → Hp → (St → Hp → Prop) → Prop
abbrev TGs := List V → St → Hp → (St → Hp → Prop) → Prop
def PG (X : Cx) (target : Expr) (t : TG) : Prop :=
 ∀ (pins : List (Addr × Obj)) (s : Shared) (σ : St) (H : Hp) (v : V) (u : Value) (Q : St → Hp → Prop), Inv X pins σ H s → RelV v u → t v σ H Q →
   wpAny (model X.prog X.w) X.A (assign target X.env u) (fun _ s' => ∃ σ' H', Inv X pins σ' H' s' ∧ Q σ' H') X.xe s
def PGs (X : Cx) (ts : List Expr) (t : TGs) : Prop :=
 ∀ (pins : List (Addr × Obj)) (s : Shared) (σ : St) (H : Hp) (vs : List V) (us : List Value) (Q : St → Hp → Prop), Inv X pins σ H s → Vals vs us → t vs σ H Q →
   wpAny (model X.prog X.w) X.A (assignInOrder ((assignEach ts X.env).map (·.2)) us) (fun _ s' => ∃ σ' H', Inv X pins σ' H' s' ∧ Q σ' H') X.xe s
abbrev TSet := V → V → V → Hp → (Hp → Prop) → Prop
def PSet (X : Cx) (t : TSet) : Prop :=
 ∀ (pins : List (Addr × Obj)) (s : Shared) (σ : St) (H : Hp) (o i v : V) (ov iv u : Value) (Q : Hp → Prop), Inv X pins σ H s → RelV o ov → RelV i iv → RelV v u → t o i v H Q →
   wpAny (model X.prog X.w) X.A (setItem ov iv u) (fun _ s' => ∃ H', Inv X pins σ H' s' ∧ Q H') X.xe s
section
variable {X : Cx} {pos : Pos}
def gName (i : Nat) : TG := fun v σ H Q => Q (σ.set i (some v)) H
theorem pg_name {i : Nat} {x : Str} (hN : X.N.Nodup) (hi : X.N[i]? = some x) (hx : Loc X.env.scope x) (hf : X.fn x = true ∨ X.env.scope.names.lookup x = some .local := by first | exact .inl rfl | exact .inr rfl | assumption) : PG X (.Name x pos) (gName i) := by
 intro pins s σ H v u Q I r h
 exact wpAny_assign_Name (store_ok I hN hi hx r (fun s' I' => ⟨_, H, I', h⟩) hf)
def gNil : TGs := fun vs σ H Q => vs = [] ∧ Q σ H
def gCons (t : TG) (u : TGs) : TGs := fun vs σ H Q => ∃ v r, vs = v :: r ∧ t v σ H fun σ' H' => u r σ' H' Q
theorem pgs_nil : PGs X [] gNil := by
 intro pins s σ H vs us Q I r h
 obtain ⟨e, h⟩ := h
 subst e
 cases r
 exact assignInOrder_nil ⟨σ, H, I, h⟩
theorem pgs_cons {e : Expr} {es : List Expr} {t : TG} {u : TGs} (h1 : PG X e t) (h2 : PGs X es u)
   (hs : (assignEach (e :: es) X.env).map (·.2) = assign e X.env :: (assignEach es X.env).map (·.2) := by rfl) : PGs X (e :: es) (gCons t u) := by
 intro pins s σ H vs us Q I r h
 obtain ⟨v, vr, e1, h⟩ := h
 subst e1
 cases r with
 | cons r rr =>
   rw [hs]
   refine assignInOrder_cons (thn (h1 pins s σ H _ _ _ I r h) fun _ s1 ⟨σ1, H1, I1, q1⟩ => ?_)
   exact h2 pins s1 σ1 H1 _ _ Q I1 rr q1
def gTup (K : PySem.W.Frag) (n : Nat) (t : TGs) : TG := fun v σ H Q => ∃ a xs, v = .ref a ∧ SqT K H a xs ∧ xs.length = n ∧ t xs σ H Q
theorem pg_tup {es : List Expr} {k : Nat} {t : TGs} {n : Nat} (hc : X.calm = true) (h : PGs X es t)
   (hn : (assignEach es X.env).length = n := by rfl) (hst : (assignEach es X.env).findIdx? (·.1) = none := by rfl) : PG X (.Tuple es k pos) (gTup X.K n t) := by
 intro pins s σ H v u Q I r hw
 obtain ⟨a, xs, e1, hq, hl, hw⟩ := hw
 subst e1
 cases r
 obtain ⟨its, rv, ht, hz⟩ := I.tuple hq
 refine assign_Tuple_tuple (I.ok.hd hc) ht (by simp [hn, ← hl, rv.length]) hst fun h' hx => ?_
 have I1 : Inv X pins σ H { s with heap := h' } := I.kept (t' := s.toks) fun b o e => hx b o (Nat.ne_of_lt (Heap.lt_size e)) e
 exact h pins _ σ H xs _ Q I1 (by simpa using rv) hw
def gSub (to ti : TE) (t : TSet) : TG := fun v σ H Q => to σ H fun o H1 => ti σ H1 fun i H2 => t o i v H2 fun H3 => Q σ H3
theorem pg_sub {o i : Expr} {to ti : TE} {t : TSet} (ho : PE X o to) (hi : PE X i ti) (hs : PSet X t)
   (ha : ∀ v, assign (.Subscript o i pos) X.env v = (do
     let ov ← holding [v] (eval o X.env)
     let iv ← holding [v, ov] (eval i X.env)
     standAt pos
     holding [v, ov, iv] (setItem ov iv v)
     release [v, ov, iv] []) := by intro _; rfl) : PG X (.Subscript o i pos) (gSub to ti t) := by
 intro pins s σ H v u Q I r h
 rw [ha]
 refine wpAny_bind (wpAny_holding (thn (ho pins s σ H _ I h) fun ov s1 ⟨x, H1, I1, r1, q1⟩ => ?_))
 refine wpAny_bind (wpAny_holding (thn (hi pins s1 σ H1 _ I1 q1) fun iv s2 ⟨y, H2, I2, r2, q2⟩ => ?_))
 refine wpAny_bind (wpAny_standAt (wpAny_bind (wpAny_holding (thn (hs pins s2 σ H2 x y v ov iv u _ I2 r1 r2 r q2) fun _ s3 ⟨H3, I3, q3⟩ => ?_))))
 exact wpAny_release ⟨σ, H3, I3, q3⟩
def tAsg (te : TE) (g : TG) : TS := fun D σ H => te σ H fun x H1 => g x σ H1 D.nx
theorem ps_asg {tg e : Expr} {te : TE} {g : TG} (he : PE X e te) (hg : PG X tg g) (hs : swapsWithSole [tg] e pos.line X.env = pure false := by rfl) (hw : swappedStores [tg] e X.env = pure none := by rfl)
   (h1 : (assignEach [tg] X.env).map (·.2) = [assign tg X.env] := by rfl) : PS X (.Assign [tg] e pos) (tAsg te g) := by
 intro pins s σ H D I h
 refine wpAny_Assign_stores (thn (he pins s σ H _ I h) fun v s1 ⟨x, H1, I1, r1, q1⟩ => ?_) hs hw
 rw [h1]
 exact thn (hg pins s1 σ H1 x v _ I1 r1 q1) fun _ s2 q => q
theorem ps_set {i : Nat} {x : Str} {e : Expr} {te : TE} {pos' : Pos} (hN : X.N.Nodup) (hi : X.N[i]? = some x) (hx : Loc X.env.scope x) (he : PE X e te) (hs : swapsWith e (some (.Name x pos')) pos.line X.env = pure false := by rfl) (hf : X.fn x = true ∨ X.env.scope.names.lookup x = some .local := by first | exact .inl rfl | exact .inr rfl | assumption) :
   PS X (.Assign [.Name x pos'] e pos) (tAsg te (gName i)) := by
 intro pins s σ H D I h
 refine wpAny_Assign_Name (thn (he pins s σ H _ I h) fun v s1 ⟨y, H1, I1, r1, q1⟩ => ?_) hs
 exact store_ok I1 hN hi hx r1 (fun s2 I2 => ⟨_, H1, I2, q1⟩) hf
end
section
variable {X : Cx} {pos : Pos}
def tWhile (c : TT) (tb : TS) : TS := fun D σ H => ∃ W : Nat → St → Hp → Prop, (∃ m, W m σ H) ∧ ∀ m σ H, W m σ H →
 c σ H fun b H1 => if b = true then ∃ N : St → Hp → Prop, (∀ σ' H', N σ' H' → ∃ m', m' < m ∧ W m' σ' H') ∧ tb { D with nx := N, ct := N, bk := D.nx } σ H1 else D.nx σ H1
theorem ps_while {c : Expr} {body : List Stmt} {tc : TT} {tb : TS} (hp : PassesOwn (model X.prog X.w) X.A X.env X.xe) (hc : PT X c tc) (hb : PSs X body tb) : PS X (.While c body [] pos) (tWhile tc tb) := by
 intro pins s σ H D I h
 obtain ⟨W, ⟨m0, w0⟩, turn⟩ := h
 refine wpAny_While (codeAny_whileLoop (fun n s' => ∃ σ' H', Inv X pins σ' H' s' ∧ W n σ' H') ?_ m0 ⟨σ, H, I, w0⟩)
 rintro n s1 ⟨σ1, H1, I1, w1⟩
 refine wpAny_passesOwn hp (thn (hc pins s1 σ1 H1 _ I1 (turn n σ1 H1 w1)) fun b s2 ⟨H2, I2, q2⟩ => ?_)
 cases b with
 | true =>
   obtain ⟨N, hN, q2⟩ := q2
   rw [if_pos rfl]
   refine wpAny_passesOwn hp (thn (hb pins s2 σ1 H2 _ I2 q2) fun f s3 q3 => ?_)
   cases f with
   | next =>
     obtain ⟨σ3, H3, I3, n3⟩ := q3
     obtain ⟨m', hm, w3⟩ := hN σ3 H3 n3
     exact ⟨m', hm, σ3, H3, I3, w3⟩
   | cont =>
     obtain ⟨σ3, H3, I3, n3⟩ := q3
     obtain ⟨m', hm, w3⟩ := hN σ3 H3 n3
     exact ⟨m', hm, σ3, H3, I3, w3⟩
   | brk => exact q3
   | ret v => exact q3
 | false =>
   rw [if_neg Bool.false_ne_true]
   exact wpAny_execs_nil ⟨σ1, H2, I2, q2⟩
end
structure It where
 go : Nat → Hp → Prop
 yld : Nat → Hp → V → Hp → Prop
 stop : Nat → Hp → Prop
def FpOk (X : Cx) (pins : List (Addr × Obj)) (H : Hp) (b : Addr) : Prop :=
 H b = none ∧ b ≠ X.env.locals ∧ b ∉ X.fs ∧ (b ∈ X.ex ∨ X.s₀.heap.objs.size ≤ b) ∧ (∀ x c, X.env.cells.lookup x = some c → c ≠ b) ∧ ∀ p ∈ X.pn ++ pins, p.1 ≠ b
theorem Inv.fpOk {X : Cx} {pins : List (Addr × Obj)} {σ : St} {H H' : Hp} {s : Shared} {b : Addr} (I : Inv X pins σ H s) (hb : s.heap.objs.size ≤ b) (hn : H' b = none) : FpOk X pins H' b := by
 refine ⟨hn, Nat.ne_of_gt (Nat.lt_of_lt_of_le I.lt hb), I.nofs hb, .inr (Nat.le_trans I.sz hb), fun x c e z => ?_, fun p hp z => ?_⟩
 · obtain ⟨v, q⟩ := I.cell x c e
   exact absurd (Nat.lt_of_lt_of_le q.lt (by rw [z]; exact hb)) (Nat.lt_irrefl _)
 · exact absurd (Nat.lt_of_lt_of_le (Heap.lt_size (I.pin p hp).1) (by rw [z]; exact hb)) (Nat.lt_irrefl _)
structure Turn (P : Program) (w : World) (K : PySem.W.Frag) (tg : Expr) (J : It) (fp : List Addr) (it : Addr) (tn : Nat → Heap → Prop) : Prop where
 mem : it ∈ fp
 obj : ∀ i h, tn i h → ∀ b ∈ fp, ∃ o, h.get? b = some o ∧ ∀ v, o.data ≠ .cell v
 keep : ∀ i h h', tn i h → (∀ b ∈ fp, ∀ o, h.get? b = some o → h'.get? b = some o) → tn i h'
 item : ∀ (X : Cx), X.prog = P → X.w = w → X.K = K → X.calm = true → ∀ (i : Nat) (pins : List (Addr × Obj)) (s : Shared) (σ : St) (H : Hp) (E : Value → Shared → Prop), Inv X pins σ H s → (∀ b ∈ fp, FpOk X pins H b) → tn i s.heap → J.go i H →
   wpAny (model P w) X.A (pyNext (.ref it)) (fun r s1 => ∃ u, r = some u ∧
     wpAny (model P w) X.A (letOwnedTupleGo tg (.ref it) u) (fun _ s2 => ∃ x H', Inv X pins σ H' s2 ∧ RelV x u ∧ J.yld i H x H' ∧ tn (i + 1) s2.heap ∧ ∀ b ∈ fp, H' b = none) E s1) E s
 done : ∀ (X : Cx), X.prog = P → X.w = w → X.K = K → X.calm = true → ∀ (i : Nat) (pins : List (Addr × Obj)) (s : Shared) (σ : St) (H : Hp) (E : Value → Shared → Prop), Inv X pins σ H s → (∀ b ∈ fp, FpOk X pins H b) → tn i s.heap → J.stop i H →
   wpAny (model P w) X.A (pyNext (.ref it)) (fun r s1 => r = none ∧ Inv X pins σ H s1) E s
 self : ∀ (A : Around) (i : Nat) (s : Shared) (Q : Value → Shared → Prop) (E : Value → Shared → Prop), tn i s.heap → Q (.ref it) s → wpAny (model P w) A (pyIter (.ref it)) Q E s
abbrev TI := St → Hp → (It → Hp → Prop) → Prop
def PIE (X : Cx) (pins : List (Addr × Obj)) (σ : St) (tg : Expr) (R : It → Hp → Prop) (itv : Value) (s2 : Shared) : Prop :=
 ∃ (it : Addr) (fp : List Addr) (tn : Nat → Heap → Prop) (J : It) (H' : Hp), itv = .ref it ∧ Inv X pins σ H' s2 ∧ Turn X.prog X.w X.K tg J fp it tn ∧ tn 0 s2.heap ∧ (∀ b ∈ fp, FpOk X pins H' b) ∧ R J H'
def PI (X : Cx) (tg iter : Expr) (wi : TI) : Prop :=
 ∀ (pins : List (Addr × Obj)) (s : Shared) (σ : St) (H : Hp) (R : It → Hp → Prop), Inv X pins σ H s → wi σ H R →
   wpAny (model X.prog X.w) X.A (eval iter X.env) (fun v s1 => wpAny (model X.prog X.w) X.A (pyIter v) (PIE X pins σ tg R) X.xe s1) X.xe s
theorem go_of {M : Model} {A : Around} {E : Value → Shared → Prop} {s : Shared} {tg : Expr} {it : Addr} {u : Value} {o : Obj} {n : String} {vs : Array Value} {Q : Unit → Shared → Prop} (ho : s.heap.get? it = some o) (hc : o.cls = .type n) (hd : o.data = .fields vs)
   (hn : ["enumerate", "zip", "dict_itemiterator", "dict_reverseitemiterator", "odict_iterator", "itertools.zip_longest", "itertools.pairwise"].contains n = false) (hQ : Q () s) : wpAny M A (letOwnedTupleGo tg (.ref it) u) Q E s := by
 unfold letOwnedTupleGo
 cases tg <;> first
   | exact wpAny_pure hQ
   | (cases u <;> first
       | exact wpAny_pure hQ
       | (refine wpAny_bind (wpAny_load ho ?_)
          rw [hc, hd]
          show wpAny M A (if (["enumerate", "zip", "dict_itemiterator", "dict_reverseitemiterator", "odict_iterator", "itertools.zip_longest", "itertools.pairwise"].contains n && vs[0]? == some (rawInt _)) = true then _ else _) Q E s
          rw [if_neg (by intro h; rw [hn, Bool.false_and] at h; cases h)]
          exact wpAny_pure hQ))
def Itl (K : PySem.W.Frag) (a : Addr) : It :=
 ⟨fun i H => ∃ xs x, SqL K H a xs ∧ xs[i]? = some x, fun i H x H' => H' = H ∧ ∀ xs, SqL K H a xs → xs[i]? = some x, fun i H => ∃ xs, SqL K H a xs ∧ xs.length ≤ i⟩
theorem turn_list {P : Program} {w : World} {K : PySem.W.Frag} {tg : Expr} (a it : Addr) : Turn P w K tg (Itl K a) [it] it (fun i h => h.IsListIter it a i) where
 mem := by simp
 obj := fun i h st b hb => by
   have e : b = it := by simpa using hb
   subst e
   obtain ⟨o, e, c, d⟩ := st
   exact ⟨o, e, fun v z => by rw [d] at z; cases z⟩
 keep := fun i h h' st k => st.at fun o e => k it (by simp) o e
 item := by
   intro X hP hw hK hc i pins s σ H E I hf st hg
   subst hP hw hK
   obtain ⟨xs, x, hq, hx⟩ := hg
   obtain ⟨its, rv, p, hz⟩ := I.list hq
   obtain ⟨u, hu, ru⟩ := rv.get hx
   obtain ⟨f0, f1, f2, f3, f4, f5⟩ := hf it (by simp)
   refine wpAny_pyNext_list_item st p.isList (x := u) (by simpa using hu) fun h' st' sb => ?_
   have I1 : Inv X pins σ H { s with heap := h' } := I.turned (t' := s.toks) (fun b o hb e => (sb.2 b hb).trans e) f0 f1 f3 f4 f5
   obtain ⟨o, e, c, d⟩ := id st'
   exact ⟨u, rfl, go_of (s := { s with heap := h' }) e c d (by decide) ⟨x, H, I1, ru, ⟨rfl, fun ys hy => by rw [I.list_inj hy hq]; exact hx⟩, st', fun b hb => (hf b hb).1⟩⟩
 done := by
   intro X hP hw hK hc i pins s σ H E I hf st hg
   subst hP hw hK
   obtain ⟨xs, hq, hx⟩ := hg
   obtain ⟨its, rv, p, hz⟩ := I.list hq
   obtain ⟨f0, f1, f2, f3, f4, f5⟩ := hf it (by simp)
   have hl := rv.length
   exact wpAny_pyNext_list_end (I.ok.hd hc) st p.isList (by simp; omega) fun h' eb => ⟨rfl, I.turned (t' := s.toks) (fun b o hb e => eb b o hb e) f0 f1 f3 f4 f5⟩
 self := fun _ _ _ _ _ st h => wpAny_pyIter_listiter st h
end L2
namespace L2
open PySem PySem.Spec PyProof.Rows
section
variable {X : Cx} {tg : Expr}
def iList (K : PySem.W.Frag) (tl : TE) : TI := fun σ H R => tl σ H fun x H1 => ∃ a, x = .ref a ∧ (∃ xs, SqL K H1 a xs) ∧ R (Itl K a) H1
theorem pi_list {l : Expr} {tl : TE} (hl : PE X l tl) : PI X tg l (iList X.K tl) := by
 intro pins s σ H R I h
 refine thn (hl pins s σ H _ I h) fun v s1 ⟨x, H1, I1, r1, q1⟩ => ?_
 obtain ⟨a, e, ⟨xs, hq⟩, q⟩ := q1
 subst e
 cases r1
 obtain ⟨its, rv, p, hz⟩ := I1.list hq
 refine wpAny_pyIter_list p.isList ?_
 refine ⟨s1.heap.objs.size, [s1.heap.objs.size], _, _, H1, rfl, I1.kept (t' := s1.toks) fun b o e => Heap.get?_push_of_some _ e, turn_list a _, ⟨_, Heap.get?_push_size _ rfl, rfl, rfl⟩, fun b hb => ?_, q⟩
 have e : b = s1.heap.objs.size := by simpa using hb
 subst e
 exact I1.fpOk (Nat.le_refl _) (I1.hok.fresh (Nat.le_refl _))
def tFor (wi : TI) (g : TG) (tb : TS) : TS := fun D σ H => wi σ H fun J H1 => ∃ W : Nat → Nat → St → Hp → Prop, (∃ m, W 0 m σ H1) ∧ ∀ i m σ H, W i m σ H →
 (J.stop i H ∧ D.nx σ H) ∨ (J.go i H ∧ ∃ N : St → Hp → Prop, (∀ σ' H', N σ' H' → ∃ m', m' < m ∧ W (i + 1) m' σ' H') ∧ ∀ x H', J.yld i H x H' → g x σ H' fun σ2 H2 => tb { D with nx := N, ct := N, bk := D.nx } σ2 H2)
def pinsAt (fp : List Addr) (h : Heap) : List (Addr × Obj) := fp.filterMap fun b => (h.get? b).map fun o => (b, o)
theorem mem_pinsAt {fp : List Addr} {h : Heap} {b : Addr} {o : Obj} (hb : b ∈ fp) (e : h.get? b = some o) : (b, o) ∈ pinsAt fp h := List.mem_filterMap.mpr ⟨b, hb, by rw [e]; rfl⟩
theorem of_pinsAt {fp : List Addr} {h : Heap} {p : Addr × Obj} (hp : p ∈ pinsAt fp h) : p.1 ∈ fp ∧ h.get? p.1 = some p.2 := by
 obtain ⟨b, hb, e⟩ := List.mem_filterMap.mp hp
 cases q : h.get? b with
 | none => rw [q] at e; cases e
 | some o =>
   rw [q] at e
   have e' : (b, o) = p := Option.some.inj e
   subst e'
   exact ⟨hb, q⟩
theorem Inv.pinned {pins : List (Addr × Obj)} {σ : St} {H : Hp} {s : Shared} {fp : List Addr} (I : Inv X pins σ H s) (hf : ∀ b ∈ fp, FpOk X pins H b) (ho : ∀ b ∈ fp, ∃ o, s.heap.get? b = some o ∧ ∀ v, o.data ≠ .cell v) : Inv X (pins ++ pinsAt fp s.heap) σ H s :=
 I.pins_of fun p hp => (List.mem_append.mp hp).elim (fun z => I.pin p (List.mem_append_right _ z)) fun z => by
   obtain ⟨hb, e⟩ := of_pinsAt z
   obtain ⟨f0, f1, f2, _⟩ := hf p.1 hb
   obtain ⟨o, e', d⟩ := ho p.1 hb
   rw [e] at e'; cases e'
   exact ⟨e, f0, f1, f2, d⟩
theorem Inv.unpinned {pins pl : List (Addr × Obj)} {σ : St} {H : Hp} {s : Shared} (I : Inv X (pins ++ pl) σ H s) : Inv X pins σ H s := I.pins_of fun p hp => I.pin p (List.mem_append_right _ (List.mem_append_left _ hp))
theorem ps_for {iter : Expr} {body : List Stmt} {wi : TI} {g : TG} {tb : TS} {pos : Pos} (hp : PassesOwn (model X.prog X.w) X.A X.env X.xe) (hc : X.calm = true) (hi : PI X tg iter wi) (hg : PG X tg g) (hb : PSs X body tb)
   (hs : ∀ x, foldedSetIterable iter X.env x = pure x := by intro _; rfl) : PS X (.For tg iter body [] pos) (tFor wi g tb) := by
 intro pins s σ H D I h
 refine wpAny_For (thn (hi pins s σ H _ I h) fun v s1 h1 => thn h1 fun itv s2 h2 => ?_) hs
 obtain ⟨it, fp, tn, J, H2, e, I2, T, st2, f2, W, ⟨m0, w0⟩, turn⟩ := h2
 subst e
 -- what stays true of the iterator's objects through the loop
 have stat : ∀ {H' : Hp}, (∀ b ∈ fp, H' b = none) → ∀ b ∈ fp, FpOk X pins H' b := fun hn b hb => ⟨hn b hb, (f2 b hb).2⟩
 refine codeAny_forLoop_any (fun n s' => ∃ i σ' H', Inv X pins σ' H' s' ∧ tn i s'.heap ∧ (∀ b ∈ fp, H' b = none) ∧ W i n σ' H') ?_ m0 ⟨0, σ, H2, I2, st2, fun b hb => (f2 b hb).1, w0⟩
 rintro n s3 ⟨i, σ3, H3, I3, st3, fr3, w3⟩
 rcases turn i n σ3 H3 w3 with ⟨stop, qn⟩ | ⟨go, N, hN, step⟩
 · refine wpAny_passesOwn hp (thn (T.done X rfl rfl rfl hc i pins s3 σ3 H3 X.xe I3 (stat fr3) st3 stop) fun r s4 ⟨hr, I4⟩ => ?_)
   subst hr
   exact wpAny_execs_nil ⟨σ3, H3, I4, qn⟩
 · refine wpAny_passesOwn hp (thn (T.item X rfl rfl rfl hc i pins s3 σ3 H3 X.xe I3 (stat fr3) st3 go) fun r s4 ⟨u, hr, h4⟩ => ?_)
   subst hr
   refine wpAny_passesOwn hp (thn h4 fun _ s5 ⟨x, H5, I5, r5, y5, st5, fr5⟩ => ?_)
   have I5' := I5.pinned (stat fr5) (T.obj _ _ st5)
   refine wpAny_passesOwn hp (thn (hg _ s5 σ3 H5 x u _ I5' r5 (step x H5 y5)) fun _ s6 ⟨σ6, H6, I6, q6⟩ => ?_)
   refine wpAny_passesOwn hp (thn (hb _ s6 σ6 H6 _ I6 q6) fun f s7 q7 => ?_)
   have again : ∀ {σ7 : St} {H7 : Hp}, Inv X (pins ++ pinsAt fp s5.heap) σ7 H7 s7 → N σ7 H7 → ∃ m, m < n ∧ ∃ i σ' H', Inv X pins σ' H' s7 ∧ tn i s7.heap ∧ (∀ b ∈ fp, H' b = none) ∧ W i m σ' H' := fun {σ7 H7} I7 n7 => by
     obtain ⟨m', hm, w7⟩ := hN σ7 H7 n7
     refine ⟨m', hm, i + 1, σ7, H7, I7.unpinned, T.keep _ _ _ st5 fun b hb o e => (I7.pin (b, o) (List.mem_append_right _ (List.mem_append_right _ (mem_pinsAt hb e)))).1, fun b hb => ?_, w7⟩
     obtain ⟨o, e, d⟩ := T.obj _ _ st5 b hb
     exact (I7.pin (b, o) (List.mem_append_right _ (List.mem_append_right _ (mem_pinsAt hb e)))).2.1
   cases f with
   | next => obtain ⟨σ7, H7, I7, n7⟩ := q7; exact again I7 n7
   | cont => obtain ⟨σ7, H7, I7, n7⟩ := q7; exact again I7 n7
   | brk => obtain ⟨σ7, H7, I7, q7⟩ := q7; exact ⟨σ7, H7, I7.unpinned, q7⟩
   | ret v => obtain ⟨x7, σ7, H7, I7, r7, q7⟩ := q7; exact ⟨x7, σ7, H7, I7.unpinned, r7, q7⟩
end
theorem for_list {K : PySem.W.Frag} {a : Addr} {xs : List V} {g : TG} {tb : TS} {D : Ends} {σ : St} {H : Hp} (Pv : Nat → St → Hp → Prop) (h0 : Pv 0 σ H) (hl : ∀ i σ H, i ≤ xs.length → Pv i σ H → SqL K H a xs)
   (hs : ∀ i x σ H, xs[i]? = some x → Pv i σ H → g x σ H fun σ2 H2 => tb { D with nx := Pv (i + 1), ct := Pv (i + 1), bk := D.nx } σ2 H2) (hd : ∀ σ H, Pv xs.length σ H → D.nx σ H) :
   ∃ W : Nat → Nat → St → Hp → Prop, (∃ m, W 0 m σ H) ∧ ∀ i m σ H, W i m σ H →
     ((Itl K a).stop i H ∧ D.nx σ H) ∨ ((Itl K a).go i H ∧ ∃ N : St → Hp → Prop, (∀ σ' H', N σ' H' → ∃ m', m' < m ∧ W (i + 1) m' σ' H') ∧ ∀ x H', (Itl K a).yld i H x H' → g x σ H' fun σ2 H2 => tb { D with nx := N, ct := N, bk := D.nx } σ2 H2) := by
 refine ⟨fun i m σ H => m = xs.length - i ∧ i ≤ xs.length ∧ Pv i σ H, ⟨xs.length, by simp, Nat.zero_le _, h0⟩, ?_⟩
 rintro i m σ H ⟨rfl, hi, p⟩
 have q := hl i σ H hi p
 by_cases hlt : i < xs.length
 · refine .inr ⟨⟨xs, xs[i], q, by simp [hlt]⟩, Pv (i + 1), fun σ' H' p' => ⟨xs.length - (i + 1), by omega, rfl, hlt, p'⟩, fun x H' y => ?_⟩
   obtain ⟨e, y⟩ := y
   subst e
   exact hs i x σ _ (y xs q) p
 · have e : i = xs.length := by omega
   subst e
   exact .inl ⟨⟨xs, q, Nat.le_refl _⟩, hd σ H p⟩
end L2
namespace L2
open PySem PySem.Spec PyProof.Rows
abbrev R2 := V → V → Hp → VK → Prop
def OpR (X : Cx) (f : Value → Value → Sem Value) (r : R2) : Prop :=
 ∀ (pins : List (Addr × Obj)) (s : Shared) (σ : St) (H : Hp) (x y : V) (v u : Value) (Q : VK), Inv X pins σ H s → RelV x v → RelV y u → r x y H Q →
   wpAny (model X.prog X.w) X.A (f v u) (EP X pins σ Q) X.xe s
def UnR (X : Cx) (f : Value → Sem Value) (r : V → Hp → VK → Prop) : Prop :=
 ∀ (pins : List (Addr × Obj)) (s : Shared) (σ : St) (H : Hp) (x : V) (v : Value) (Q : VK), Inv X pins σ H s → RelV x v → r x H Q →
   wpAny (model X.prog X.w) X.A (f v) (EP X pins σ Q) X.xe s
def CallR (X : Cx) (f : Value) (r : List V → Hp → VK → Prop) : Prop :=
 ∀ (pins : List (Addr × Obj)) (s : Shared) (σ : St) (H : Hp) (xs : List V) (us : List Value) (Q : VK), Inv X pins σ H s → Vals xs us → r xs H Q →
   wpAny (model X.prog X.w) X.A (call f us) (EP X pins σ Q) X.xe s
def TruR (X : Cx) (r : V → Hp → (Bool → Hp → Prop) → Prop) : Prop :=
 ∀ (pins : List (Addr × Obj)) (s : Shared) (σ : St) (H : Hp) (x : V) (v : Value) (Q : Bool → Hp → Prop), Inv X pins σ H s → RelV x v → r x H Q →
   wpAny (model X.prog X.w) X.A (truthy v) (TP X pins σ Q) X.xe s
def tOp (r : R2) (ta tb : TE) : TE := fun σ H Q => ta σ H fun x H1 => tb σ H1 fun y H2 => r x y H2 Q
def tUn (r : V → Hp → VK → Prop) (ta : TE) : TE := fun σ H Q => ta σ H fun x H1 => r x H1 Q
def rI (C : Int → Int → Prop) (g : Int → Int → V) : R2 := fun x y H Q => ∃ i j, x = .int i ∧ y = .int j ∧ C i j ∧ Q (g i j) H
def rI0 (g : Int → Int → V) : R2 := fun x y H Q => ∃ i j, x = .int i ∧ y = .int j ∧ Q (g i j) H
def rU (g : Int → V) : V → Hp → VK → Prop := fun x H Q => ∃ i, x = .int i ∧ Q (g i) H
section
variable {X : Cx} {a b c : Expr} {ta tb tc : TE} {pos : Pos}
theorem binT (ha : PE X a ta) (hb : PE X b tb) {pins : List (Addr × Obj)} {s : Shared} {σ : St} {H : Hp} {R : V → V → Hp → Prop} (I : Inv X pins σ H s)
   (h : ta σ H fun x H1 => tb σ H1 fun y H2 => R x y H2) {Q : Value → Shared → Prop} {f : Value → Value → Sem Value}
   (hf : ∀ v u s2 x y H2, Inv X pins σ H2 s2 → RelV x v → RelV y u → R x y H2 → wpAny (model X.prog X.w) X.A (f v u) Q X.xe s2) :
   wpAny (model X.prog X.w) X.A (eval a X.env) (fun v s₁ => wpAny (model X.prog X.w) X.A (eval b X.env) (fun u s₂ => wpAny (model X.prog X.w) X.A (f v u) Q X.xe s₂) X.xe s₁) X.xe s := by
 refine thn (ha pins s σ H _ I h) fun v s1 ⟨x, H1, I1, r1, q1⟩ => ?_
 refine thn (hb pins s1 σ H1 _ I1 q1) fun u s2 ⟨y, H2, I2, r2, q2⟩ => ?_
 exact hf v u s2 x y H2 I2 r1 r2 q2
theorem pe_op {op : Operator} {r : R2} (ho : OpR X (binaryOp op) r) (ha : PE X a ta) (hb : PE X b tb) : PE X (.BinOp a op b pos) (tOp r ta tb) := by
 intro pins s σ H Q I h
 exact wpAny_BinOp (binT ha hb I h fun v u s2 x y H2 I2 rx ry q => ho pins s2 σ H2 x y v u Q I2 rx ry q)
theorem pe_un {op : UnaryOp} {r : V → Hp → VK → Prop} (ho : UnR X (unaryOp op) r) (ha : PE X a ta) : PE X (.UnaryOp op a pos) (tUn r ta) := by
 intro pins s σ H Q I h
 exact UnaryOp_ (thn (ha pins s σ H _ I h) fun v s1 ⟨x, H1, I1, r1, q1⟩ => ho pins s1 σ H1 x v Q I1 r1 q1)
theorem opI {f : Value → Value → Sem Value} {C : Int → Int → Prop} {g : Int → Int → Int}
   (rule : ∀ (i j : Int) (t u : Tok) (s : Shared) (Q : Value → Shared → Prop) (E : Value → Shared → Prop), C i j → Q (.int (g i j) s.toks) { s with toks := s.toks + 1 } → wpAny (model X.prog X.w) X.A (f (.int i t) (.int j u)) Q E s) :
   OpR X f (rI C fun i j => .int (g i j)) := by
 intro pins s σ H x y v u Q I rx ry h
 obtain ⟨i, j, rfl, rfl, hc, q⟩ := h
 obtain ⟨t, rfl⟩ := rx
 obtain ⟨t', rfl⟩ := ry
 exact rule i j t t' s _ _ hc ⟨.int (g i j), H, I.tok _, ⟨_, rfl⟩, q⟩
theorem opI0 {f : Value → Value → Sem Value} {g : Int → Int → Int}
   (rule : ∀ (i j : Int) (t u : Tok) (s : Shared) (Q : Value → Shared → Prop) (E : Value → Shared → Prop), Q (.int (g i j) s.toks) { s with toks := s.toks + 1 } → wpAny (model X.prog X.w) X.A (f (.int i t) (.int j u)) Q E s) :
   OpR X f (rI0 fun i j => .int (g i j)) := by
 intro pins s σ H x y v u Q I rx ry h
 obtain ⟨i, j, rfl, rfl, q⟩ := h
 obtain ⟨t, rfl⟩ := rx
 obtain ⟨t', rfl⟩ := ry
 exact rule i j t t' s _ _ ⟨.int (g i j), H, I.tok _, ⟨_, rfl⟩, q⟩
theorem opB0 {f : Value → Value → Sem Value} {g : Int → Int → Bool}
   (rule : ∀ (i j : Int) (t u : Tok) (s : Shared) (Q : Value → Shared → Prop) (E : Value → Shared → Prop), Q (.bool (g i j)) s → wpAny (model X.prog X.w) X.A (f (.int i t) (.int j u)) Q E s) :
   OpR X f (rI0 fun i j => .bl (g i j)) := by
 intro pins s σ H x y v u Q I rx ry h
 obtain ⟨i, j, rfl, rfl, q⟩ := h
 obtain ⟨t, rfl⟩ := rx
 obtain ⟨t', rfl⟩ := ry
 exact rule i j t t' s _ _ ⟨.bl (g i j), H, I, rfl, q⟩
def CDiv (i j : Int) : Prop := 0 < j ∧ j < 1073741824
def CPow (i j : Int) : Prop := 0 ≤ j ∧ j ≤ 1000000 ∧ i.natAbs < 2 ^ 64
def CMul (i j : Int) : Prop := (-(2 ^ 64) < i ∧ i < 2 ^ 64) ∨ (-(2 ^ 64) < j ∧ j < 2 ^ 64)
theorem CMul.ok {i j : Int} (h : CMul i j) : IntMulOk i j := by
 rcases h with ⟨h1, h2⟩ | ⟨h1, h2⟩
 · exact .of_left (intBits_le_64 h1 h2)
 · exact .of_right (intBits_le_64 h1 h2)
theorem two_pow_nn (k : Nat) : (0 : Int) ≤ 2 ^ k := by
 rw [two_pow_cast]
 exact Int.natCast_nonneg _
theorem op_add : OpR X (binaryOp .Add) (rI0 fun i j => .int (i + j)) := opI0 fun _ _ _ _ _ _ _ q => add_int q
theorem op_sub : OpR X (binaryOp .Sub) (rI0 fun i j => .int (i - j)) := opI0 fun _ _ _ _ _ _ _ q => sub_int q
theorem op_mul : OpR X (binaryOp .Mult) (rI CMul fun i j => .int (i * j)) := opI fun _ _ _ _ _ _ _ hc q => mul_int q hc.ok
theorem op_fdiv : OpR X (binaryOp .FloorDiv) (rI CDiv fun i j => .int (i / j)) := opI fun i j _ _ _ _ _ hc q => by
 have h1 : (0 : Int) < j := hc.1
 have h2 : j < 1073741824 := hc.2
 exact floordiv_int (by omega) (by rw [Int.fdiv_eq_ediv_of_nonneg i (by omega)]; exact q) (.inl (PyProof.noPylong_small (by omega)))
theorem op_mod : OpR X (binaryOp .Mod) (rI (fun _ j => 0 < j) fun i j => .int (i % j)) := opI fun i j _ _ _ _ _ hc q => by
 have h1 : (0 : Int) < j := hc
 exact mod_int' (by omega) (by rw [Int.fmod_eq_emod_of_nonneg i (by omega)]; exact q)
theorem op_pow : OpR X (binaryOp .Pow) (rI CPow fun i j => .int (i ^ j.toNat)) := opI fun _ _ _ _ _ _ _ hc q => pow_int_small hc.1 hc.2.1 hc.2.2 q
theorem op_shr : OpR X (binaryOp .RShift) (rI (fun _ j => 0 ≤ j) fun i j => .int (i / 2 ^ j.toNat)) := opI fun i j _ _ _ _ _ hc q =>
 rshift_int hc (by rw [Int.fdiv_eq_ediv_of_nonneg i (two_pow_nn _)]; exact q)
theorem op_and : OpR X (binaryOp .BitAnd) (rI0 fun i j => .int (Builtin.bitAnd i j)) := opI0 fun _ _ _ _ _ _ _ q => and_int q
theorem op_or : OpR X (binaryOp .BitOr) (rI0 fun i j => .int (Builtin.bitOr i j)) := opI0 fun _ _ _ _ _ _ _ q => or_int q
theorem unI {f : Value → Sem Value} {g : Int → Int}
   (rule : ∀ (i : Int) (t : Tok) (s : Shared) (Q : Value → Shared → Prop) (E : Value → Shared → Prop), Q (.int (g i) s.toks) { s with toks := s.toks + 1 } → wpAny (model X.prog X.w) X.A (f (.int i t)) Q E s) :
   UnR X f (rU fun i => .int (g i)) := by
 intro pins s σ H x v Q I rx h
 obtain ⟨i, rfl, q⟩ := h
 obtain ⟨t, rfl⟩ := rx
 exact rule i t s _ _ ⟨.int (g i), H, I.tok _, ⟨_, rfl⟩, q⟩
theorem un_neg : UnR X (unaryOp .USub) (rU fun i => .int (-i)) := unI fun _ _ _ _ _ q => neg_int q
end
def scal : V → V → Bool
 | .non, .non => true | .non, .int _ => true | .int _, .non => true | .non, .bl _ => true | .bl _, .non => true | .non, .str _ => true | .str _, .non => true
 | .int _, .int _ => true | .bl _, .bl _ => true | .str _, .str _ => true | .byt _, .byt _ => true
 | .int _, .str _ => true | .str _, .int _ => true | .bl _, .str _ => true | .str _, .bl _ => true
 | _, _ => false
def rEq : R2 := fun x y H Q => scal x y = true ∧ Q (.bl (decide (x = y))) H
def rNe : R2 := fun x y H Q => scal x y = true ∧ Q (.bl (!decide (x = y))) H
theorem dec_int {i j : Int} : decide (V.int i = V.int j) = (i == j) := by
 rw [Bool.eq_iff_iff]
 simp
theorem dec_bl {i j : Bool} : decide (V.bl i = V.bl j) = (i == j) := by
 rw [Bool.eq_iff_iff]
 simp
theorem dec_str {i j : Str} : decide (V.str i = V.str j) = (i == j) := by
 rw [Bool.eq_iff_iff]
 simp
theorem dec_byt {i j : Array UInt8} : decide (V.byt i = V.byt j) = (i.toList == j.toList) := by
 rw [Bool.eq_iff_iff]
 cases i
 cases j
 simp
section
variable {X : Cx} {a b c : Expr} {ta tb tc : TE} {pos : Pos}
theorem fin_bl {pins : List (Addr × Obj)} {σ : St} {H : Hp} {s : Shared} {Q : VK} {k k' : Bool} (I : Inv X pins σ H s) (q : Q (.bl k) H) (e : k = k') : EP X pins σ Q (.bool k') s := by
 subst e
 exact ⟨.bl k, H, I, rfl, q⟩
theorem op_eq : OpR X (compareOp .Eq) rEq := by
 intro pins s σ H x y v u Q I rx ry h
 obtain ⟨hs, q⟩ := h
 cases x with
 | non =>
   cases rx
   cases y with
   | non => cases ry; exact PySem.EqNone.eq_none_none (fin_bl I q (by simp))
   | bl j => cases ry; exact PySem.EqNone.eq_none_bool (fin_bl I q (by simp))
   | int j => obtain ⟨t', rfl⟩ := ry; exact PySem.EqNone.eq_none_int (fin_bl I q (by simp))
   | str j => obtain ⟨t', rfl⟩ := ry; exact PySem.EqNone.eq_none_str (fin_bl I q (by simp))
   | _ => exact absurd (show false = true from hs) Bool.false_ne_true
 | bl i =>
   cases rx
   cases y with
   | non => cases ry; exact PySem.EqNone.eq_bool_none (fin_bl I q (by simp))
   | bl j => cases ry; exact eq_bool (fin_bl I q dec_bl)
   | str j => obtain ⟨t', rfl⟩ := ry; exact PySem.EqMixed.eq_bool_str (fin_bl I q (by simp))
   | _ => exact absurd (show false = true from hs) Bool.false_ne_true
 | int i =>
   obtain ⟨t, rfl⟩ := rx
   cases y with
   | non => cases ry; exact PySem.EqNone.eq_int_none (fin_bl I q (by simp))
   | int j => obtain ⟨t', rfl⟩ := ry; exact eq_int (fin_bl I q dec_int)
   | str j => obtain ⟨t', rfl⟩ := ry; exact PySem.EqMixed.eq_int_str (fin_bl I q (by simp))
   | _ => exact absurd (show false = true from hs) Bool.false_ne_true
 | str i =>
   obtain ⟨t, rfl⟩ := rx
   cases y with
   | non => cases ry; exact PySem.EqNone.eq_str_none (fin_bl I q (by simp))
   | bl j => cases ry; exact PySem.EqMixed.eq_str_bool (fin_bl I q (by simp))
   | int j => obtain ⟨t', rfl⟩ := ry; exact PySem.EqMixed.eq_str_int (fin_bl I q (by simp))
   | str j => obtain ⟨t', rfl⟩ := ry; exact eq_str (fin_bl I q dec_str)
   | _ => exact absurd (show false = true from hs) Bool.false_ne_true
 | byt i =>
   obtain ⟨t, rfl⟩ := rx
   cases y with
   | byt j => obtain ⟨t', rfl⟩ := ry; exact PySem.W.eq_bytes (fin_bl I q dec_byt)
   | _ => exact absurd (show false = true from hs) Bool.false_ne_true
 | _ => cases y <;> exact absurd (show false = true from hs) Bool.false_ne_true
theorem op_ne : OpR X (compareOp .NotEq) rNe := by
 intro pins s σ H x y v u Q I rx ry h
 obtain ⟨hs, q⟩ := h
 cases x with
 | non =>
   cases rx
   cases y with
   | non => cases ry; exact PySem.EqNone.ne_none_none (fin_bl I q (by simp))
   | bl j => cases ry; exact PySem.EqNone.ne_none_bool (fin_bl I q (by simp))
   | int j => obtain ⟨t', rfl⟩ := ry; exact PySem.EqNone.ne_none_int (fin_bl I q (by simp))
   | str j => obtain ⟨t', rfl⟩ := ry; exact PySem.EqNone.ne_none_str (fin_bl I q (by simp))
   | _ => exact absurd (show false = true from hs) Bool.false_ne_true
 | bl i =>
   cases rx
   cases y with
   | non => cases ry; exact PySem.EqNone.ne_bool_none (fin_bl I q (by simp))
   | bl j => cases ry; exact ne_bool (fin_bl I q (congrArg not dec_bl))
   | str j => obtain ⟨t', rfl⟩ := ry; exact PySem.EqMixed.ne_bool_str (fin_bl I q (by simp))
   | _ => exact absurd (show false = true from hs) Bool.false_ne_true
 | int i =>
   obtain ⟨t, rfl⟩ := rx
   cases y with
   | non => cases ry; exact PySem.EqNone.ne_int_none (fin_bl I q (by simp))
   | int j => obtain ⟨t', rfl⟩ := ry; exact ne_int (fin_bl I q (congrArg not dec_int))
   | str j => obtain ⟨t', rfl⟩ := ry; exact PySem.EqMixed.ne_int_str (fin_bl I q (by simp))
   | _ => exact absurd (show false = true from hs) Bool.false_ne_true
 | str i =>
   obtain ⟨t, rfl⟩ := rx
   cases y with
   | non => cases ry; exact PySem.EqNone.ne_str_none (fin_bl I q (by simp))
   | bl j => cases ry; exact PySem.EqMixed.ne_str_bool (fin_bl I q (by simp))
   | int j => obtain ⟨t', rfl⟩ := ry; exact PySem.EqMixed.ne_str_int (fin_bl I q (by simp))
   | str j => obtain ⟨t', rfl⟩ := ry; exact ne_str (fin_bl I q (congrArg not dec_str))
   | _ => exact absurd (show false = true from hs) Bool.false_ne_true
 | byt i =>
   obtain ⟨t, rfl⟩ := rx
   cases y with
   | byt j => obtain ⟨t', rfl⟩ := ry; exact PySem.W.ne_bytes (fin_bl I q (congrArg not dec_byt))
   | _ => exact absurd (show false = true from hs) Bool.false_ne_true
 | _ => cases y <;> exact absurd (show false = true from hs) Bool.false_ne_true
theorem op_lt : OpR X (compareOp .Lt) (rI0 fun i j => .bl (decide (i < j))) := opB0 fun _ _ _ _ _ _ _ q => lt_int q
theorem op_gt : OpR X (compareOp .Gt) (rI0 fun i j => .bl (decide (j < i))) := opB0 fun _ _ _ _ _ _ _ q => gt_int q
theorem op_ge : OpR X (compareOp .GtE) (rI0 fun i j => .bl (decide (j ≤ i))) := opB0 fun _ _ _ _ _ _ _ q => ge_int q
theorem op_isN : OpR X (compareOp .Is) (fun x y H Q => y = .non ∧ Q (.bl (decide (x = .non))) H) := by
 intro pins s σ H x y v u Q I rx ry h
 obtain ⟨rfl, q⟩ := h
 cases ry
 refine is_none_gen (fin_bl I q ?_)
 cases x <;> first
   | (cases rx; rfl)
   | (obtain ⟨t, rfl⟩ := rx; rfl)
theorem op_notN : OpR X (compareOp .IsNot) (fun x y H Q => y = .non ∧ Q (.bl (!decide (x = .non))) H) := by
 intro pins s σ H x y v u Q I rx ry h
 obtain ⟨rfl, q⟩ := h
 cases ry
 refine isnot_none_gen (fin_bl I q ?_)
 cases x <;> first
   | (cases rx; rfl)
   | (obtain ⟨t, rfl⟩ := rx; rfl)
theorem nomark (b : Expr) {op : CmpOp} (h : op ≠ .In := by decide) (h2 : op ≠ .NotIn := by decide) : behindInMarks op b = false := by
 have e1 : (op == CmpOp.In) = false := by cases op <;> first | rfl | exact absurd rfl h
 have e2 : (op == CmpOp.NotIn) = false := by cases op <;> first | rfl | exact absurd rfl h2
 cases b <;> simp [behindInMarks, e1, e2]
theorem pe_cmpR {op : CmpOp} {r : R2} (ho : OpR X (compareOp op) r) (ha : PE X a ta) (hb : PE X b tb) (hm : behindInMarks op b = false) : PE X (.Compare a [op] [b] pos) (tOp r ta tb) := by
 intro pins s σ H Q I h
 exact wpAny_Compare1 (binT ha hb I h fun v u s2 x y H2 I2 rx ry q => ho pins s2 σ H2 x y v u Q I2 rx ry q) hm
def tTest (t : TE) : TT := fun σ H Q => t σ H fun x H' => ∃ k, x = .bl k ∧ Q k H'
theorem pt_cmpR {op : CmpOp} {r : R2} (ho : OpR X (compareOp op) r) (ha : PE X a ta) (hb : PE X b tb) (hm : behindInMarks op b = false) : PT X (.Compare a [op] [b] pos) (tTest (tOp r ta tb)) := by
 intro pins s σ H Q I h
 refine wpAny_isTrue_Compare1 (thn (ha pins s σ H _ I h) fun v s1 ⟨x, H1, I1, r1, q1⟩ => thn (hb pins s1 σ H1 _ I1 q1) fun u s2 ⟨y, H2, I2, r2, q2⟩ =>
   thn (ho pins s2 σ H2 x y v u _ I2 r1 r2 q2) fun c s3 ⟨z, H3, I3, r3, k, e, q3⟩ => ?_) hm
 subst e
 cases r3
 exact wpAny_truthy_bool ⟨H3, I3, q3⟩
def TruV (K : PySem.W.Frag) (x : V) (H : Hp) (k : Bool) : Prop :=
 match x with
 | .non => k = false
 | .bl b => k = b
 | .int i => k = (i != 0)
 | .str y => y.length ≤ sizeLine ∧ k = ((y.length : Int) != 0)
 | .byt y => y.size ≤ sizeLine ∧ k = ((y.size : Int) != 0)
 | .ref p => (∃ xs, SqL K H p xs ∧ k = !xs.isEmpty) ∨ (∃ xs, SqT K H p xs ∧ k = !xs.isEmpty) ∨ ∃ kvs, H p = some (.dK kvs) ∧ k = !kvs.isEmpty
 | _ => False
theorem isEmpty_kv {κ : Type} {kvs : List (κ × V)} {vs : List (κ × Value)} (r : KV kvs vs) : (!vs.isEmpty) = !kvs.isEmpty := by
 cases r <;> rfl
theorem isEmpty_of {xs : List V} {its : List Value} (r : Vals xs its) : (!its.toArray.isEmpty) = !xs.isEmpty := by
 cases r <;> simp
theorem line63 : (sizeLine : Nat) < 2 ^ 63 := by rw [sizeLine_eq]; decide
theorem tru_ok : TruR X (fun x H Q => ∃ k, TruV X.K x H k ∧ Q k H) := by
 intro pins s σ H x v Q I rx h
 obtain ⟨k, e, q⟩ := h
 have hl := line63
 have hs : sizeLine = 16777216 := sizeLine_eq
 cases x with
 | non =>
   cases rx
   have e' : k = false := e
   subst e'
   exact truthy_none ⟨H, I, q⟩
 | bl b =>
   cases rx
   have e' : k = b := e
   subst e'
   exact wpAny_truthy_bool ⟨H, I, q⟩
 | int i =>
   obtain ⟨t, rfl⟩ := rx
   have e' : k = (i != 0) := e
   subst e'
   exact PySem.P.truthy_int ⟨H, I, q⟩
 | str y =>
   obtain ⟨t, rfl⟩ := rx
   obtain ⟨hy, e'⟩ : y.length ≤ sizeLine ∧ k = ((y.length : Int) != 0) := e
   subst e'
   exact PySem.P.truthy_str (by omega) ⟨H, I.tok _, q⟩
 | byt y =>
   obtain ⟨t, rfl⟩ := rx
   obtain ⟨hy, e'⟩ : y.size ≤ sizeLine ∧ k = ((y.size : Int) != 0) := e
   subst e'
   exact PySem.W.truthy_bytes (by omega) ⟨H, I.tok _, q⟩
 | ref p =>
   cases rx
   have e' : (∃ xs, SqL X.K H p xs ∧ k = !xs.isEmpty) ∨ (∃ xs, SqT X.K H p xs ∧ k = !xs.isEmpty) ∨ ∃ kvs, H p = some (.dK kvs) ∧ k = !kvs.isEmpty := e
   rcases e' with ⟨xs, hx, e'⟩ | ⟨xs, hx, e'⟩ | ⟨kvs, hx, e'⟩
   · subst e'
     obtain ⟨its, r, pl, hz⟩ := I.list hx
     have hlen := r.length
     exact wpAny_truthy_list pl.isList (by simp only [List.size_toArray]; omega) ⟨H, I.tok _, by rw [isEmpty_of r]; exact q⟩
   · subst e'
     obtain ⟨its, r, pl, hz⟩ := I.tuple hx
     have hlen := r.length
     exact truthy_tuple pl (by simp only [List.size_toArray]; omega) ⟨H, I.tok _, by rw [isEmpty_of r]; exact q⟩
   · subst e'
     obtain ⟨hz, hS, vs, r, m⟩ : kvs.length ≤ sizeLine ∧ (p == sysModules) = false ∧ ∃ vs, KV kvs vs ∧ s.heap.DictOf (mixKind X.prog X.w) p vs := I.hok p _ hx
     have hlen : kvs.length = vs.length := Paired.length r
     exact wpAny_truthy_dict hS m (by omega) ⟨H, I.tok _, by rw [isEmpty_kv r]; exact q⟩
 | _ => exact (show False from e).elim
theorem pt_truth (ha : PE X a ta) (he : ∀ whole, isTrue a X.env whole = (do let v ← whole; standAt a.pos; holding [v] (truthy v))) :
   PT X a (fun σ H Q => ta σ H fun x H' => ∃ k, TruV X.K x H' k ∧ Q k H') := by
 intro pins s σ H Q I h
 exact isTrue_plain (thn (ha pins s σ H _ I h) fun v s1 ⟨x, H1, I1, r1, q1⟩ => tru_ok pins s1 σ H1 x v Q I1 r1 q1) (he _)
theorem vals1 {x : V} {us : List Value} (r : Vals [x] us) : ∃ u, us = [u] ∧ RelV x u := by
 cases r with
 | cons r1 r2 => cases r2; exact ⟨_, rfl, r1⟩
theorem vals2 {x y : V} {us : List Value} (r : Vals [x, y] us) : ∃ u w', us = [u, w'] ∧ RelV x u ∧ RelV y w' := by
 cases r with
 | cons r1 r2 =>
   cases r2 with
   | cons r3 r4 => cases r4; exact ⟨_, _, rfl, r1, r3⟩
end
end L2
namespace L2
open PySem PySem.Spec PyProof.Rows
structure ObjM (h : Heap) (x dx C : Addr) (mA : Str → Option Value) : Prop where
 obj : h.get? x = some (PySem.W.instObj C dx)
 ns : h.Ns1 dx mA
 ne : dx ≠ x
theorem lookIn_ns {h : Heap} {dx : Addr} {mA : Str → Option Value} (n : h.Ns1 dx mA) : ∃ od, h.get? dx = some od ∧ ∀ name, PySem.W.lookIn name od = some (mA name) := by
 obtain ⟨o, es, ep, ho, hd, hk, _, hm⟩ := n
 refine ⟨o, ho, fun name => ?_⟩
 have e := hm name
 unfold nsFind findBy at e
 rw [← Array.find?_toList] at e
 unfold PySem.W.lookIn
 rw [hd]
 dsimp only
 split
 · rename_i y q
   rw [q] at e
   exact congrArg some e
 · rename_i q
   rw [q] at e
   have a : es.toList.any (·.refKey) = false := by
     rw [List.any_eq_false]
     intro y hy
     obtain ⟨z, t, hkey⟩ := hk y (Array.mem_toList_iff.mp hy)
     simp [DictEntry.refKey, hkey]
   have a' : ¬ es.toList.any (·.refKey) = true := by rw [a]; exact Bool.false_ne_true
   rw [if_neg a']
   exact congrArg some e
theorem ObjM.look {h : Heap} {x dx C : Addr} {mA : Str → Option Value} (I : ObjM h x dx C mA) : ∃ od, PySem.W.InstAt h x (PySem.W.instObj C dx) C (some od) ∧ ∀ name, PySem.W.lookIn name od = some (mA name) :=
 let ⟨od, ho, hl⟩ := lookIn_ns I.ns
 ⟨od, ⟨I.obj, rfl, rfl, ho⟩, hl⟩
section
variable {prog : Program} {w : World} {A : Around} {E : Value → Shared → Prop} {s : Shared} {K : PySem.W.Frag} {x dx C f : Addr} {mA : Str → Option Value} {name : Str} {v : Value}
theorem get_map {expr : Bool} {Q : Value → Shared → Prop} (X : K.In s.heap) (I : ObjM s.heap x dx C mA) (hg : PySem.W.plainGet K C name = true) (hh : PySem.W.hasDictIn K C = true)
   (ha : PySem.W.findIn K (.ref C) name = some none) (hv : mA name = some v) (hv' : PySem.W.handedIn v = true) (h : Q v { s with toks := s.toks + 1 }) :
   wpAny (model prog w) A (getAttr (.ref x) name expr) Q E s := by
 obtain ⟨od, J, hl⟩ := I.look
 exact PySem.W.get_value X J (PySem.W.plainGet_of hg).1 (PySem.W.findObj_own hh ha rfl (by rw [hl, hv])) hv' h
theorem get_meth {pl : Sem Bool} {Q : Value × List Value → Shared → Prop} (X : K.In s.heap) (I : ObjM s.heap x dx C mA) (hg : PySem.W.plainGet K C name = true)
   (hf : PySem.W.findIn K (.ref C) name = some (some (.ref f))) (ht : PySem.W.isFn K (.ref f) = true) (hv : mA name = none) (h : Q (.ref f, [.ref x]) s) :
   wpAny (model prog w) A (getMethod (.ref x) name pl) Q E s := by
 obtain ⟨od, J, hl⟩ := I.look
 exact PySem.W.method_fn X J (PySem.W.plainGet_of hg).1 (PySem.W.plainGet_of hg).2 hf (beq_iff_eq.mp ht) (by show (PySem.W.lookIn name od).map (·.isSome) = some false; rw [hl, hv]; rfl) h
theorem set_map {ns : List Str} {Q : Unit → Shared → Prop} (X : K.In s.heap) (I : ObjM s.heap x dx C mA)
   (hs : PySem.W.findIn K (.ref C) "__setattr__" = some (some (.builtin "object.__setattr__"))) (hp : PySem.W.plainOver K C = true) (ht : PySem.W.takerIn K C name = some none) (hh : PySem.W.hasDictIn K C = true)
   (hw : PySem.Within mA ns) (hsz : ns.length ≤ sizeLine)
   (h : ∀ h', ObjM h' x dx C (fun y => if y = name then some v else mA y) → Heap.SameBut dx s.heap h' → Q () { s with heap := h', toks := s.toks + 2 }) :
   wpAny (model prog w) A (setAttr (.ref x) name v) Q E s := by
 obtain ⟨od, J, hl⟩ := I.look
 refine PySem.W.set_plain X J hs (PySem.W.osa_open (s := { s with toks := s.toks + 1 }) (r := none) X J hp ht fun b => ?_)
 obtain ⟨cd, hc, hd'⟩ := PySem.W.any_some hh
 have hx : s.heap.get? x = some ⟨.ref C, some dx, .plain, #[]⟩ := I.obj
 refine wpAny_bind (wpAny_pure (wpAny_bind (wpAny_bind (wpAny_loadPart hx (wpAny_bind (PySem.W.Looks.here (s := { s with toks := s.toks + 1 }) (PySem.W.looks_clsIn X hc) ?_))))))
 rw [hd']
 refine wpAny_pure (a := some dx) (wpAny_bind (wpAny_pure (wpAny_bind ?_)))
 refine wpAny_nsSet1 (s := { s with toks := s.toks + 1 }) I.ns fun h' hn2 hs2 => ?_
 obtain ⟨oD, esD, epD, hoD, hdD, hcD⟩ := hn2.count (PySem.Within.cons name v hw)
 refine wpAny_bind (wpAny_lookBehind hoD (by rw [hdD]; exact pastItsLine_dict (Nat.le_trans hcD (by rw [List.length_cons]; omega))) ?_)
 exact wpAny_pure (h _ ⟨(hs2.2 _ (Ne.symm I.ne)).trans I.obj, hn2, I.ne⟩ hs2)
theorem make_map {R : Result → Shared → Prop} {vs : List Value} {kw : List (Str × Value)} (X : K.In s.heap) (hm : PySem.W.makesIn K C = true)
   (hi : PySem.W.findIn K (.ref C) "__init__" = some (some (.ref f))) (hf : PySem.W.typeIn K (.ref f) = some (.type "function"))
   (h : codeAny (model prog w) (A.under (.builtin "type.__call__" ⟨.ref C :: vs, kw⟩)) (.call (.ref f) ⟨.ref (s.heap.objs.size + 1) :: vs, kw⟩) (PySem.W.InitBack (s.heap.objs.size + 1) R)
     { s with heap := (s.heap.push PySem.W.emptyDict).push (PySem.W.instObj C s.heap.objs.size) }) :
   codeAny (model prog w) A (.call (.ref C) ⟨vs, kw⟩) R s := by
 obtain ⟨hh, g, d, t, os⟩ := s
 exact PySem.W.make_core (PySem.W.makes_of X hm) (PySem.W.looks_findIn X hi) (fun self => PySem.W.bind_fn X self hf) (.inl rfl) h
end
def putF (f : Str) (v : V) : List (Str × V) → List (Str × V)
 | [] => [(f, v)]
 | (g, x) :: r => if g = f then (g, v) :: r else (g, x) :: putF f v r
theorem lookup_putF (f g : Str) (v : V) : ∀ fs : List (Str × V), (putF f v fs).lookup g = if g = f then some v else fs.lookup g
 | [] => by
   show List.lookup g [(f, v)] = _
   by_cases h : g = f
   · have hb : (g == f) = true := beq_iff_eq.mpr h
     simp only [List.lookup, hb, if_pos h]
   · have hb : (g == f) = false := beq_eq_false_iff_ne.mpr h
     simp only [List.lookup, hb, if_neg h]
 | (k, x) :: r => by
   have ih := lookup_putF f g v r
   rw [show putF f v ((k, x) :: r) = (if k = f then (k, v) :: r else (k, x) :: putF f v r) from rfl]
   by_cases hk : k = f
   · rw [if_pos hk]
     by_cases h : g = k
     · have hb : (g == k) = true := beq_iff_eq.mpr h
       simp only [List.lookup, hb, if_pos (h.trans hk)]
     · have hb : (g == k) = false := beq_eq_false_iff_ne.mpr h
       simp only [List.lookup, hb, if_neg (fun e : g = f => h (e.trans hk.symm))]
   · rw [if_neg hk]
     by_cases h : g = k
     · have hb : (g == k) = true := beq_iff_eq.mpr h
       simp only [List.lookup, hb, if_neg (fun e : g = f => hk (h.symm.trans e))]
     · have hb : (g == k) = false := beq_eq_false_iff_ne.mpr h
       simp only [List.lookup, hb]
       exact ih
theorem keys_putF (f : Str) (v : V) : ∀ fs : List (Str × V), f ∈ (putF f v fs).map (·.1) ∧ ∀ g, g ∈ fs.map (·.1) → g ∈ (putF f v fs).map (·.1)
 | [] => ⟨by simp [putF], fun g h => by simp at h⟩
 | (k, x) :: r => by
   obtain ⟨i1, i2⟩ := keys_putF f v r
   rw [show putF f v ((k, x) :: r) = (if k = f then (k, v) :: r else (k, x) :: putF f v r) from rfl]
   by_cases hk : k = f
   · rw [if_pos hk]
     subst hk
     exact ⟨by simp, fun g h => by simpa using h⟩
   · rw [if_neg hk]
     refine ⟨?_, fun g h => ?_⟩
     · rw [List.map_cons]
       exact List.mem_cons_of_mem _ i1
     · rw [List.map_cons] at h ⊢
       rcases List.mem_cons.mp h with e | e
       · exact List.mem_cons.mpr (.inl e)
       · exact List.mem_cons_of_mem _ (i2 g e)
theorem length_putF (f : Str) (v : V) : ∀ fs : List (Str × V), (putF f v fs).length ≤ fs.length + 1
 | [] => by simp [putF]
 | (k, x) :: r => by
   have ih := length_putF f v r
   rw [show putF f v ((k, x) :: r) = (if k = f then (k, v) :: r else (k, x) :: putF f v r) from rfl]
   by_cases hk : k = f
   · rw [if_pos hk, List.length_cons, List.length_cons]; omega
   · rw [if_neg hk, List.length_cons, List.length_cons]; omega
theorem RelO.some_of {v : V} {o : Option Value} (r : RelO (some v) o) : ∃ u, o = some u ∧ RelV v u := by
 cases o with
 | none => exact (show False from r).elim
 | some u => exact ⟨u, rfl, r⟩
theorem RelO.none_of {o : Option Value} (r : RelO none o) : o = none := by
 cases o with
 | none => rfl
 | some u => exact (show False from r).elim
theorem handed_of {v : V} {u : Value} (r : RelV v u) : PySem.W.handedIn u = true := by
 cases v with
 | non => cases (show u = Value.none from r); rfl
 | bl b => cases (show u = Value.bool b from r); rfl
 | int i => obtain ⟨t, e⟩ := (show ∃ t, u = Value.int i t from r); cases e; rfl
 | str x => obtain ⟨t, e⟩ := (show ∃ t, u = Value.str x t from r); cases e; rfl
 | byt b => obtain ⟨t, e⟩ := (show ∃ t, u = Value.bytes b t from r); cases e; rfl
 | flt b => obtain ⟨t, e⟩ := (show ∃ t, u = Value.float b t from r); cases e; rfl
 | ref a => cases (show u = Value.ref a from r); rfl
 | ty n => cases (show u = Value.type n from r); rfl
section
variable {P : Program} {w : World} {H H' : Hp} {h h' : Heap} {a C dx : Addr} {fs fs' : List (Str × V)}
theorem ins_get (hok : HOk P w H h) (e : H a = some (.ins C dx fs)) : ∃ mA, ObjM h a dx C mA ∧ (∀ f, RelO (fs.lookup f) (mA f)) ∧ PySem.Within mA (fs.map (·.1)) ∧ fs.length ≤ 1000 ∧ H dx = some (.own a) := by
 obtain ⟨d, z, ne, ob, mA, n, r, q⟩ := (show ObjOk P w H h a (.ins C dx fs) from hok a _ e)
 exact ⟨mA, ⟨ob, n, ne⟩, r, q, z, d⟩
end
structure Cls (K : PySem.W.Frag) (C : Addr) : Prop where
 pg : PySem.W.plainGet K C Str.empty = true
 hd : PySem.W.hasDictIn K C = true
 po : PySem.W.plainOver K C = true
 sa : PySem.W.findIn K (.ref C) "__setattr__" = some (some (.builtin "object.__setattr__"))
theorem Cls.get {K : PySem.W.Frag} {C : Addr} (c : Cls K C) (f : Str) : PySem.W.plainGet K C f = true := c.pg
def NoAttr (K : PySem.W.Frag) (C : Addr) (f : Str) : Prop := PySem.W.findIn K (.ref C) f = some none
theorem NoAttr.taker {K : PySem.W.Frag} {C : Addr} {f : Str} (n : NoAttr K C f) : PySem.W.takerIn K C f = some none := by
 unfold PySem.W.takerIn
 rw [show PySem.W.findIn K (.ref C) f = some none from n]
 rfl
structure Con (K : PySem.W.Frag) (C : Addr) (f : Str) (v : V) (u : Value) : Prop where
 at_ : PySem.W.findIn K (.ref C) f = some (some u)
 rel : RelV v u
 get : PySem.W.specialIn K u "__get__" = some none
 cp : PySem.W.copiedNames.contains f = false
structure Meth (K : PySem.W.Frag) (C : Addr) (m : Str) (f : Addr) : Prop where
 at_ : PySem.W.findIn K (.ref C) m = some (some (.ref f))
 fn : PySem.W.isFn K (.ref f) = true
 kp : PySem.W.keepIn K (.ref f) = true
section
variable {X : Cx} {pins : List (Addr × Obj)} {σ : St} {H : Hp} {s : Shared} {a C dx : Addr} {fs : List (Str × V)} {f : Str} {v : V} {A : Around} {E : Value → Shared → Prop}
theorem getattr_ok {b : Bool} {Q : Value → Shared → Prop} (I : Inv X pins σ H s) (e : H a = some (.ins C dx fs)) (c : Cls X.K C) (n : NoAttr X.K C f) (l : fs.lookup f = some v)
   (h : ∀ u s', Inv X pins σ H s' → RelV v u → Q u s') : wpAny (model X.prog X.w) A (getAttr (.ref a) f b) Q E s := by
 obtain ⟨mA, O, r, _, _, _⟩ := ins_get I.hok e
 obtain ⟨u, hu, ru⟩ := RelO.some_of (v := v) (o := mA f) (by rw [← l]; exact r f)
 exact get_map I.kIn O (c.get f) c.hd n hu (handed_of ru) (h u _ (I.tok _) ru)
theorem getmeth_ok {m : Str} {g : Addr} {pl : Sem Bool} {Q : Value × List Value → Shared → Prop} (I : Inv X pins σ H s) (e : H a = some (.ins C dx fs)) (c : Cls X.K C) (k : Meth X.K C m g) (l : fs.lookup m = none)
   (h : Q (.ref g, [.ref a]) s) : wpAny (model X.prog X.w) A (getMethod (.ref a) m pl) Q E s := by
 obtain ⟨mA, O, r, _, _, _⟩ := ins_get I.hok e
 have hn : mA m = none := RelO.none_of (by rw [← l]; exact r m)
 exact get_meth I.kIn O (c.get m) k.at_ k.fn hn h
theorem setattr_ok {y : V} {u : Value} {Q : Unit → Shared → Prop} (I : Inv X pins σ H s) (e : H a = some (.ins C dx fs)) (c : Cls X.K C) (n : NoAttr X.K C f) (hl : fs.length < 1000) (ry : RelV y u)
   (h : ∀ s', Inv X pins σ (upd H a (.ins C dx (putF f y fs))) s' → Q () s') : wpAny (model X.prog X.w) A (setAttr (.ref a) f u) Q E s := by
 obtain ⟨mA, O, r, wi, _, ho⟩ := ins_get I.hok e
 have hz : (fs.map (·.1)).length ≤ sizeLine := by rw [List.length_map, sizeLine_eq]; omega
 refine set_map I.kIn O c.sa c.po n.taker c.hd wi hz fun h' O' sb => h _ ?_
 have hd : ∃ o, h'.get? dx = some o := let ⟨o, _, _, e', _⟩ := O'.ns; ⟨o, e'⟩
 refine I.write (x := a) (e := dx) (by rw [e]; exact True.intro) (.inr ho) (fun b q hb z => (sb.2 b hb).trans z) hd ?_
 refine ⟨by rw [upd_ne O.ne]; exact ho, ?_, O.ne, O'.obj, _, O'.ns, fun g => ?_, fun g hg => ?_⟩
 · have := length_putF f y fs; omega
 · show RelO ((putF f y fs).lookup g) (if g = f then some u else mA g)
   rw [lookup_putF]
   by_cases q : g = f
   · rw [if_pos q, if_pos q]; exact ry
   · rw [if_neg q, if_neg q]; exact r g
 · by_cases q : g = f
   · rw [q]; exact (keys_putF f y fs).1
   · refine (keys_putF f y fs).2 g (wi g fun z => hg ?_)
     show (if g = f then some u else mA g) = none
     rw [if_neg q]; exact z
theorem Inv.made (I : Inv X pins σ H s) : Inv X pins σ (upd (upd H s.heap.objs.size (.own (s.heap.objs.size + 1))) (s.heap.objs.size + 1) (.ins C s.heap.objs.size []))
   { s with heap := (s.heap.push PySem.W.emptyDict).push (PySem.W.instObj C s.heap.objs.size) } := by
 have e1 : (s.heap.push PySem.W.emptyDict).get? s.heap.objs.size = some PySem.W.emptyDict := Heap.get?_push_size s.heap rfl
 have e2 : ((s.heap.push PySem.W.emptyDict).push (PySem.W.instObj C s.heap.objs.size)).get? (s.heap.objs.size + 1) = some (PySem.W.instObj C s.heap.objs.size) := by
   have := Heap.get?_push_size (s.heap.push PySem.W.emptyDict) (o := PySem.W.instObj C s.heap.objs.size) rfl
   rwa [Heap.size_push] at this
 have e3 : (s.heap.push PySem.W.emptyDict).Ns s.heap.objs.size (fun _ => none) := ⟨PySem.W.emptyDict, #[], _, e1, rfl, (fun e he => absurd he (by simp)), fun _ => rfl⟩
 have I1 := I.laid (a := s.heap.objs.size) (o := .own (s.heap.objs.size + 1)) (h' := s.heap.push PySem.W.emptyDict) (t' := s.toks) (fun b u q => Heap.get?_push_of_some _ q) (Nat.le_refl _) ⟨_, e1⟩
 refine I1.laid (a := s.heap.objs.size + 1) (o := .ins C s.heap.objs.size []) (t' := s.toks) (fun b u q => Heap.get?_push_of_some _ q) (Nat.le_of_eq (Heap.size_push _ _)) ?_
 have ne : s.heap.objs.size ≠ s.heap.objs.size + 1 := Nat.ne_of_lt (Nat.lt_succ_self _)
 refine ⟨by rw [upd_ne ne, upd_same], Nat.zero_le _, ne, e2, fun _ => none, (Heap.Ns1.of_empty e3).at fun o q => Heap.get?_push_of_some _ q, fun _ => True.intro, fun y hy => absurd rfl hy⟩
theorem attr_of {prog : Program} {w : World} {env : Env} {e : Expr} {f : Str} {pos : Pos} {s : Shared} {Q : Value → Shared → Prop} (hb : attributeBase e f env (eval e env) = eval e env)
   (h : wpAny (model prog w) A (eval e env) (fun o s₁ => wpAny (model prog w) A (getAttr o f true) Q E s₁) E s) : wpAny (model prog w) A (eval (.Attribute e f pos) env) Q E s :=
 Attribute_any_ h (by rw [arm_eval_Attribute, hb])
end
def tFld (K : PySem.W.Frag) (ta : TE) (f : Str) : TE := fun σ H Q => ta σ H fun x H1 => ∃ a C dx fs v, x = .ref a ∧ H1 a = some (.ins C dx fs) ∧ Cls K C ∧ NoAttr K C f ∧ fs.lookup f = some v ∧ Q v H1
def sFld (K : PySem.W.Frag) (ta tv : TE) (f : Str) : TS := fun D σ H => tv σ H fun y H1 => ta σ H1 fun x H2 => ∃ a C dx fs, x = .ref a ∧ H2 a = some (.ins C dx fs) ∧ Cls K C ∧ NoAttr K C f ∧ fs.length < 1000 ∧
 D.nx σ (upd H2 a (.ins C dx (putF f y fs)))
section
variable {X : Cx} {o e value : Expr} {f : Str} {pos pos' tpos : Pos} {ta tv : TE}
theorem pe_fld (he : PE X e ta) (hb : attributeBase e f X.env (eval e X.env) = eval e X.env) : PE X (.Attribute e f pos) (tFld X.K ta f) := by
 intro pins s σ H Q I h
 refine attr_of hb (thn (he pins s σ H _ I h) fun u s1 ⟨x, H1, I1, rx, a, C, dx, fs, v, ex, ea, c, n, l, q⟩ => ?_)
 subst ex
 obtain rfl : u = Value.ref a := rx
 exact getattr_ok I1 ea c n l fun u' s2 I2 ru => ⟨v, H1, I2, ru, q⟩
theorem ps_fld (ha : PE X o ta) (hv : PE X value tv) (hs : swapsWith value (some (.Attribute o f pos')) pos.line X.env = pure false) : PS X (.Assign [.Attribute o f pos'] value pos) (sFld X.K ta tv f) := by
 intro pins s σ H D I h
 refine plainObj_wpAny_Assign_Attribute (thn (hv pins s σ H _ I h) fun u s1 ⟨y, H1, I1, ry, q⟩ => thn (ha pins s1 σ H1 _ I1 q) fun ov s2 ⟨x, H2, I2, rx, a, C, dx, fs, ex, ea, c, n, l, q2⟩ => ?_) hs
 subst ex
 obtain rfl : ov = Value.ref a := rx
 exact setattr_ok I2 ea c n l ry fun s3 I3 => ⟨σ, _, I3, q2⟩
theorem methcall_of {pl : Sem Bool} {m : Str} {apos : Pos} {args : List Expr} {pins : List (Addr × Obj)} {s : Shared} {σ : St} {H : Hp} {Q : Value → Shared → Prop} {te : TE} (he : PE X e te) (I : Inv X pins σ H s)
   (h : te σ H fun x H1 => ∃ a C dx fs g, x = .ref a ∧ H1 a = some (.ins C dx fs) ∧ Cls X.K C ∧ Meth X.K C m g ∧ fs.lookup m = none ∧
     ∀ s1, Inv X pins σ H1 s1 → wpAny (model X.prog X.w) X.A (callWith pos (.ref g) [.ref a] (backTo pos (starEach args X.env)) (backToKw pos (keywordEach [] X.env))) Q X.xe s1)
   (ht : eval (.Call (.Attribute e m apos) args [] pos) X.env = (do
     let ov ← eval e X.env
     standAt apos.atName
     let (f, first) ← holding [ov] (getMethod ov m pl)
     callWith pos f first (backTo pos (starEach args X.env)) (backToKw pos (keywordEach [] X.env)))) :
   wpAny (model X.prog X.w) X.A (eval (.Call (.Attribute e m apos) args [] pos) X.env) Q X.xe s := by
 refine PySem.W.methodCall_KW (pl := pl) (thn (he pins s σ H _ I h) fun u s1 ⟨x, H1, I1, rx, a, C, dx, fs, g, ex, ea, c, k, l, q⟩ => ?_) ht
 subst ex
 obtain rfl : u = Value.ref a := rx
 exact getmeth_ok I1 ea c k l (q s1 I1)
end
section
variable {X : Cx} {pins : List (Addr × Obj)} {σ : St} {H : Hp} {s : Shared} {A : Around} {E : Value → Shared → Prop} {Q : Value → Shared → Prop} {c : Value} {b : Bool}
inductive TyOf (K : PySem.W.Frag) (H : Hp) : V → Value → Prop where
 | non : TyOf K H .non (.type "NoneType")
 | bl (x : Bool) : TyOf K H (.bl x) (.type "bool")
 | int (i : Int) : TyOf K H (.int i) (.type "int")
 | str (x : Str) : TyOf K H (.str x) (.type "str")
 | flt (x : UInt64) : TyOf K H (.flt x) (.type "float")
 | lst {a : Addr} {xs : List V} (e : H a = some (.lst xs)) : TyOf K H (.ref a) (.type "list")
 | frz {a : Addr} {o : Obj} {xs : List V} (e : H a = some (.frz o (.lst xs))) : TyOf K H (.ref a) (.type "list")
 | tup {a : Addr} {xs : List V} (e : H a = some (.tup xs)) : TyOf K H (.ref a) (.type "tuple")
 | dK {a : Addr} {kvs : List (Key × V)} (e : H a = some (.dK kvs)) : TyOf K H (.ref a) (.type "dict")
 | dT {a : Addr} {kvs : List (List Key × V)} (e : H a = some (.dT kvs)) : TyOf K H (.ref a) (.type "dict")
 | ins {a C dx : Addr} {fs : List (Str × V)} (e : H a = some (.ins C dx fs)) (cl : Cls K C) (ha : PySem.W.findIn K (.ref C) "__class__" = some (some (.builtin "object.__class__")))
     (hn : PySem.W.specialIn K (.builtin "object.__class__") "__get__" = some (some (.builtin "getset_descriptor.__get__"))) (htk : PySem.W.takesIn K (.builtin "object.__class__") = some true)
     (hm : PySem.W.mroIn K C (.type "object") = some true) : TyOf K H (.ref a) (.ref C)
theorem isinst_ok {x : V} {u t : Value} (I : Inv X pins σ H s) (rx : RelV x u) (ty : TyOf X.K H x t) (e : PySem.W.kitOne X.K t c = some b) (h : ∀ tk, Q (.bool b) { s with toks := tk }) :
   wpAny (model X.prog X.w) A (call (.builtin "isinstance") [u, c]) Q E s := by
 cases ty with
 | non => cases (show u = Value.none from rx); exact PySem.W.kia_one PySem.W.kitx_none I.kIn True.intro e (fun z => nomatch z) h
 | bl y => cases (show u = Value.bool y from rx); exact PySem.W.kia_one PySem.W.kitx_bool I.kIn True.intro e (fun z => nomatch z) h
 | int i => obtain ⟨t, q⟩ := (show ∃ t, u = Value.int i t from rx); cases q; exact PySem.W.kia_one PySem.W.kitx_int I.kIn True.intro e (fun z => nomatch z) h
 | str y => obtain ⟨t, q⟩ := (show ∃ t, u = Value.str y t from rx); cases q; exact PySem.W.kia_one PySem.W.kitx_str I.kIn True.intro e (fun z => nomatch z) h
 | flt y => obtain ⟨t, q⟩ := (show ∃ t, u = Value.float y t from rx); cases q; exact PySem.W.kia_one PySem.W.kitx_float I.kIn True.intro e (fun z => nomatch z) h
 | @lst a xs ea =>
   cases (show u = Value.ref a from rx)
   obtain ⟨_, _, n, _, h1⟩ := (show ObjOk X.prog X.w H s.heap a (.lst xs) from I.hok a _ ea)
   exact PySem.W.kia_one PySem.W.kitx_list I.kIn ⟨_, h1, rfl⟩ e (fun z => nomatch z) h
 | @frz a ob xs ea =>
   cases (show u = Value.ref a from rx)
   obtain ⟨_, _, _, n, _, h1⟩ := (show ObjOk X.prog X.w H s.heap a (.frz ob (.lst xs)) from I.hok a _ ea)
   exact PySem.W.kia_one PySem.W.kitx_list I.kIn ⟨_, h1, rfl⟩ e (fun z => nomatch z) h
 | @tup a xs ea =>
   cases (show u = Value.ref a from rx)
   obtain ⟨_, _, _, p⟩ := (show ObjOk X.prog X.w H s.heap a (.tup xs) from I.hok a _ ea)
   obtain ⟨o, h1, h2, _⟩ := p
   exact PySem.W.kia_one PySem.W.kitx_tuple I.kIn ⟨o, h1, h2⟩ e (fun z => nomatch z) h
 | @dK a kvs ea =>
   cases (show u = Value.ref a from rx)
   obtain ⟨_, _, vs, _, p⟩ := (show ObjOk X.prog X.w H s.heap a (.dK kvs) from I.hok a _ ea)
   obtain ⟨o, es, ep, h1, h2, _⟩ := p
   exact PySem.W.kia_one PySem.W.kitx_dict I.kIn ⟨o, h1, h2.1⟩ e (fun z => nomatch z) h
 | @dT a kvs ea =>
   cases (show u = Value.ref a from rx)
   obtain ⟨_, _, xs, _, o, es, ep, h1, h2, _⟩ := (show ObjOk X.prog X.w H s.heap a (.dT kvs) from I.hok a _ ea)
   exact PySem.W.kia_one PySem.W.kitx_dict I.kIn ⟨o, h1, h2.1⟩ e (fun z => nomatch z) h
 | @ins a C dx fs ea cl ha hn htk hm =>
   cases (show u = Value.ref a from rx)
   obtain ⟨mA, O, _⟩ := ins_get I.hok ea
   obtain ⟨od, J, _⟩ := O.look
   exact PySem.W.kia_one (PySem.W.kitx_own (cl.get _) cl.hd ha hn htk hm) I.kIn J e (fun z => nomatch z) h
end
end L2
namespace L2
open PySem PySem.Spec PyProof.Rows
structure Room (k : Nat) (A : Around) : Prop where
 hd : A.handled = none
 dp : A.depth + 3 * k + 5 < recursionLimit
 un : A.units + 16 * k + 200 < cLine
theorem Room.mono {j k : Nat} {A : Around} (r : Room k A) (h : j ≤ k) : Room j A := ⟨r.hd, by have := r.dp; omega, by have := r.un; omega⟩
theorem Room.deeper {k : Nat} {A : Around} (r : Room (k + 1) A) (env : Env) : Room k (A.deeper env) :=
 ⟨r.hd, by have := r.dp; show A.depth + 1 + 3 * k + 5 < _; omega, by have := r.un; show A.units + 3 + 16 * k + 200 < _; omega⟩
theorem Room.in1 {k : Nat} {A : Around} (r : Room (k + 1) A) : Room k A.in1 :=
 ⟨r.hd, by have := r.dp; show A.depth + 3 * k + 5 < _; omega, by have := r.un; show A.units + 1 + 16 * k + 200 < _; omega⟩
theorem make_depth {A : Around} {C : Addr} {us : List Value} {kw : List (Str × Value)} : (A.under (.builtin "type.__call__" ⟨.ref C :: us, kw⟩)).depth = A.depth + 1 := by
 first | rfl | simp [Around.under, Code.weight, Code.isCreation, Code.isGuard, Code.isCaller, Code.frames, Code.isFrame, guardIds]
theorem make_units {A : Around} {C : Addr} {us : List Value} {kw : List (Str × Value)} : (A.under (.builtin "type.__call__" ⟨.ref C :: us, kw⟩)).units = A.units + 1 := by
 first | rfl | simp [Around.under, Code.cUnits, Code.frames, Code.isFrame]
theorem Room.make {k : Nat} {A : Around} (r : Room (k + 1) A) (C : Addr) (us : List Value) (kw : List (Str × Value)) : Room k (A.under (.builtin "type.__call__" ⟨.ref C :: us, kw⟩)) :=
 ⟨r.hd, by have := r.dp; rw [make_depth]; omega, by have := r.un; rw [make_units]; omega⟩
theorem Room.depth {k : Nat} {A : Around} (r : Room k A) : A.depth < recursionLimit := by have := r.dp; omega
theorem Room.units {k : Nat} {A : Around} (r : Room k A) : A.units + 64 < cLine := by have := r.un; omega
theorem Room.units0 {k : Nat} {A : Around} (r : Room k A) : A.units < cLine := by have := r.un; omega
def tNil : TA := fun _ H Q => Q [] H
def tCons (ta : TE) (tr : TA) : TA := fun σ H Q => ta σ H fun x H1 => tr σ H1 fun xs H2 => Q (x :: xs) H2
section
variable {X : Cx} {e : Expr} {es : List Expr} {te : TE} {t : TA} {pos : Pos}
theorem pa_nil : PA X [] tNil := fun _ _ _ _ H Q I h => Calls.spliced_nil ⟨[], H, I, .nil, h⟩
theorem pa_cons (ha : PE X e te) (hr : PA X es t) (hs : starEach (e :: es) X.env = (false, eval e X.env) :: starEach es X.env := by rfl) : PA X (e :: es) (tCons te t) := by
 intro pos pins s σ H Q I h
 rw [hs]
 show wpAny _ _ (spliced ((false, eval e X.env) :: backTo pos (starEach es X.env))) _ _ s
 refine Calls.spliced_cons (thn (ha pins s σ H _ I h) fun u s1 ⟨x, H1, I1, r1, q1⟩ => ?_)
 exact thn (hr pos pins s1 σ H1 _ I1 q1) fun us s2 ⟨xs, H2, I2, r2, q2⟩ => ⟨x :: xs, H2, I2, .cons r1 r2, q2⟩
def tTup (t : TA) : TE := fun σ H Q => t σ H fun xs H1 => xs.length ≤ sizeLine ∧ ∀ p, H1 p = none → Q (.ref p) (upd H1 p (.tup xs))
def tLst (t : TA) : TE := fun σ H Q => t σ H fun xs H1 => xs.length ≤ sizeLine ∧ ∀ p, H1 p = none → Q (.ref p) (upd H1 p (.lst xs))
theorem pe_tup {x1} (h : PA X es t) : PE X (.Tuple es x1 pos) (tTup t) := by
 intro pins s σ H Q I hq
 refine wpAny_Tuple_spliced (thn (h pos pins s σ H _ I hq) fun us s1 ⟨xs, H1, I1, r, z, q⟩ => ⟨by rw [← r.length]; exact z, ?_⟩)
 have hf : H1 s1.heap.objs.size = none := I1.hok.fresh (Nat.le_refl _)
 refine ⟨.ref s1.heap.objs.size, upd H1 s1.heap.objs.size (.tup xs), I1.laid (t' := s1.toks) (fun b u e => Heap.get?_push_of_some _ e) (Nat.le_refl _) ?_, rfl, q _ hf⟩
 exact ⟨z, us, r, ⟨_, Heap.get?_push_size _ rfl, rfl, _, rfl⟩⟩
theorem pe_lst (h : PA X es t) : PE X (.List es pos) (tLst t) := by
 intro pins s σ H Q I hq
 refine wpAny_List_spliced (thn (h pos pins s σ H _ I hq) fun us s1 ⟨xs, H1, I1, r, z, q⟩ => ⟨by rw [← r.length]; exact z, ?_⟩)
 have hf : H1 s1.heap.objs.size = none := I1.hok.fresh (Nat.le_refl _)
 refine ⟨.ref s1.heap.objs.size, upd H1 s1.heap.objs.size (.lst xs), I1.laid (t' := s1.toks) (fun b u e => Heap.get?_push_of_some _ e) (Nat.le_refl _) ?_, rfl, q _ hf⟩
 exact ⟨z, us, 0, r, Heap.get?_push_size _ rfl⟩
end
abbrev Sp := List V → Hp → VK → XK → Prop
abbrev CXT := List Env → Hp → Shared → XK → Value → Shared → Prop
structure Env0 (P : Program) (w : World) (K : PySem.W.Frag) (mg : Str → Option Value) (base : Heap) (A : Around) (outer : List Env) (s : Shared) (H : Hp) : Prop where
 frames : A.frames = some outer
 mod : Mod K mg base
 bs : ∀ b o, base.get? b = some o → s.heap.get? b = some o ∧ H b = none
 bsz : base.objs.size ≤ s.heap.objs.size
 funs : s.heap.FunFrames base outer
 frf : ∀ b ∈ frs outer, H b = none
 hok : HOk P w H s.heap
 bare : AllBare s.gens
def CE (outer : List Env) (P : Program) (w : World) (H : Hp) (s : Shared) (Q : VK) (u : Value) (s' : Shared) : Prop :=
 ∃ v H', s'.os = s.os ∧ AllBare s'.gens ∧ Un (frs outer) [] H H' s.heap s'.heap ∧ HOk P w H' s'.heap ∧ RelV v u ∧ Q v H'
def CR (CX : CXT) (outer : List Env) (P : Program) (w : World) (H : Hp) (s : Shared) (Q : VK) (E : XK) (r : Result) (s' : Shared) : Prop :=
 match r with
 | .ok (.ret u) => CE outer P w H s Q u s'
 | .ok _ => False
 | .error e => CX outer H s E e s'
structure FnOk (P : Program) (w : World) (K : PySem.W.Frag) (mg : Str → Option Value) (base : Heap) (CX : CXT) (k : Nat) (f : Addr) (fd : FuncData) (ps : List Str) (sp : Sp) : Prop where
 len : ∀ vs H Q E, sp vs H Q E → vs.length = ps.length
 run : ∀ (A : Around) (outer : List Env) (s : Shared) (H : Hp) (args : Args) (us : List Value) (vs : List V) (Q : VK) (E : XK), Room k A → Env0 P w K mg base A outer s H → BindsTo s fd args (ps.zip us) → Vals vs us → sp vs H Q E →
   codeAny (model P w) A (.call (.ref f) args) (CR CX outer P w H s Q E) s
theorem FnOk.mono {P : Program} {w : World} {K : PySem.W.Frag} {mg : Str → Option Value} {base : Heap} {CX : CXT} {j k : Nat} {f : Addr} {fd : FuncData} {ps : List Str} {sp : Sp} (F : FnOk P w K mg base CX j f fd ps sp) (h : j ≤ k) :
   FnOk P w K mg base CX k f fd ps sp := ⟨F.len, fun A outer s H args us vs Q E hr => F.run A outer s H args us vs Q E (hr.mono h)⟩
theorem Env0.make {P : Program} {w : World} {K : PySem.W.Frag} {mg : Str → Option Value} {base : Heap} {A : Around} {outer : List Env} {s : Shared} {H : Hp} (e : Env0 P w K mg base A outer s H) (C : Addr) (us : List Value) (kw : List (Str × Value)) :
   Env0 P w K mg base (A.under (.builtin "type.__call__" ⟨.ref C :: us, kw⟩)) outer s H := ⟨by first | exact e.frames | (simpa [Around.under, Code.envs, Code.isFrame, pushEnvs] using e.frames), e.mod, e.bs, e.bsz, e.funs, e.frf, e.hok, e.bare⟩
theorem Env0.in1 {P : Program} {w : World} {K : PySem.W.Frag} {mg : Str → Option Value} {base : Heap} {A : Around} {outer : List Env} {s : Shared} {H : Hp} (e : Env0 P w K mg base A outer s H) :
   Env0 P w K mg base A.in1 outer s H := ⟨e.frames, e.mod, e.bs, e.bsz, e.funs, e.frf, e.hok, e.bare⟩
section
variable {X : Cx} {pins : List (Addr × Obj)} {σ : St} {H : Hp} {s s' : Shared}
theorem Inv.env0 (I : Inv X pins σ H s) : Env0 X.prog X.w X.K X.mg X.base X.A X.stack s H :=
 ⟨I.ok.frames, I.ok.mod, I.bs, Nat.le_trans I.ok.bsz I.sz, I.stack, I.stkFree, I.hok, I.bare⟩
theorem Inv.after {Q : VK} {u : Value} (I : Inv X pins σ H s) (h : CE X.stack X.prog X.w H s Q u s') : EP X pins σ Q u s' := by
 obtain ⟨v, H', os, bare, un, hok, r, q⟩ := h
 obtain ⟨hh, g, d, t, os'⟩ := s'
 obtain rfl : os' = s.os := os
 exact ⟨v, H', I.call (h' := hh) (g' := g) (d' := d) (t' := t) (ch := []) un hok bare (fun b z => absurd z (by simp)), r, q⟩
end
def tCall (sp : Sp) (dvs : List V) (E : XK) (t : TA) : TE := fun σ H Q => t σ H fun vs H1 => sp (vs ++ dvs) H1 Q E
def tMeth (C : Addr) (m : Str) (sp : Sp) (dvs : List V) (E : XK) (ta : TE) (t : TA) : TE := fun σ H Q => ta σ H fun x H1 => ∃ a dx fs, x = .ref a ∧ H1 a = some (.ins C dx fs) ∧ fs.lookup m = none ∧
 t σ H1 fun vs H2 => sp (x :: (vs ++ dvs)) H2 Q E
def tMake (C : Addr) (sp : Sp) (dvs : List V) (E : XK) (t : TA) : TE := fun σ H Q => t σ H fun vs H1 => ∀ x dx, H1 x = none → H1 dx = none → dx ≠ x →
 sp (.ref x :: (vs ++ dvs)) (upd (upd H1 dx (.own x)) x (.ins C dx [])) (fun v H2 => v = .non ∧ Q (.ref x) H2) E
def Binds (K : PySem.W.Frag) (fd : FuncData) (ps : List Str) (ds : List Value) : Prop :=
 ∀ (s : Shared) (us : List Value), K.In s.heap → (us ++ ds).length = ps.length → BindsTo s fd ⟨us, []⟩ (ps.zip (us ++ ds))
theorem Binds.all {K : PySem.W.Frag} {fd : FuncData} {ps : List Str} (h : ∀ us : List Value, us.length = ps.length → bindArgs fd ⟨us, []⟩ = pure (ps.zip us)) : Binds K fd ps [] := fun s us _ hl => by
 rw [List.append_nil] at hl ⊢
 exact .of_eq (h us hl)
def Passes (CX : CXT) (X : Cx) (E : XK) : Prop := ∀ (pins : List (Addr × Obj)) (σ : St) (H : Hp) (s : Shared) (e : Value) (s' : Shared), Inv X pins σ H s → CX X.stack H s E e s' → X.xe e s'
section
variable {X : Cx} {CX : CXT} {k : Nat} {f C : Addr} {fd : FuncData} {ps : List Str} {sp : Sp} {dvs : List V} {ds : List Value} {E : XK} {x m : Str} {p pos apos : Pos} {e o : Expr} {es : List Expr} {ta : TE} {t : TA}
theorem run_fn {pins : List (Addr × Obj)} {σ : St} {H : Hp} {s : Shared} {Q : VK} {us : List Value} {vs : List V} (F : FnOk X.prog X.w X.K X.mg X.base CX k f fd ps sp) (hr : Room k X.A) (hb : Binds X.K fd ps ds) (hd : Vals dvs ds) (hx : Passes CX X E)
   (I : Inv X pins σ H s) (r : Vals vs us) (h : sp (vs ++ dvs) H Q E) : wpAny (model X.prog X.w) X.A (call (.ref f) us) (EP X pins σ Q) X.xe s := by
 have r2 : Vals (vs ++ dvs) (us ++ ds) := r.append hd
 have hl : (us ++ ds).length = ps.length := by rw [← r2.length]; exact F.len _ _ _ _ h
 refine wpAny_call (codeAny_mono (F.run X.A X.stack s H ⟨us, []⟩ (us ++ ds) (vs ++ dvs) Q E hr I.env0 (hb s us I.kIn hl) r2 h) fun r s' hq => ?_)
 cases r with
 | error e => exact hx pins σ H s e s' I hq
 | ok fl =>
   cases fl with
   | ret u => exact I.after hq
   | next => exact False.elim hq
   | brk => exact False.elim hq
   | cont => exact False.elim hq
theorem pe_call (F : FnOk X.prog X.w X.K X.mg X.base CX k f fd ps sp) (hr : Room k X.A) (hg : Gl X x) (hm : X.mg x = some (.ref f)) (hk : PySem.W.keepIn X.K (.ref f) = true) (hb : Binds X.K fd ps ds) (hd : Vals dvs ds) (hx : Passes CX X E)
   (ha : PA X (e :: es) t) (hdb : (x == ("__debug__" : Str)) = false := by decide) (he : starEach (e :: es) X.env = (false, eval e X.env) :: starEach es X.env := by rfl) (hpl : (backTo pos (starEach es X.env)).any (·.1) = false := by rfl) :
   PE X (.Call (.Name x p) (e :: es) [] pos) (tCall sp dvs E t) := by
 intro pins s σ H Q I h
 refine wpAny_Call_Name_kw (ld_glob I hg hm ?_ hdb)
 refine PySem.W.callWith_K (h₀ := X.base) I.ok.mod.kin hk (thn (ha pos pins s σ H _ I h) fun us s1 ⟨vs, H1, I1, r, q⟩ => ⟨I1.kIn, ?_⟩) he hpl
 exact run_fn F hr hb hd hx I1 r q
theorem pe_meth {pl : Sem Bool} (he : PE X o ta) (c : Cls X.K C) (hm : Meth X.K C m f) (F : FnOk X.prog X.w X.K X.mg X.base CX k f fd ps sp) (hr : Room k X.A) (hb : Binds X.K fd ps ds) (hd : Vals dvs ds) (hx : Passes CX X E) (ha : PA X (e :: es) t)
   (hst : starEach (e :: es) X.env = (false, eval e X.env) :: starEach es X.env := by rfl) (hpl : (backTo pos (starEach es X.env)).any (·.1) = false := by rfl)
   (ht : eval (.Call (.Attribute o m apos) (e :: es) [] pos) X.env = (do
     let ov ← eval o X.env
     standAt apos.atName
     let (f, first) ← holding [ov] (getMethod ov m pl)
     callWith pos f first (backTo pos (starEach (e :: es) X.env)) (backToKw pos (keywordEach [] X.env))) := by rfl) :
   PE X (.Call (.Attribute o m apos) (e :: es) [] pos) (tMeth C m sp dvs E ta t) := by
 intro pins s σ H Q I h
 refine PySem.W.methodCall_KW (pl := pl) (thn (he pins s σ H _ I h) fun u s1 ⟨x, H1, I1, rx, a, dx, fs, ex, ea, l, q⟩ => ?_) ht
 subst ex
 obtain rfl : u = Value.ref a := rx
 refine getmeth_ok I1 ea c hm l ?_
 refine PySem.W.callWith_K (first := [.ref a]) (h₀ := X.base) I.ok.mod.kin hm.kp (thn (ha pos pins s1 σ H1 _ I1 q) fun us s2 ⟨vs, H2, I2, r, q2⟩ => ⟨I2.kIn, ?_⟩) hst hpl
 exact run_fn (us := .ref a :: us) (vs := .ref a :: vs) F hr hb hd hx I2 (.cons rfl r) q2
theorem pe_meth0 {pl : Sem Bool} (he : PE X o ta) (c : Cls X.K C) (hm : Meth X.K C m f) (F : FnOk X.prog X.w X.K X.mg X.base CX k f fd ps sp) (hr : Room k X.A) (hb : Binds X.K fd ps ds) (hd : Vals dvs ds) (hx : Passes CX X E)
   (ht : eval (.Call (.Attribute o m apos) [] [] pos) X.env = (do
     let ov ← eval o X.env
     standAt apos.atName
     let (f, first) ← holding [ov] (getMethod ov m pl)
     callWith pos f first (backTo pos (starEach [] X.env)) (backToKw pos (keywordEach [] X.env))) := by rfl) :
   PE X (.Call (.Attribute o m apos) [] [] pos) (tMeth C m sp dvs E ta tNil) := by
 intro pins s σ H Q I h
 refine PySem.W.methodCall_KW (pl := pl) (thn (he pins s σ H _ I h) fun u s1 ⟨x, H1, I1, rx, a, dx, fs, ex, ea, l, q⟩ => ?_) ht
 subst ex
 obtain rfl : u = Value.ref a := rx
 refine getmeth_ok I1 ea c hm l ?_
 exact PySem.W.callWith_K0 (first := [.ref a]) I1.kIn hm.kp (run_fn (us := [.ref a]) (vs := [.ref a]) F hr hb hd hx I1 (.cons rfl .nil) q)
structure Mk (K : PySem.W.Frag) (C f : Addr) : Prop where
 makes : PySem.W.makesIn K C = true
 init : PySem.W.findIn K (.ref C) "__init__" = some (some (.ref f))
 fn : PySem.W.isFn K (.ref f) = true
 kp : PySem.W.keepIn K (.ref C) = true
theorem run_make {pins : List (Addr × Obj)} {σ : St} {H : Hp} {s : Shared} {Q : VK} {us : List Value} {vs : List V} (M : Mk X.K C f) (F : FnOk X.prog X.w X.K X.mg X.base CX k f fd ps sp) (hr : Room (k + 1) X.A) (hb : Binds X.K fd ps ds) (hd : Vals dvs ds)
   (hx : Passes CX X E) (I : Inv X pins σ H s) (r : Vals vs us)
   (h : ∀ x dx, H x = none → H dx = none → dx ≠ x → sp (.ref x :: (vs ++ dvs)) (upd (upd H dx (.own x)) x (.ins C dx [])) (fun v H2 => v = .non ∧ Q (.ref x) H2) E) :
   wpAny (model X.prog X.w) X.A (call (.ref C) us) (EP X pins σ Q) X.xe s := by
 have hq := h (s.heap.objs.size + 1) s.heap.objs.size (I.hok.fresh (Nat.le_succ _)) (I.hok.fresh (Nat.le_refl _)) (Nat.ne_of_lt (Nat.lt_succ_self _))
 have I2 := Inv.made (C := C) I
 have r2 : Vals (V.ref (s.heap.objs.size + 1) :: (vs ++ dvs)) (Value.ref (s.heap.objs.size + 1) :: (us ++ ds)) := .cons rfl (r.append hd)
 have hl : (Value.ref (s.heap.objs.size + 1) :: us ++ ds).length = ps.length := by
   have e := r2.length
   rw [F.len _ _ _ _ hq] at e
   exact e.symm
 refine wpAny_call (make_map (f := f) I.kIn M.makes M.init (beq_iff_eq.mp M.fn) (codeAny_mono (F.run _ X.stack _ _ ⟨Value.ref (s.heap.objs.size + 1) :: us, []⟩ (Value.ref (s.heap.objs.size + 1) :: (us ++ ds)) _ _ E (hr.make C us [])
   (I2.env0.make C us []) (hb _ (Value.ref (s.heap.objs.size + 1) :: us) I2.kIn hl) r2 hq) fun r s' hq' => ?_))
 cases r with
 | error e => exact hx pins σ _ _ e s' I2 hq'
 | ok fl =>
   cases fl with
   | ret u =>
     obtain ⟨v, H', I3, rv, ev, q3⟩ := I2.after hq'
     subst ev
     exact ⟨rv, ⟨V.ref (s.heap.objs.size + 1), H', I3, rfl, q3⟩⟩
   | next => exact False.elim hq'
   | brk => exact False.elim hq'
   | cont => exact False.elim hq'
theorem pe_make (M : Mk X.K C f) (F : FnOk X.prog X.w X.K X.mg X.base CX k f fd ps sp) (hr : Room (k + 1) X.A) (hg : Gl X x) (hm : X.mg x = some (.ref C)) (hb : Binds X.K fd ps ds) (hd : Vals dvs ds) (hx : Passes CX X E)
   (ha : PA X (e :: es) t) (hdb : (x == ("__debug__" : Str)) = false := by decide) (he : starEach (e :: es) X.env = (false, eval e X.env) :: starEach es X.env := by rfl) (hpl : (backTo pos (starEach es X.env)).any (·.1) = false := by rfl) :
   PE X (.Call (.Name x p) (e :: es) [] pos) (tMake C sp dvs E t) := by
 intro pins s σ H Q I h
 refine wpAny_Call_Name_kw (ld_glob I hg hm ?_ hdb)
 refine PySem.W.callWith_K (h₀ := X.base) I.ok.mod.kin M.kp (thn (ha pos pins s σ H _ I h) fun us s1 ⟨vs, H1, I1, r, q⟩ => ⟨I1.kIn, ?_⟩) he hpl
 exact run_make M F hr hb hd hx I1 r q
end
section
variable {X : Cx} {CX : CXT} {k : Nat} {f C : Addr} {fd : FuncData} {ps ks : List Str} {sp : Sp} {E : XK} {x m : Str} {p pos apos kpos : Pos} {e o : Expr} {es : List Expr} {kws : List Keyword} {te ta : TE} {t tk : TA} {nm : Option Str}
structure KBinds (K : PySem.W.Frag) (fd : FuncData) (ps ks : List Str) (g : List Value → List Value → List Value) (gV : List V → List V → List V) : Prop where
 to : ∀ (s : Shared) (us ws : List Value), K.In s.heap → (g us ws).length = ps.length → BindsTo s fd ⟨us, ks.zip ws⟩ (ps.zip (g us ws))
 rel : ∀ {vs : List V} {us : List Value} {zs : List V} {ws : List Value}, Vals vs us → Vals zs ws → Vals (gV vs zs) (g us ws)
variable {g : List Value → List Value → List Value} {gV : List V → List V → List V}
end
structure FnScope (N P : List Str) (sc : Scope) : Prop where
 kind : sc.kind = .function
 co : sc.isCoroutine = false
 gen : sc.isGenerator = false
 nd : N.Nodup
 pre : N.take P.length = P
 par : ∀ x ∈ P, sc.names.lookup x = some .local ∨ sc.names.lookup x = some .cell
 nofree : ∀ y ∈ sc.names, y.2 ≠ .free
theorem bindL_out {kindOf : Str → Option NameKind} {x : Str} : ∀ {binds : List (Str × Value)} {m : Str → Option Value}, (∀ v, (x, v) ∉ binds) → bindL kindOf binds m x = m x
 | [], _, _ => rfl
 | (n, v) :: r, m, h => by
   unfold bindL
   rw [bindL_out fun w hw => h w (List.mem_cons_of_mem _ hw)]
   split
   · have : x ≠ n := by rintro rfl; exact h v List.mem_cons_self
     simp [this]
   · rfl
theorem bindC_out {kindOf : Str → Option NameKind} {x : Str} : ∀ {binds : List (Str × Value)} {m : Str → Option Value}, (∀ v, (x, v) ∉ binds) → bindC kindOf binds m x = m x
 | [], _, _ => rfl
 | (n, v) :: r, m, h => by
   unfold bindC
   rw [bindC_out fun w hw => h w (List.mem_cons_of_mem _ hw)]
   split
   · rfl
   · have : x ≠ n := by rintro rfl; exact h v List.mem_cons_self
     simp [this]
theorem bindL_get {kindOf : Str → Option NameKind} {x : Str} {v : Value} : ∀ {P : List Str} {vs : List Value} {i : Nat} {m : Str → Option Value}, P.Nodup → P[i]? = some x → vs[i]? = some v → kindOf x = some .local →
   bindL kindOf (P.zip vs) m x = some v
 | [], _, _, _, _, h, _, _ => by simp at h
 | _ :: _, [], _, _, _, _, h, _ => by simp at h
 | p :: P, w :: vs, 0, m, nd, h1, h2, hk => by
   simp at h1 h2; subst h1; subst h2
   show bindL kindOf ((p, w) :: P.zip vs) m p = _
   unfold bindL
   rw [bindL_out fun v hv => (List.nodup_cons.mp nd).1 (List.of_mem_zip hv).1, if_pos hk]
   simp
 | p :: P, w :: vs, i + 1, m, nd, h1, h2, hk => by
   show bindL kindOf ((p, w) :: P.zip vs) m x = _
   unfold bindL
   exact bindL_get (i := i) (List.nodup_cons.mp nd).2 (by simpa using h1) (by simpa using h2) hk
theorem bindC_get {kindOf : Str → Option NameKind} {x : Str} {v : Value} : ∀ {P : List Str} {vs : List Value} {i : Nat} {m : Str → Option Value}, P.Nodup → P[i]? = some x → vs[i]? = some v → kindOf x ≠ some .local →
   bindC kindOf (P.zip vs) m x = some v
 | [], _, _, _, _, h, _, _ => by simp at h
 | _ :: _, [], _, _, _, _, h, _ => by simp at h
 | p :: P, w :: vs, 0, m, nd, h1, h2, hk => by
   simp at h1 h2; subst h1; subst h2
   show bindC kindOf ((p, w) :: P.zip vs) m p = _
   unfold bindC
   rw [bindC_out fun v hv => (List.nodup_cons.mp nd).1 (List.of_mem_zip hv).1, if_neg hk]
   simp
 | p :: P, w :: vs, i + 1, m, nd, h1, h2, hk => by
   show bindC kindOf ((p, w) :: P.zip vs) m x = _
   unfold bindC
   exact bindC_get (i := i) (List.nodup_cons.mp nd).2 (by simpa using h1) (by simpa using h2) hk
def start (N : List Str) (vs : List V) : St := vs.map some ++ List.replicate (N.length - vs.length) none
def cxOf (CX : CXT) (P : Program) (w : World) (K : PySem.W.Frag) (mg : Str → Option Value) (base : Heap) (N : List Str) (qual : Str) (scope : Scope) (f : Addr) (cd : Value) (A : Around) (outer : List Env) (s : Shared) (H : Hp) (E : XK) : Cx where
 prog := P
 w := w
 K := K
 mg := mg
 base := base
 A := A.deeper (envOfC qual scope s.heap.objs.size f cd)
 N := N
 s₀ := s
 H₀ := H
 env := envOfC qual scope s.heap.objs.size f cd
 outer := outer
 stack := envOfC qual scope s.heap.objs.size f cd :: outer
 ex := []
 calm := true
 fn := fun _ => true
 pn := []
 xe := fun e s' => wpAny (model P w) (A.deeper (envOfC qual scope s.heap.objs.size f cd)) (leaving (envOfC qual scope s.heap.objs.size f cd) e) (fun _ s'' => CX outer H s E e s'') (fun e' s'' => CX outer H s E e' s'') s'
theorem cell_has {sc : Scope} {n : Nat} {x : Str} (h : sc.names.lookup x = some .cell) : ∃ c, (cellsFrom n sc.names []).lookup x = some c := by
 have q := PySem.W.cellsFrom_some sc.names n [] (.inl h)
 exact Option.isSome_iff_exists.mp q
theorem inv_start {CX : CXT} {P : Program} {w : World} {K : PySem.W.Frag} {mg : Str → Option Value} {base : Heap} {N ps : List Str} {qual : Str} {scope : Scope} {f : Addr} {cd : Value} {A : Around} {outer : List Env} {s s1 : Shared} {H : Hp} {E : XK} {us : List Value} {vs : List V}
   (S : FnScope N ps scope) (hd : A.handled = none) (e0 : Env0 P w K mg base A outer s H) (hl : vs.length = ps.length) (r : Vals vs us)
   (x : InCallC s s.heap.objs.size (bindL (envOfC qual scope s.heap.objs.size f cd).kindOf (ps.zip us) fun _ => none) (cellsFrom (s.heap.objs.size + 1) scope.names []) (bindC (envOfC qual scope s.heap.objs.size f cd).kindOf (ps.zip us) fun _ => none) s1) :
   Inv (cxOf CX P w K mg base N qual scope f cd A outer s H E) [] (start N vs) H s1 := by
 have hpl : ps.length ≤ N.length := by have := congrArg List.length S.pre; rw [List.length_take] at this; omega
 obtain ⟨h1, tk, rfl, hk⟩ := x.done
 have noA : ∀ b : Addr, b ∉ (cxOf CX P w K mg base N qual scope f cd A outer s H E).ex := fun b z => absurd (show b ∈ ([] : List Addr) from z) (by simp)
 refine ⟨⟨e0.mod, S.kind, rfl, rfl, Nat.le_refl _, fun y z c h1 h2 => ?_, fun y hy => ?_, fun y c _ h => ?_, fun _ => hd, Around.frames_deeper e0.frames, .inr ⟨rfl, rfl⟩, fun b z => absurd z (noA b), e0.bs, e0.bsz, fun b _ _ => noA b, fun b z => absurd z (noA b), e0.funs, e0.frf⟩,
   rfl, e0.bare, Un.kept hk, ⟨_, x.toInCall.ns, fun i y v h1 h2 h3 => ?_⟩, fun y c h => ⟨_, x.cell y c h⟩, e0.hok.fresh (Nat.le_refl _), fun y c h => ?_, fun p hp => absurd (show p ∈ ([] : List (Addr × Obj)) from hp) (by simp), e0.hok.kept hk, ?_⟩
 · exact name_of_addr x.apart (PySem.mem_of_lookup h1) (PySem.mem_of_lookup h2)
 · have hy : scope.names.lookup y = some .cell ∨ scope.names.lookup y = some .free := hy
   rcases hy with hy | hy
   · exact cell_has hy
   · exact absurd rfl (S.nofree _ (PySem.mem_of_lookup hy))
 · exact Nat.le_of_lt (x.above y c (PySem.mem_of_lookup h))
 · have hi : i < vs.length := by
     unfold start at h2
     by_cases hi : i < vs.length
     · exact hi
     · rw [List.getElem?_append_right (by simpa using hi)] at h2
       rw [List.getElem?_replicate] at h2
       split at h2 <;> cases h2
   have ha : vs[i]? = some v := by
     unfold start at h2
     rw [List.getElem?_append_left (by simpa using hi), List.getElem?_map] at h2
     cases e : vs[i]? with
     | none => rw [e] at h2; cases h2
     | some a => rw [e] at h2; cases h2; rfl
   obtain ⟨u, hu, rv⟩ := r.get ha
   have hp : ps[i]? = some y := by
     rw [← S.pre, List.getElem?_take_of_lt (by omega)]; exact h1
   have ndP : ps.Nodup := by rw [← S.pre]; exact S.nd.sublist (List.take_sublist _ _)
   refine ⟨u, rv, ?_⟩
   rcases S.par y (List.mem_of_getElem? hp) with k | k
   · exact .inl ⟨k, bindL_get ndP hp hu k⟩
   · obtain ⟨c, e⟩ := cell_has (n := s.heap.objs.size + 1) k
     refine .inr ⟨.inl k, c, e, ?_⟩
     have q := x.cell y c e
     rw [bindC_get ndP hp hu (by show scope.names.lookup y ≠ _; rw [k]; decide)] at q
     exact q
 · exact e0.hok.fresh (Nat.le_of_lt (x.above y c (PySem.mem_of_lookup h)))
 · unfold start
   show _ = N.length
   rw [List.length_append, List.length_map, List.length_replicate]
   omega
theorem fn_of {CX : CXT} {P : Program} {w : World} {K : PySem.W.Frag} {mg : Str → Option Value} {base : Heap} {k : Nat} {f : Addr} {name qual : Str} {params : Arguments} {body : List Stmt} {scope : Scope} {dV kV doc pm cdv ct oc : Value} {an od : Option Addr}
   {osl : Array (Option Value)} {N ps : List Str} {sp : Sp} (lk : K.lookup f = some ⟨oc, od, .func (PySem.W.fnOf name qual params body scope dV kV doc pm an cdv ct), osl⟩) (hcd : PySem.W.codeIn K cdv qual = true) (S : FnScope N ps scope)
   (len : ∀ vs H Q E, sp vs H Q E → vs.length = ps.length)
   (hbody : ∀ (A : Around) (outer : List Env) (s : Shared) (H : Hp) (vs : List V) (Q : VK) (E : XK), Room k (A.deeper (envOfC qual scope s.heap.objs.size f cdv)) → sp vs H Q E →
     ∃ t, PSs (cxOf CX P w K mg base N qual scope f cdv A outer s H E) body t ∧ t { nx := fun _ H' => Q .non H', rt := Q } (start N vs) H) :
   FnOk P w K mg base CX (k + 1) f (PySem.W.fnOf name qual params body scope dV kV doc pm an cdv ct) ps sp := by
 refine ⟨len, fun A outer s H args us vs Q E hr e0 hb r hsp => ?_⟩
 have hl := len _ _ _ _ hsp
 have KX : K.In s.heap := e0.mod.kin.keeps fun b o e => (e0.bs b o e).1
 have lim : s.heap.NoLimit := e0.mod.nolimit.keeps fun b o e => (e0.bs b o e).1
 have hkind : ∀ y ∈ ps.zip us, scope.names.lookup y.1 = some .local ∨ (scope.names.lookup y.1 = some .cell ∧ ((cellsFrom (s.heap.objs.size + 1) scope.names []).lookup y.1).isSome = true) := fun ⟨n, v⟩ hy => by
   rcases S.par n (List.of_mem_zip hy).1 with q | q
   · exact .inl q
   · exact .inr ⟨q, PySem.W.cellsFrom_some _ _ _ (.inl q)⟩
 refine codeAny_call_function hr.depth (KX _ _ lk) rfl S.co S.gen rfl (PySem.W.codeRec_of KX hcd) (hb _ _ _ _ ?_)
 refine wpAny_newFunctionEnv_cells S.kind hkind fun env he s1 x => ?_
 subst he
 refine ⟨lim.keeps x.toInCall.keep, codeAny_func ?_⟩
 obtain ⟨t, ht, hq⟩ := hbody A outer s H vs Q E (hr.deeper _) hsp
 have I : Inv (cxOf CX P w K mg base N qual scope f cdv A outer s H E) [] (start N vs) H s1 := inv_start S hr.hd e0 hl r x
 refine wpAny_mono (ht [] s1 (start N vs) H _ I hq) (fun fl s' hs => ?_) fun e s' hs => hs
 have fin : ∀ {σ' : St} {H' : Hp} {v : V} {u : Value}, Inv (cxOf CX P w K mg base N qual scope f cdv A outer s H E) [] σ' H' s' → RelV v u → Q v H' → CE outer P w H s Q u s' :=
   fun {σ' H' v u} J rv q => ⟨v, H', J.os, J.bare, J.base, J.hok, rv, q⟩
 cases fl with
 | ret u =>
   obtain ⟨v, σ', H', J, rv, q⟩ := hs
   exact fin J rv q
 | next =>
   obtain ⟨σ', H', J, q⟩ := hs
   exact fin (v := V.non) (u := Value.none) J rfl q
 | brk =>
   obtain ⟨_, _, _, q⟩ := hs
   exact False.elim q
 | cont =>
   obtain ⟨_, _, _, q⟩ := hs
   exact False.elim q
end L2
namespace L2
open PySem PySem.Spec PyProof.Rows
section
variable {X : Cx} {x : Str} {p pos : Pos} {e : Expr} {es : List Expr} {t : TA} {id T : String} {r : List V → Hp → VK → Prop}
def tCB (r : List V → Hp → VK → Prop) (t : TA) : TE := fun σ H Q => t σ H fun vs H1 => r vs H1 Q
theorem pe_callB (hc : CallR X (.builtin id) r) (hg : Gl X x) (hm : X.mg x = none) (hv : bootBuiltins x = some (.builtin id)) (ha : PA X (e :: es) t) (hn : x ≠ "__name__" := by decide) (hdb : (x == ("__debug__" : Str)) = false := by decide)
   (he : starEach (e :: es) X.env = (false, eval e X.env) :: starEach es X.env := by rfl) (hpl : (backTo pos (starEach es X.env)).any (·.1) = false := by rfl) : PE X (.Call (.Name x p) (e :: es) [] pos) (tCB r t) := by
 intro pins s σ H Q I h
 refine wpAny_Call_Name_kw (ld_blt I hg hm hv ?_ hn hdb)
 exact PyProof.Rows.callWith_builtin1 (thn (ha pos pins s σ H _ I h) fun us s1 ⟨vs, H1, I1, r1, q1⟩ => hc pins s1 σ H1 vs us Q I1 r1 q1) he hpl
theorem pe_callTy (hc : CallR X (.type T) r) (hg : Gl X x) (hm : X.mg x = none) (hv : bootBuiltins x = some (.type T)) (ha : PA X (e :: es) t) (hn : x ≠ "__name__" := by decide) (hdb : (x == ("__debug__" : Str)) = false := by decide)
   (he : starEach (e :: es) X.env = (false, eval e X.env) :: starEach es X.env := by rfl) (hpl : (backTo pos (starEach es X.env)).any (·.1) = false := by rfl) : PE X (.Call (.Name x p) (e :: es) [] pos) (tCB r t) := by
 intro pins s σ H Q I h
 refine wpAny_Call_Name_kw (ld_blt I hg hm hv ?_ hn hdb)
 exact PyProof.Rows.callWith_type1 (thn (ha pos pins s σ H _ I h) fun us s1 ⟨vs, H1, I1, r1, q1⟩ => hc pins s1 σ H1 vs us Q I1 r1 q1) he hpl
end
end L2
namespace HT
open PySem PyProof.Rows
section
open PySem.SeqAt
open PySem.AutoSeq1 (wpAny_loadPart')
open PySem.MeetsSeq PySem.MeetsSeq2 PySem.MeetsSeq3
end
section
variable {prog : Program} {w : World} {A : Around} {E : Value → Shared → Prop} {s : Shared}
def sIx (n d : Nat) : Option Int → Nat
 | none => d
 | some v => if v < 0 then (v + (n : Int)).toNat else min v.toNat n
theorem sIx_none (n d : Nat) : sIx n d none = d := rfl
theorem sIx_nat (n d k : Nat) : sIx n d (some (k : Int)) = min k n := by
 show (if (k : Int) < 0 then ((k : Int) + (n : Int)).toNat else min (k : Int).toNat n) = min k n
 rw [if_neg (by omega), Int.toNat_natCast]
end
end HT
namespace L2
open PySem PySem.Spec PyProof.Rows
abbrev TO := St → Hp → (Option Int → Hp → Prop) → Prop
def PO (X : Cx) (e : Option Expr) (t : TO) : Prop :=
 ∀ (pins : List (Addr × Obj)) (s : Shared) (σ : St) (H : Hp) (Q : Option Int → Hp → Prop), Inv X pins σ H s → t σ H Q →
   wpAny (model X.prog X.w) X.A (evalPart e X.env) (fun u s' => ∃ o H', Inv X pins σ H' s' ∧ IsPart u o ∧ Q o H') X.xe s
def tNoPart : TO := fun _ H Q => Q none H
def tPart (t : TE) : TO := fun σ H Q => t σ H fun x H1 => ∃ i, x = .int i ∧ Q (some i) H1
theorem intsAre_of {ns : List Int} : ∀ {us : List Value}, Vals (ns.map V.int) us → IntsAre us ns := by
 induction ns with
 | nil => intro us r; rw [List.map_nil] at r; cases r; exact .nil
 | cons n ns ih =>
   intro us r
   rw [List.map_cons] at r
   cases r with
   | cons r1 r2 =>
     obtain ⟨t, e⟩ := r1
     subst e
     exact .cons n t (ih r2)
section
variable {X : Cx} {e : Expr} {te : TE} {lo hi : Option Expr} {tl th : TO} {pos p2 : Pos}
theorem po_none : PO X none tNoPart := by
 intro pins s σ H Q I h
 rw [evalPart_none]
 exact wpAny_pure ⟨none, H, I, .none, h⟩
theorem po_some (h : PE X e te) : PO X (some e) (tPart te) := by
 intro pins s σ H Q I hw
 rw [evalPart_some]
 refine thn (h pins s σ H _ I hw) fun u s1 ⟨x, H1, I1, r1, q1⟩ => ?_
 obtain ⟨i, rfl, q⟩ := q1
 obtain ⟨t, rfl⟩ := r1
 exact ⟨some i, H1, I1, .int i t, q⟩
def SlR (X : Cx) (r : V → Option Int → Option Int → Hp → VK → Prop) : Prop :=
 ∀ (pins : List (Addr × Obj)) (s : Shared) (σ : St) (H : Hp) (x : V) (v vl vu : Value) (lo hi : Option Int) (sl : Addr) (Q : VK), Inv X pins σ H s → RelV x v → s.heap.IsSliceOf sl vl vu .none → IsPart vl lo → IsPart vu hi → r x lo hi H Q →
   ∃ T id, typeLookup (.type T) "__getitem__" = pure (some (.builtin id)) ∧ s.TypeIs v T ∧ wpAny (model X.prog X.w) X.A (getItem v (.ref sl)) (EP X pins σ Q) X.xe s
def tSl (r : V → Option Int → Option Int → Hp → VK → Prop) (te : TE) (tl th : TO) : TE := fun σ H Q => te σ H fun x H1 => tl σ H1 fun l H2 => th σ H2 fun u H3 => r x l u H3 Q
theorem pe_slice {r : V → Option Int → Option Int → Hp → VK → Prop} (hr : SlR X r) (he : PE X e te) (hl : PO X lo tl) (hu : PO X hi th) : PE X (.Subscript e (.Slice lo hi none p2) pos) (tSl r te tl th) := by
 intro pins s σ H Q I h
 refine Subscript_ (thn (he pins s σ H _ I h) fun v s1 ⟨x, H1, I1, r1, q1⟩ => ?_)
 refine wpAny_Slice (thn (hl pins s1 σ H1 _ I1 q1) fun vl s2 ⟨l, H2, I2, pl, q2⟩ => thn (hu pins s2 σ H2 _ I2 q2) fun vu s3 ⟨u, H3, I3, pu, q3⟩ => ?_)
 rw [evalPart_none]
 refine wpAny_pure ?_
 have I4 : Inv X pins σ H3 { s3 with heap := s3.heap.push { cls := .type "slice", data := .fields #[vl, vu, .none] } } := I3.kept (t' := s3.toks) fun b ob q => Heap.get?_push_of_some _ q
 obtain ⟨T, id, hT, ht, hg⟩ := hr pins { s3 with heap := s3.heap.push { cls := .type "slice", data := .fields #[vl, vu, .none] } } σ H3 x v vl vu l u s3.heap.objs.size Q I4 r1 (Heap.IsSliceOf.new ..) pl pu q3
 show wpAny (model X.prog X.w) X.A (subscriptTail e (.Slice lo hi none p2) v (.ref s3.heap.objs.size)) (EP X pins σ Q) X.xe { s3 with heap := s3.heap.push { cls := .type "slice", data := .fields #[vl, vu, .none] } }
 exact tail_any (ops := [.ref s3.heap.objs.size, v]) ht hT hg (by with_unfolding_all rfl)
def cutV (xs : List V) (lo hi : Option Int) : List V := (xs.drop (HT.sIx xs.length 0 lo)).take (HT.sIx xs.length xs.length hi - HT.sIx xs.length 0 lo)
theorem cutV_length (xs : List V) (lo hi : Option Int) : (cutV xs lo hi).length ≤ xs.length := by
 unfold cutV
 rw [List.length_take, List.length_drop]
 omega
end
end L2
namespace L2
open PySem PySem.Spec PyProof.Rows
def ixN (n : Nat) (i : Int) : Option Nat := if 0 ≤ i then (if i < n then some i.toNat else none) else if -(n : Int) ≤ i then some (i + n).toNat else none
def atI {α : Type} (xs : List α) (i : Int) : Option α := (ixN xs.length i).bind fun j => xs[j]?
theorem ixN_seq {n : Nat} {i : Int} {j : Nat} (h : ixN n i = some j) : seqIndex? i n = some j ∧ j < n ∧ -(n : Int) ≤ i ∧ i < n := by
 unfold ixN at h
 by_cases h0 : 0 ≤ i
 · rw [if_pos h0] at h
   by_cases h1 : i < n
   · rw [if_pos h1] at h
     have e : i.toNat = j := Option.some.inj h
     exact ⟨by rw [seqIndex_of h0 h1, e], by omega, by omega, h1⟩
   · rw [if_neg h1] at h; cases h
 · rw [if_neg h0] at h
   by_cases h1 : -(n : Int) ≤ i
   · rw [if_pos h1] at h
     have e : (i + n).toNat = j := Option.some.inj h
     exact ⟨by rw [seqIndex_neg (by omega) h1, e], by omega, h1, by omega⟩
   · rw [if_neg h1] at h; cases h
theorem atI_get {α : Type} {xs : List α} {i : Int} {v : α} (h : atI xs i = some v) : ∃ j, seqIndex? i xs.length = some j ∧ xs[j]? = some v ∧ j < xs.length ∧ -(xs.length : Int) ≤ i ∧ i < xs.length := by
 unfold atI at h
 cases e : ixN xs.length i with
 | none => rw [e] at h; cases h
 | some j =>
   rw [e] at h
   obtain ⟨h1, h2, h3, h4⟩ := ixN_seq e
   exact ⟨j, h1, h, h2, h3, h4⟩
theorem atI_nat {α : Type} {xs : List α} {j : Nat} {v : α} (h : xs[j]? = some v) : atI xs (j : Int) = some v := by
 have hj : j < xs.length := (List.getElem?_eq_some_iff.mp h).1
 have e : ixN xs.length (j : Int) = some j := by
   unfold ixN
   rw [if_pos (by omega), if_pos (by omega)]; simp
 unfold atI; rw [e]; exact h
theorem atI_last {α : Type} (xs : List α) (v : α) : atI (xs ++ [v]) (-1) = some v := by
 have hl : (xs ++ [v]).length = xs.length + 1 := by simp
 have e : ixN (xs ++ [v]).length (-1) = some xs.length := by
   unfold ixN
   rw [hl, if_neg (by decide), if_pos (by omega)]
   congr 1
   omega
 unfold atI
 rw [e]
 show (xs ++ [v])[xs.length]? = some v
 simp
def PlainIx (b : Expr) : Prop := ∀ o i, subscripted b false o i = operate [o, i] (getItem o i)
def IxR (X : Cx) (r : R2) : Prop :=
 ∀ (value slice : Expr) (pins : List (Addr × Obj)) (s : Shared) (σ : St) (H : Hp) (x y : V) (v u : Value) (Q : VK), Inv X pins σ H s → RelV x v → RelV y u → r x y H Q →
   subscripted slice false v u = operate [v, u] (getItem v u) → wpAny (model X.prog X.w) X.A (subscriptTail value slice v u) (EP X pins σ Q) X.xe s
def MtR (X : Cx) (id : String) (r : V → List V → Hp → VK → Prop) : Prop :=
 ∀ (pins : List (Addr × Obj)) (s : Shared) (σ : St) (H : Hp) (x : V) (xs : List V) (v : Value) (us : List Value) (Q : VK), Inv X pins σ H s → RelV x v → Vals xs us → r x xs H Q →
   wpAny (model X.prog X.w) X.A (call (.builtin id) (v :: us)) (EP X pins σ Q) X.xe s
section
variable {X : Cx} {a b : Expr} {ta tb : TE} {pos : Pos}
theorem pe_ix {r : R2} (hr : IxR X r) (ha : PE X a ta) (hb : PE X b tb) (hs : PlainIx b) : PE X (.Subscript a b pos) (tOp r ta tb) := by
 intro pins s σ H Q I h
 exact Subscript_ (binT ha hb I h fun v u s2 x y H2 I2 rx ry q => hr a b pins s2 σ H2 x y v u Q I2 rx ry q (hs _ _))
def rIxL (K : PySem.W.Frag) : R2 := fun x y H Q => ∃ p xs i v, x = .ref p ∧ y = .int i ∧ SqL K H p xs ∧ atI xs i = some v ∧ Q v H
def rIxT (K : PySem.W.Frag) : R2 := fun x y H Q => ∃ p xs i v, x = .ref p ∧ y = .int i ∧ SqT K H p xs ∧ atI xs i = some v ∧ Q v H
theorem ix_list : IxR X (rIxL X.K) := by
 intro value slice pins s σ H x y v u Q I rx ry h hs
 obtain ⟨p, xs, i, z, rfl, rfl, hq, he, q⟩ := h
 cases rx
 obtain ⟨t, rfl⟩ := ry
 obtain ⟨its, r, pl, hz⟩ := I.list hq
 obtain ⟨j, h1, h2, h3, h4, h5⟩ := atI_get he
 obtain ⟨w, ew, rw'⟩ := r.get h2
 have hl := r.length
 have hn := line63
 have fin : EP X pins σ Q w s := ⟨z, H, I, rw', q⟩
 by_cases h0 : 0 ≤ i
 · have hj : i.toNat = j := by
     rw [seqIndex_of h0 h5] at h1
     exact Option.some.inj h1
   exact item_listR pl.isList h0 (by omega) (by rw [hj]; simpa using ew) fin hs
 · have hj : (i + (its.toArray.size : Int)).toNat = j := by
     rw [seqIndex_neg (by omega) h4] at h1
     rw [List.size_toArray, ← hl]
     exact Option.some.inj h1
   exact subscriptTail_builtinR (x := w) pl.isList.typeIs slot_list_getitem.lookup
     (wpAny_getItem_list_neg (Q := fun r s' => r = w ∧ EP X pins σ Q r s') pl.isList (by omega) (by rw [List.size_toArray] <;> omega) (by omega) (by rw [hj]; simpa using ew) ⟨rfl, fin⟩) hs
theorem ix_tup : IxR X (rIxT X.K) := by
 intro value slice pins s σ H x y v u Q I rx ry h hs
 obtain ⟨p, xs, i, z, rfl, rfl, hq, he, q⟩ := h
 cases rx
 obtain ⟨t, rfl⟩ := ry
 obtain ⟨its, r, pl, hz⟩ := I.tuple hq
 obtain ⟨j, h1, h2, h3, h4, h5⟩ := atI_get he
 obtain ⟨w, ew, rw'⟩ := r.get h2
 have hl := r.length
 have hn := line63
 have fin : EP X pins σ Q w s := ⟨z, H, I, rw', q⟩
 exact subscriptTail_builtinR (x := w) pl.typeIs slot_tuple_getitem.lookup
   (getItem_tuple (j := j) (Q := fun r s' => r = w ∧ EP X pins σ Q r s') pl (by omega) (by omega) (by rw [List.size_toArray, ← hl]; exact h1) (by simpa using ew) ⟨rfl, fin⟩) hs
theorem mapSeq_set (its : List Value) (n j : Nat) (u : Value) : Obj.mapSeq (·.setIfInBounds j u) { cls := .type "list", data := .seq its.toArray n } = { cls := .type "list", data := .seq (its.set j u).toArray n } := by
 simp [Obj.mapSeq]
theorem Inv.lst {pins : List (Addr × Obj)} {σ : St} {H : Hp} {s : Shared} {p : Addr} {xs : List V} (I : Inv X pins σ H s) (h : H p = some (.lst xs)) :
   ∃ (its : List Value) (n : Nat), Vals xs its ∧ s.heap.get? p = some { cls := .type "list", data := .seq its.toArray n } ∧ xs.length ≤ sizeLine := by
 obtain ⟨z, its, n, r, e⟩ := I.hok p _ h
 exact ⟨its, n, r, e, z⟩
theorem Inv.lstUpd {pins : List (Addr × Obj)} {σ : St} {H : Hp} {s : Shared} {p : Addr} {xs ys : List V} {its its' : List Value} {n n' : Nat} {f : Obj → Obj} (I : Inv X pins σ H s) (h : H p = some (.lst xs))
   (ho : s.heap.get? p = some { cls := .type "list", data := .seq its.toArray n }) (hf : f { cls := .type "list", data := .seq its.toArray n } = { cls := .type "list", data := .seq its'.toArray n' }) (r : Vals ys its') (hz : ys.length ≤ sizeLine) (t : Nat) :
   Inv X pins σ (upd H p (.lst ys)) { s with heap := s.heap.update p f, toks := t } := by
 have e : (s.heap.update p f).get? p = some { cls := .type "list", data := .seq its'.toArray n' } := by
   rw [Heap.get?_update_self f ho (by rw [hf] <;> rfl), hf]
 refine I.write (x := p) (e := p) (by rw [h]; trivial) (.inl rfl) (fun b u hb q => (Heap.get?_update_other _ _ (Ne.symm hb)).trans q) ⟨_, e⟩ ?_
 exact ⟨hz, its', n', r, e⟩
def rSetL : V → V → V → Hp → (Hp → Prop) → Prop := fun o i v H Q => ∃ p xs k j, o = .ref p ∧ i = .int k ∧ H p = some (.lst xs) ∧ ixN xs.length k = some j ∧ Q (upd H p (.lst (xs.set j v)))
theorem set_list : PSet X rSetL := by
 intro pins s σ H o i v ov iv u Q I ro ri rv h
 obtain ⟨p, xs, k, j, rfl, rfl, hp, hj, q⟩ := h
 cases ro
 obtain ⟨t, rfl⟩ := ri
 obtain ⟨its, n, r, ho, hz⟩ := I.lst hp
 obtain ⟨h1, h2, h3, h4⟩ := ixN_seq hj
 have hl := r.length
 have hn := line63
 have I' : Inv X pins σ (upd H p (.lst (xs.set j v))) { s with heap := s.heap.update p (Obj.mapSeq (·.setIfInBounds j u)) } :=
   I.lstUpd hp ho (mapSeq_set its n j u) (r.set rv j) (by rw [List.length_set]; exact hz) s.toks
 by_cases h0 : 0 ≤ k
 · have hk : k.toNat = j := by
     rw [seqIndex_of h0 h4] at h1
     exact Option.some.inj h1
   exact PySem.W.ki_setAt ho h0 (by omega) (by rw [List.size_toArray, ← hl]; exact h4) (by rw [hk]; exact ⟨_, I', q⟩)
 · have hk : (k + (its.toArray.size : Int)).toNat = j := by
     rw [seqIndex_neg (by omega) h3] at h1
     rw [List.size_toArray, ← hl]
     exact Option.some.inj h1
   exact PySem.W.ki_setBack ho (by omega) (by rw [List.size_toArray, ← hl]; exact h3) (by omega) (by rw [hk]; exact ⟨_, I', q⟩)
theorem slice_bounds (lo hi : Option Int) (n : Nat) : (sliceBounds lo hi none n).1 = ((HT.sIx n 0 lo : Nat) : Int) ∧ (sliceBounds lo hi none n).2.1 = ((HT.sIx n n hi : Nat) : Int) ∧ (sliceBounds lo hi none n).2.2 = 1 := by
 refine ⟨?_, ?_, rfl⟩
 · cases lo with
   | none => simp [sliceBounds, HT.sIx]
   | some i =>
     simp only [sliceBounds, HT.sIx, Option.getD_none, show (1 : Int) > 0 by decide, if_true]
     by_cases h : i < 0
     · simp only [h, if_true] <;> omega
     · simp only [h, if_false] <;> omega
 · cases hi with
   | none => simp [sliceBounds, HT.sIx]
   | some i =>
     simp only [sliceBounds, HT.sIx, Option.getD_none, show (1 : Int) > 0 by decide, if_true]
     by_cases h : i < 0
     · simp only [h, if_true] <;> omega
     · simp only [h, if_false] <;> omega
theorem slicePick_cut (its : List Value) (lo hi : Option Int) : slicePick its.toArray lo hi none = ((its.drop (HT.sIx its.length 0 lo)).take (HT.sIx its.length its.length hi - HT.sIx its.length 0 lo)).toArray := by
 obtain ⟨h1, h2, h3⟩ := slice_bounds lo hi its.toArray.size
 unfold slicePick
 rw [h1, h2, h3]
 simp only [sliceRange_one, pick_run, List.size_toArray] <;> rfl
def rSlL (K : PySem.W.Frag) : V → Option Int → Option Int → Hp → VK → Prop := fun x lo hi H Q => ∃ a xs, x = .ref a ∧ SqL K H a xs ∧ ∀ p, H p = none → Q (.ref p) (upd H p (.lst (cutV xs lo hi)))
theorem sl_list : SlR X (rSlL X.K) := by
 intro pins s σ H x v vl vu lo hi sl Q I rx hs pl pu h
 obtain ⟨a, xs, rfl, hx, q⟩ := h
 cases rx
 obtain ⟨its, r, ht, hz⟩ := I.list hx
 have hlen := r.length
 refine ⟨"list", _, slot_list_getitem.lookup, ht.isList.typeIs, ?_⟩
 refine wpAny_getItem_list_slice ht.isList hs pl pu .none (by simp) ?_ (by rw [List.size_toArray] <;> omega)
 rw [slicePick_cut, ← hlen]
 refine ⟨.ref s.heap.objs.size, _, I.laid (t' := s.toks) (o := .lst (cutV xs lo hi)) (fun b ob q => Heap.get?_push_of_some _ q) (Nat.le_refl _) ?_, rfl, q _ (I.hok.fresh (Nat.le_refl _))⟩
 exact ⟨Nat.le_trans (cutV_length xs lo hi) hz, _, 0, (r.drop (HT.sIx xs.length 0 lo)).take (HT.sIx xs.length xs.length hi - HT.sIx xs.length 0 lo), Heap.get?_push_size _ rfl⟩
def flatV : V → Bool
 | .non => true
 | .bl _ => true
 | .int _ => true
 | .str _ => true
 | _ => false
def eqV : V → V → Bool
 | .non, .non => true
 | .bl a, .bl b => a == b
 | .bl a, .int b => (if a then 1 else 0) == b
 | .int a, .bl b => a == (if b then 1 else 0)
 | .int a, .int b => a == b
 | .str a, .str b => a == b
 | _, _ => false
theorem eqAt_V {A : Around} {s : Shared} {y x : V} {u v : Value} (ry : RelV y u) (rx : RelV x v) (fy : flatV y = true) (fx : flatV x = true) : SeqAt.EqAt A s u v (eqV y x) := by
 cases y with
 | non =>
   cases ry
   cases x with
   | non => cases rx; exact SeqAt.EqAt.same _
   | bl b => cases rx; exact SeqAt.EqAt.none_bool b
   | int b => obtain ⟨t, rfl⟩ := rx; exact SeqAt.EqAt.none_int b t
   | str b => obtain ⟨t, rfl⟩ := rx; exact SeqAt.EqAt.none_str b t
   | _ => exact absurd (show false = true from fx) Bool.false_ne_true
 | bl a =>
   cases ry
   cases x with
   | non => cases rx; exact SeqAt.EqAt.bool_none a
   | bl b => cases rx; exact SeqAt.EqAt.bool_bool a b
   | int b => obtain ⟨t, rfl⟩ := rx; exact SeqAt.EqAt.bool_int a b t
   | str b => obtain ⟨t, rfl⟩ := rx; exact SeqAt.EqAt.bool_str a b t
   | _ => exact absurd (show false = true from fx) Bool.false_ne_true
 | int a =>
   obtain ⟨t', rfl⟩ := ry
   cases x with
   | non => cases rx; exact SeqAt.EqAt.int_none a t'
   | bl b => cases rx; exact SeqAt.EqAt.int_bool a t' b
   | int b => obtain ⟨t, rfl⟩ := rx; exact SeqAt.EqAt.int_int a t' b t
   | str b => obtain ⟨t, rfl⟩ := rx; exact SeqAt.EqAt.int_str a t' b t
   | _ => exact absurd (show false = true from fx) Bool.false_ne_true
 | str a =>
   obtain ⟨t', rfl⟩ := ry
   cases x with
   | non => cases rx; exact SeqAt.EqAt.str_none a t'
   | bl b => cases rx; exact SeqAt.EqAt.str_bool a t' b
   | int b => obtain ⟨t, rfl⟩ := rx; exact SeqAt.EqAt.str_int a t' b t
   | str b => obtain ⟨t, rfl⟩ := rx; exact SeqAt.EqAt.str_str a t' b t
   | _ => exact absurd (show false = true from fx) Bool.false_ne_true
 | _ => exact absurd (show false = true from fy) Bool.false_ne_true
def eqU (x : V) (u : Value) : Bool := match u with
 | .none => eqV .non x
 | .bool b => eqV (.bl b) x
 | .int i _ => eqV (.int i) x
 | .str z _ => eqV (.str z) x
 | _ => false
theorem eqU_of {x y : V} {u : Value} (r : RelV y u) (f : flatV y = true) : eqU x u = eqV y x := by
 cases y with
 | non => cases r; rfl
 | bl b => cases r; rfl
 | int i => obtain ⟨t, rfl⟩ := r; rfl
 | str z => obtain ⟨t, rfl⟩ := r; rfl
 | _ => exact absurd (show false = true from f) Bool.false_ne_true
theorem any_eqU {x : V} : ∀ {xs : List V} {us : List Value}, Vals xs us → xs.all flatV = true → us.any (eqU x) = xs.any fun y => eqV y x
 | _, _, .nil, _ => rfl
 | y :: xs, u :: us, .cons r t, f => by
   rw [List.all_cons, Bool.and_eq_true] at f
   rw [List.any_cons, List.any_cons, eqU_of r f.1, any_eqU t f.2]
theorem mem_eqAt {A : Around} {s : Shared} {x : V} {v : Value} (rx : RelV x v) (fx : flatV x = true) : ∀ {xs : List V} {us : List Value}, Vals xs us → xs.all flatV = true → ∀ u ∈ us, SeqAt.EqAt A s u v (eqU x u)
 | _, _, .nil, _ => fun u hu => by cases hu
 | y :: xs, u :: us, .cons r t, f => fun u' hu => by
   rw [List.all_cons, Bool.and_eq_true] at f
   rcases List.mem_cons.mp hu with rfl | hu
   · rw [eqU_of r f.1]; exact eqAt_V r rx f.1 fx
   · exact mem_eqAt rx fx t f.2 u' hu
def inV (x : V) (xs : List V) : Bool := xs.any fun y => eqV y x
def rIn (K : PySem.W.Frag) (neg : Bool) : R2 := fun x y H Q => ∃ p xs, y = .ref p ∧ (SqL K H p xs ∨ SqT K H p xs) ∧ flatV x = true ∧ xs.all flatV = true ∧ Q (.bl (if neg then !inV x xs else inV x xs)) H
theorem op_notIn_seq : OpR X (compareOp .NotIn) (rIn X.K true) := by
 intro pins s σ H x y v u Q I rx ry h
 obtain ⟨p, xs, rfl, hq, fx, fs, q⟩ := h
 cases ry
 rcases hq with hq | hq
 · obtain ⟨its, r, pl, hz⟩ := I.list hq
   refine SeqAt.notIn_listAt (eqU x) pl.isList (fun w hw => mem_eqAt rx fx r fs w (by simpa using hw)) ⟨.bl _, H, I, rfl, ?_⟩
   rw [show its.toArray.any (eqU x) = its.any (eqU x) by simp, any_eqU r fs]
   exact q
 · obtain ⟨its, r, pl, hz⟩ := I.tuple hq
   refine SeqAt.notIn_tupleAt (eqU x) pl (fun w hw => mem_eqAt rx fx r fs w (by simpa using hw)) ⟨.bl _, H, I, rfl, ?_⟩
   rw [show its.toArray.any (eqU x) = its.any (eqU x) by simp, any_eqU r fs]
   exact q
theorem call_len_seq : CallR X (.builtin "len") (fun xs H Q => ∃ p ys, xs = [.ref p] ∧ (SqL X.K H p ys ∨ SqT X.K H p ys) ∧ Q (.int ys.length) H) := by
 intro pins s σ H xs us Q I r h
 obtain ⟨p, ys, rfl, hq, q⟩ := h
 obtain ⟨u, rfl, rx⟩ := vals1 r
 cases rx
 have hn := line63
 rcases hq with hq | hq
 · obtain ⟨its, r', pl, hz⟩ := I.list hq
   have hlen := r'.length
   exact Calls.call_len_list pl.isList (by simp only [List.size_toArray] <;> omega) ⟨.int ys.length, H, I.tok _, ⟨s.toks + 1, by rw [List.size_toArray, hlen]⟩, q⟩
 · obtain ⟨its, r', pl, hz⟩ := I.tuple hq
   have hlen := r'.length
   exact len_tuple pl (by simp only [List.size_toArray] <;> omega) ⟨.int ys.length, H, I.tok _, ⟨s.toks + 1, by rw [List.size_toArray, hlen]⟩, q⟩
theorem call_list_of : CallR X (.type "list") (fun xs H Q => ∃ p ys, xs = [.ref p] ∧ (SqL X.K H p ys ∨ SqT X.K H p ys) ∧ ∀ l, H l = none → Q (.ref l) (upd H l (.lst ys))) := by
 intro pins s σ H xs us Q I r h
 obtain ⟨p, ys, rfl, hq, q⟩ := h
 obtain ⟨u, rfl, rx⟩ := vals1 r
 cases rx
 have fin : ∀ (its : List Value), Vals ys its → ys.length ≤ sizeLine → ∀ (h' : Heap) (c' : Nat), (∀ b o', s.heap.get? b = some o' → h'.get? b = some o') →
     h'.get? s.heap.objs.size = some { cls := .type "list", dict := none, data := .seq its.toArray c', slots := #[] } → EP X pins σ Q (.ref s.heap.objs.size) { s with heap := h' } := fun its r' hz h' c' kp e =>
   ⟨.ref s.heap.objs.size, _, I.laid (t' := s.toks) kp (Nat.le_refl _) (show ObjOk X.prog X.w _ h' _ (.lst ys) from ⟨hz, its, c', r', e⟩), rfl, q _ (I.hok.fresh (Nat.le_refl _))⟩
 rcases hq with hq | hq
 · obtain ⟨its, r', pl, hz⟩ := I.list hq
   have hlen := r'.length
   obtain ⟨o, ho, hc, n, hd⟩ := pl.isList
   exact call_list_seq p (.inl rfl) ho hc hd (fun h' c' kp e => fin its r' hz h' c' kp e) (by simp only [List.size_toArray] <;> omega)
 · obtain ⟨its, r', pl, hz⟩ := I.tuple hq
   have hlen := r'.length
   obtain ⟨o, ho, hc, n, hd⟩ := pl
   exact call_list_seq p (.inr rfl) ho hc hd (fun h' c' kp e => fin its r' hz h' c' kp e) (by simp only [List.size_toArray] <;> omega)
def tyV (K : PySem.W.Frag) (T : String) (x : V) (H : Hp) : Prop := match x with
 | .str _ => T = "str"
 | .int _ => T = "int"
 | .ref p => (T = "list" ∧ ∃ xs, SqL K H p xs) ∨ (T = "tuple" ∧ ∃ o, K.lookup p = some o ∧ o.cls = .type "tuple" ∧ o.dict = none) ∨
     (T = "dict" ∧ ((∃ kvs, H p = some (.dK kvs)) ∨ ∃ kvs, H p = some (.dT kvs))) ∨ (T = "set" ∧ ∃ S n, H p = some (.set S n))
 | _ => False
theorem tyV_is {pins : List (Addr × Obj)} {σ : St} {H : Hp} {s : Shared} {T : String} {x : V} {v : Value} (I : Inv X pins σ H s) (r : RelV x v) (ty : tyV X.K T x H) :
   s.TypeIs v T ∧ ∀ a, v = .ref a → ∃ ob, s.heap.get? a = some ob ∧ ob.dict = none := by
 cases x with
 | str z =>
   obtain ⟨t, rfl⟩ := r
   cases (show T = "str" from ty)
   exact ⟨typeIs_str s z t, fun _ e => nomatch e⟩
 | int i =>
   obtain ⟨t, rfl⟩ := r
   cases (show T = "int" from ty)
   exact ⟨typeIs_int s i t, fun _ e => nomatch e⟩
 | ref p =>
   cases r
   rcases ty with ⟨rfl, xs, hq⟩ | ⟨rfl, o, hk, hc, hd⟩ | ⟨rfl, hk⟩ | ⟨rfl, S, n, hk⟩
   · obtain ⟨its, _, pl, _⟩ := I.list hq
     refine ⟨pl.isList.typeIs, fun a e => ?_⟩
     cases e
     obtain ⟨o, n, e, c, hd, _⟩ := pl
     exact ⟨o, e, hd⟩
   · refine ⟨⟨o, I.kIn p o hk, hc⟩, fun a e => ?_⟩
     cases e
     exact ⟨o, I.kIn _ o hk, hd⟩
   · have z : ∃ o, s.heap.get? p = some o ∧ o.ExactDict := by
       rcases hk with ⟨kvs, hk⟩ | ⟨kvs, hk⟩
       · obtain ⟨_, _, _, _, o, _, _, e, ex, _⟩ := I.hok p _ hk
         exact ⟨o, e, ex⟩
       · obtain ⟨_, _, _, _, o, _, _, e, ex, _⟩ := I.hok p _ hk
         exact ⟨o, e, ex⟩
     obtain ⟨o, e, ex⟩ := z
     refine ⟨⟨o, e, ex.1⟩, fun a e2 => ?_⟩
     cases e2
     exact ⟨o, e, ex.2.1⟩
   · obtain ⟨o, _, _, _, e, ex, _⟩ := I.hok p _ hk
     refine ⟨⟨o, e, ex.1⟩, fun a e2 => ?_⟩
     cases e2
     exact ⟨o, e, ex.2.1⟩
 | _ => exact False.elim ty
def tBM0 (K : PySem.W.Frag) (T : String) (r : V → List V → Hp → VK → Prop) (to : TE) : TE := fun σ H Q => to σ H fun x H1 => tyV K T x H1 ∧ r x [] H1 Q
def tBM (K : PySem.W.Frag) (T : String) (r : V → List V → Hp → VK → Prop) (to : TE) (t : TA) : TE := fun σ H Q => to σ H fun x H1 => tyV K T x H1 ∧ t σ H1 fun xs H2 => r x xs H2 Q
variable {o e : Expr} {es : List Expr} {to : TE} {t : TA} {name : Str} {apos cpos : Pos} {T id : String} {r : V → List V → Hp → VK → Prop}
theorem pe_bm0 (pa : PlainAttrs T) (slot : Slot T name id) (hty : typeOf (.builtin id) = pure (.type "method_descriptor")) (hm : MtR X id r) (ho : PE X o to)
   (hbase : attributeBase o name X.env (eval o X.env) = eval o X.env := by rfl) (hline : (apos.endLine == cpos.line) = true := by rfl) : PE X (.Call (.Attribute o name apos) [] [] cpos) (tBM0 X.K T r to) := by
 intro pins s σ H Q I h
 refine wpAny_Call_method0_late hbase hline (thn (ho pins s σ H _ I h) fun v s1 ⟨x, H1, I1, r1, ty, q1⟩ => ?_)
 obtain ⟨h1, h2⟩ := tyV_is I1 r1 ty
 exact ⟨T, id, pa, slot, hty, h1, h2, Calls.callWith_builtin rfl (PySem.evalArgs_none (hm pins s1 σ H1 x [] v [] Q I1 r1 .nil q1))⟩
theorem pe_bm (pa : PlainAttrs T) (slot : Slot T name id) (hty : typeOf (.builtin id) = pure (.type "method_descriptor")) (hm : MtR X id r) (ho : PE X o to) (ha : PA X (e :: es) t)
   (hbase : attributeBase o name X.env (eval o X.env) = eval o X.env := by rfl)
   (hfew : ((backTo cpos (starEach (e :: es) X.env)).all (fun x => !x.1) && (backToKw cpos (keywordEach [] X.env)).all (fun x => x.1.isSome)
     && decide ((e :: es).length + ([] : List Keyword).length + (if ([] : List Keyword).isEmpty then 0 else 1) < 30)) = true := by rfl)
   (hline : (apos.endLine == cpos.line) = true := by rfl) (hs : starEach (e :: es) X.env = (false, eval e X.env) :: starEach es X.env := by rfl) (hplain : (backTo cpos (starEach es X.env)).any (·.1) = false := by rfl) :
   PE X (.Call (.Attribute o name apos) (e :: es) [] cpos) (tBM X.K T r to t) := by
 intro pins s σ H Q I h
 refine wpAny_Call_method_late hbase hfew hline rfl (thn (ho pins s σ H _ I h) fun v s1 ⟨x, H1, I1, r1, ty, q1⟩ => ?_)
 obtain ⟨h1, h2⟩ := tyV_is I1 r1 ty
 refine ⟨T, id, pa, slot, hty, h1, h2, ?_⟩
 have hA := ha cpos pins s1 σ H1 _ I1 q1
 rw [hs] at hA ⊢
 refine Calls.callWith_builtin (by show (false || (backTo cpos (starEach es X.env)).any (·.1)) = false; rw [hplain] <;> rfl) (Calls.evalArgs_plain ?_)
 exact thn hA fun us s2 ⟨vs, H2, I2, r2, q2⟩ => hm pins s2 σ H2 x vs v us Q I2 r1 r2 q2
/- xs.append(e), list.index on a module's tuple .. are MtR facts of 06m -/
end
end L2
namespace L2
open PySem PySem.Spec PyProof.Rows
def MtM (X : Cx) (id : String) (r : V → List V → Hp → VK → Prop) : Prop :=
 ∀ (pins : List (Addr × Obj)) (s : Shared) (σ : St) (H : Hp) (x : V) (xs : List V) (v : Value) (us : List Value) (Q : VK), Inv X pins σ H s → RelV x v → Vals xs us → r x xs H Q →
   wpAny (model X.prog X.w) X.A (call (.builtin id) (v :: us)) (EP X pins σ Q) X.xe s
theorem Vals.one : ∀ {x : V} {us : List Value}, Vals [x] us → ∃ u, us = [u] ∧ RelV x u
 | _, _, .cons r .nil => ⟨_, rfl, r⟩
theorem Vals.zero : ∀ {us : List Value}, Vals [] us → us = []
 | _, .nil => rfl
theorem Vals.dropLast {xs : List V} {us : List Value} (h : Vals xs us) : Vals xs.dropLast us.dropLast := by
 induction h with
 | nil => exact .nil
 | cons r t ih =>
   cases t with
   | nil => exact .nil
   | cons q t' => exact .cons r ih
theorem Vals.eraseIdx : ∀ {xs : List V} {us : List Value} (i : Nat), Vals xs us → Vals (xs.eraseIdx i) (us.eraseIdx i)
 | _, _, _, .nil => .nil
 | _, _, 0, .cons _ t => t
 | _, _, i + 1, .cons r t => .cons r (Vals.eraseIdx i t)
theorem Vals.rep {xs : List V} {us : List Value} (h : Vals xs us) : ∀ k : Nat, Vals (List.replicate k xs).flatten (List.replicate k us).flatten
 | 0 => .nil
 | k + 1 => by
   rw [List.replicate_succ, List.replicate_succ, List.flatten_cons, List.flatten_cons]
   exact Vals.append h (Vals.rep h k)
theorem erase_last {α : Type} (l : List α) : l.eraseIdx (l.length - 1) = l.dropLast := by
 induction l with
 | nil => rfl
 | cons a r ih =>
   cases r with
   | nil => rfl
   | cons b r =>
     have e : (a :: b :: r).length - 1 = ((b :: r).length - 1) + 1 := by
       have h1 : (a :: b :: r).length = r.length + 2 := rfl
       have h2 : (b :: r).length = r.length + 1 := rfl
       omega
     rw [e, List.eraseIdx_cons_succ, ih]
     all_goals rfl
theorem foldl_rep (its : List Value) : ∀ (k : Nat) (acc : List Value),
   List.foldl (fun x1 x2 => x1 ++ x2) acc.toArray (List.replicate k its.toArray) = (acc ++ (List.replicate k its).flatten).toArray
 | 0, acc => by simp
 | k + 1, acc => by
   have e : acc.toArray ++ its.toArray = (acc ++ its).toArray := by simp
   have e2 : (acc ++ its) ++ (List.replicate k its).flatten = acc ++ (List.replicate (k + 1) its).flatten := by
     rw [List.replicate_succ, List.flatten_cons, List.append_assoc]
   rw [← e2, ← foldl_rep its k (acc ++ its), ← e, List.replicate_succ, List.foldl_cons]
section
variable {X : Cx} {pins : List (Addr × Obj)} {σ : St} {H : Hp} {s : Shared} {l b : Addr} {xs ys zs : List V}
theorem Inv.lset {its its' : List Value} {n : Nat} {f : Array Value → Array Value} {t' : Nat} (I : Inv X pins σ H s) (hH : H l = some (.lst xs))
   (e : s.heap.get? l = some { cls := .type "list", data := .seq its.toArray n }) (hf : f its.toArray = its'.toArray) (hv : Vals ys its') (hz : ys.length ≤ sizeLine) :
   Inv X pins σ (upd H l (.lst ys)) { s with heap := s.heap.update l (Obj.mapSeq f), toks := t' } := by
 have q := PySem.IsL.update e f
 rw [hf] at q
 refine I.write (x := l) (e := l) (by rw [hH]; exact trivial) (.inl rfl) (fun b' u hb hu => (Heap.get?_update_other s.heap (Obj.mapSeq f) (Ne.symm hb)).trans hu) ⟨_, q⟩ ?_
 exact ⟨hz, its', _, hv, q⟩
theorem Inv.lnew {its : List Value} {t' : Nat} (I : Inv X pins σ H s) (hv : Vals ys its) (hz : ys.length ≤ sizeLine) :
   Inv X pins σ (upd H s.heap.objs.size (.lst ys)) { s with heap := s.heap.push { cls := .type "list", data := .seq its.toArray }, toks := t' } :=
 I.laid (fun _ _ q => Heap.get?_push_of_some _ q) (Nat.le_refl _) ⟨hz, its, 0, hv, Heap.get?_push_size _ rfl⟩
theorem Inv.fresh (I : Inv X pins σ H s) : H s.heap.objs.size = none := I.hok.fresh (Nat.le_refl _)
theorem Inv.lstM (I : Inv X pins σ H s) (hH : H l = some (.lst xs)) : xs.length ≤ sizeLine ∧ ∃ (its : List Value) (n : Nat), Vals xs its ∧ xs.length = its.length ∧ s.heap.get? l = some { cls := .type "list", data := .seq its.toArray n } := by
 obtain ⟨z, its, n, r, e⟩ := I.hok l _ hH
 exact ⟨z, its, n, r, r.length, e⟩
theorem notLongL {n : Nat} (h : n ≤ sizeLine) : Builtin.List.listTooLong n = false := by
 unfold Builtin.List.listTooLong
 exact decide_eq_false (by omega)
end
section
variable {X : Cx}
def rAppend : V → List V → Hp → VK → Prop := fun x vs H Q => ∃ l xs y, x = .ref l ∧ vs = [y] ∧ H l = some (.lst xs) ∧ xs.length < sizeLine ∧ Q .non (upd H l (.lst (xs ++ [y])))
theorem mt_append : MtM X "list.append" rAppend := by
 intro pins s σ H x vs v us Q I rx rv h
 obtain ⟨l, xs, y, rfl, rfl, hH, hz, q⟩ := h
 cases rx
 obtain ⟨u, rfl, ru⟩ := rv.one
 obtain ⟨z, its, n, r, hl, e⟩ := I.lstM hH
 refine call_meets F.slot_list_append ⟨_, e, rfl⟩ F.entry_list_append (F.args_list_append_2 _ _) (PySem.list_append l its.toArray n u (by rw [List.size_toArray]; omega)) ⟨e, ?_⟩
 refine ⟨.non, _, I.lset (its' := its ++ [u]) hH e (by simp) (r.append (.cons ru .nil)) ?_, rfl, q⟩
 rw [List.length_append, List.length_singleton]
 omega
def rExtend : V → List V → Hp → VK → Prop := fun x vs H Q => ∃ l b xs zs, x = .ref l ∧ vs = [.ref b] ∧ H l = some (.lst xs) ∧ H b = some (.lst zs) ∧ xs.length + zs.length ≤ sizeLine ∧ Q .non (upd H l (.lst (xs ++ zs)))
theorem mt_extend : MtM X "list.extend" rExtend := by
 intro pins s σ H x vs v us Q I rx rv h
 obtain ⟨l, b, xs, zs, rfl, rfl, hH, hB, hz, q⟩ := h
 cases rx
 obtain ⟨u, rfl, ru⟩ := rv.one
 cases ru
 obtain ⟨z, its, n, r, hl, e⟩ := I.lstM hH
 obtain ⟨z2, its2, n2, r2, hl2, e2⟩ := I.lstM hB
 have hsz : its.toArray.size + its2.toArray.size ≤ sizeLine := by rw [List.size_toArray, List.size_toArray]; omega
 have hlong : ¬ (!its.toArray.isEmpty && Builtin.List.listTooLong (its.toArray.size + its2.toArray.size)) = true := by
   rw [notLongL hsz, Bool.and_false]
   exact Bool.false_ne_true
 refine call_meets F.slot_list_extend ⟨_, e, rfl⟩ F.entry_list_extend (F.args_list_extend_2 _ _)
   (AutoSeq1.list_extend_list_list_0 l its.toArray n b its2.toArray n2 hlong (by rw [List.size_toArray]; omega) (by omega)) ⟨e, e2, ?_⟩
 refine ⟨.non, _, I.lset (its' := its ++ its2) hH e (by simp) (r.append r2) ?_, rfl, q⟩
 rw [List.length_append]
 omega
def rPop : V → List V → Hp → VK → Prop := fun x vs H Q => ∃ l xs y, x = .ref l ∧ vs = [] ∧ H l = some (.lst xs) ∧ xs[xs.length - 1]? = some y ∧ Q y (upd H l (.lst xs.dropLast))
theorem mt_pop : MtM X "list.pop" rPop := by
 intro pins s σ H x vs v us Q I rx rv h
 obtain ⟨l, xs, y, rfl, rfl, hH, hy, q⟩ := h
 cases rx
 have hus := rv.zero
 subst hus
 obtain ⟨z, its, n, r, hl, e⟩ := I.lstM hH
 obtain ⟨u, hu, ru⟩ := r.get hy
 have hy' : its.toArray[its.toArray.size - 1]? = some u := by
   show its.toArray[its.length - 1]? = some u
   rw [← Array.getElem?_toList, ← hl]
   exact hu
 refine call_meets F.slot_list_pop ⟨_, e, rfl⟩ F.entry_list_pop (F.args_list_pop_1 _) (MeetsSeq.list_pop_last l its.toArray n u hy' (by rw [List.size_toArray]; omega)) ⟨e, ?_⟩
 refine ⟨y, _, I.lset (its' := its.dropLast) hH e ?_ r.dropLast ?_, ru, q⟩
 · show its.toArray.eraseIdxIfInBounds (its.toArray.size - 1) = its.dropLast.toArray
   rw [List.size_toArray, List.eraseIdxIfInBounds_toArray, erase_last]
 · rw [List.length_dropLast]
   omega
def rClear : V → List V → Hp → VK → Prop := fun x vs H Q => ∃ l xs, x = .ref l ∧ vs = [] ∧ H l = some (.lst xs) ∧ Q .non (upd H l (.lst []))
theorem mt_clear : MtM X "list.clear" rClear := by
 intro pins s σ H x vs v us Q I rx rv h
 obtain ⟨l, xs, rfl, rfl, hH, q⟩ := h
 cases rx
 have hus := rv.zero
 subst hus
 obtain ⟨z, its, n, r, hl, e⟩ := I.lstM hH
 refine call_meets F.slot_list_clear ⟨_, e, rfl⟩ F.entry_list_clear (F.args_list_clear_1 _) (AutoSeq1.list_clear_list_0 l its.toArray n (by rw [List.size_toArray]; omega)) ⟨e, ?_⟩
 exact ⟨.non, _, I.lset (its' := []) (ys := []) hH e rfl .nil (Nat.zero_le _), rfl, q⟩
def rCat : R2 := fun x y H Q => ∃ l b xs zs, x = .ref l ∧ y = .ref b ∧ H l = some (.lst xs) ∧ H b = some (.lst zs) ∧ xs.length + zs.length ≤ sizeLine ∧ ∀ p, H p = none → Q (.ref p) (upd H p (.lst (xs ++ zs)))
theorem op_cat : OpR X (binaryOp .Add) rCat := by
 intro pins s σ H x y v u Q I rx ry h
 obtain ⟨l, b, xs, zs, rfl, rfl, hH, hB, hz, q⟩ := h
 cases rx
 cases ry
 obtain ⟨z, its, n, r, hl, e⟩ := I.lstM hH
 obtain ⟨z2, its2, n2, r2, hl2, e2⟩ := I.lstM hB
 refine PySem.P.add_list e e2 ?_ (by rw [List.size_toArray, List.size_toArray]; omega)
 have ea : its.toArray ++ its2.toArray = (its ++ its2).toArray := by simp
 rw [ea]
 exact ⟨.ref _, _, I.lnew (t' := s.toks) (r.append r2) (by rw [List.length_append]; omega), rfl, q _ I.fresh⟩
def rRep : R2 := fun x y H Q => ∃ l k xs, x = .ref l ∧ y = .int k ∧ H l = some (.lst xs) ∧ -(2 ^ 63) ≤ k ∧ k < 2 ^ 63 ∧ xs.length * k.toNat ≤ sizeLine ∧
 ∀ p, H p = none → Q (.ref p) (upd H p (.lst (List.replicate k.toNat xs).flatten))
theorem len_rep {α : Type} (xs : List α) (k : Nat) : (List.replicate k xs).flatten.length = k * xs.length := by
 induction k with
 | zero => simp
 | succ k ih => rw [List.replicate_succ, List.flatten_cons, List.length_append, ih, Nat.succ_mul, Nat.add_comm]
theorem op_rep : OpR X (binaryOp .Mult) rRep := by
 intro pins s σ H x y v u Q I rx ry h
 obtain ⟨l, k, xs, rfl, rfl, hH, h1, h2, hz, q⟩ := h
 cases rx
 obtain ⟨t, rfl⟩ := ry
 obtain ⟨z, its, n, r, hl, e⟩ := I.lstM hH
 have hlen : its.toArray.size * k.toNat ≤ sizeLine := by rw [List.size_toArray, ← hl]; exact hz
 have hcap : ¬ its.toArray.size * k.toNat > (2 ^ 63 - 1) / 8 := by
   have : (sizeLine : Nat) ≤ (2 ^ 63 - 1) / 8 := by decide
   omega
 have hfit : ¬ (!Builtin.List.listFitsIndex k) = true := by
   rw [fitsIndex_both h1 h2]
   exact Bool.false_ne_true
 have hlong : ¬ Builtin.List.listTooLong (its.toArray.size * k.toNat) = true := by
   rw [notLongL hlen]
   exact Bool.false_ne_true
 have hnew : List.foldl (fun x1 x2 => x1 ++ x2) #[] (List.replicate (if its.toArray.isEmpty = true then 0 else k.toNat) its.toArray) = (List.replicate k.toNat its).flatten.toArray := by
   have f0 : ∀ m : Nat, List.foldl (fun x1 x2 => x1 ++ x2) #[] (List.replicate m its.toArray) = (List.replicate m its).flatten.toArray := fun m => by
     have := foldl_rep its m []
     rw [List.nil_append] at this
     exact this
   rw [f0]
   cases its with
   | nil => simp
   | cons a r' => rw [if_neg (by simp)]
 refine wpAny_binaryOp_repeat_ref (T := "list") (U := "int") (by decide) ⟨_, e, rfl⟩ (fun s' => typeIs_int s' k t) noFill_list_mul F.fills_int_mul F.slot_int_rmul repeat_list F.slot_int_index.lookup
   (call_meets F.slot_int_rmul (typeIs_int s k t) F.entry_int_rmul (F.args_int_rmul_2 _ _) (int___rmul___int_list k t l its.toArray n)
     ⟨e, rfl, ⟨_, e, rfl⟩, call_meets F.slot_list_mul ⟨_, e, rfl⟩ F.entry_list_mul (F.args_list_mul_2 _ _) (AutoListH.list___mul___list_int_3 l its.toArray n k t hfit hcap hlong) ⟨e, ?_⟩⟩)
 rw [hnew]
 exact ⟨.ref _, _, I.lnew (t' := s.toks) (r.rep k.toNat) (by rw [len_rep, Nat.mul_comm]; exact hz), rfl, q _ I.fresh⟩
end
section
variable {prog : Program} {w : World} {A : Around} {E : Value → Shared → Prop} {s : Shared}
end
section
variable {X : Cx}
end
end L2
namespace Att
open PySem PySem.W PySem.Calls PyProof.Rows
theorem ints_of_wellAll {P : Params} {h : Heap} : ∀ (ns : List Int) (vs : List Value), WellAll P h vs (ns.map WData.int) → IntsAre vs ns := by
 intro ns
 induction ns with
 | nil =>
   intro vs w
   rw [List.map_nil] at w
   cases w
   exact .nil
 | cons n ns ih =>
   intro vs w
   rw [List.map_cons] at w
   cases w with
   | cons a b =>
     cases a
     exact .cons _ _ (ih _ b)
theorem script_of {l : OpenLaw} {n : Nat} (hn : l.most = some n) {P : Params} {h : Heap} {args : List WData} {vals : List Value}
   (hpre : l.row.toRowW.claim.pre args = true) (hwl : WellAll P h vals args) :
   ∃ a vs ns, vals = [Value.ref a] ∧ args = [WData.list (ns.map WData.int)] ∧ h.get? a = some { cls := .type "list", data := .seq vs.toArray } ∧ IntsAre vs ns ∧ ns.length ≤ n := by
 have hsh : WShape.hasAll [] args [.list .int] = true := (pre_splitW hpre).1
 have hc : l.pre.holds [] { args := args } = true := (pre_splitW hpre).2
 obtain ⟨d, r, rfl, h1, h2⟩ := hasAllW_cons hsh
 obtain rfl := hasAllW_nil h2
 obtain ⟨xs, rfl, h3⟩ := hasW_list h1
 obtain ⟨ns, rfl⟩ := items_int h3
 have hlen : ns.length ≤ n := by
   unfold OpenLaw.pre at hc
   have h4 : (WTm.not (.lt (.lit (.int (n : Int))) (.len (.arg 0)))).holds [] { args := [.list (ns.map .int)] } = true := by
     have h4 := (holds_andW hc).1
     rw [hn] at h4
     exact h4
   have h5 := condW_of h4 (w_not (w_lt w_lit (w_len_list (w_arg rfl))))
   rw [List.length_map] at h5
   refine Nat.le_of_not_lt fun q => ?_
   have q' : (n : Int) < ((ns.length : Nat) : Int) := by omega
   first
     | (rw [decide_eq_true q'] at h5; exact absurd h5 (by decide))
     | (simp at h5; omega)
 cases hwl with
 | cons w1 w2 =>
   cases w2
   cases w1 with
   | list ho hall => exact ⟨_, _, ns, rfl, rfl, ho, ints_of_wellAll ns _ hall, hlen⟩
theorem post_true (l : OpenLaw) (args : List WData) : l.row.toRowW.claim.post args (.bool true) args = true :=
 postW_of (r := l.row.toRowW) (X := (true == true))
   (show WShape.has [] (.bool true) .bool = true by first | rfl | decide | simp [WShape.has, WShape.arms, WShape.armsAll])
   (show (WTm.eq .res (.lit (.bool true))).value [] { args := args, res := some (.bool true), after := args } = some (.bool (true == true)) from w_eq_bool (w_res rfl) w_lit) rfl
theorem attach_call {l : OpenLaw} {n : Nat} {q : Program} {loose : List Str} {XP : (Str → Option Value) → Heap → Prop} {YP : World → Heap → Prop} {d : DefRec}
   (hn : l.most = some n) (hdf : d.params.defaults = [])
   (call : ∀ (w : World) (s₀ s₁ : Shared) (mg mb : Str → Option Value) (fa : Addr) (o : Obj) (pm cd doc : Value) (a : Addr) (vs : List Value) (ns : List Int),
     Ground q loose [] XP w s₀ mg mb s₁.heap → YP w s₁.heap →
     s₁.heap.get? fa = some o → o.data = .func (docDef d.name d.params d.body d.scope pm cd doc) → s₁.heap.CodeRec cd d.name → mg d.name = some (.ref fa) →
     s₁.heap.get? a = some { cls := .type "list", data := .seq vs.toArray } → IntsAre vs ns → ns.length ≤ n → s₁.gens = #[] →
     codeAny (model l.prog w) callerA (.call (.ref fa) ⟨[.ref a], []⟩) (fun r s' => r = .ok (.ret (.bool true)) ∧ OldK s₁.heap s'.heap ∧ s'.os = s₁.os ∧ AllBare s'.gens) s₁) :
   WalkO q loose XP YP l.row.toRowW d [] (fun f vs => PySem.call f vs) := by
 intro w s₀ s₁ mg mb G Y fa o pm cd doc dV kV ho hd hcd hD hmg hg args vals as hpre hlay hrd hwl hlo
 obtain rfl : dV = .none := Dflts.none hD hdf
 obtain rfl : kV = .none := Dflts.noKw hD
 obtain ⟨a, vs, ns, rfl, rfl, hobj, hints, hlen⟩ := script_of hn hpre hwl
 refine enter_call (codeAny_mono (call w s₀ s₁ mg mb fa o pm cd doc a vs ns G Y ho (fd_plain hd) hcd hmg hobj hints hlen hg) fun r s' hq => ?_)
 obtain ⟨rfl, h2, h3, h4⟩ := hq
 exact ⟨.inl ⟨.bool true, .bool true, [], rfl, fun _ => rfl, .bool true, post_true l _, fun _ => ⟨List.Pairwise.nil, fun _ hm => (nomatch hm)⟩⟩, h2, h3, h4⟩
section
variable {prog : Program} {w : World} {A : Around} {E : Value → Shared → Prop} {s : Shared} {K : Frag}
end
end Att
namespace L2
open PySem PySem.Spec PyProof.Rows
theorem vals_ints : ∀ {vs : List Value} {ns : List Int}, IntsAre vs ns → Vals (ns.map V.int) vs
 | _, _, .nil => .nil
 | _, _, .cons n t h => .cons ⟨t, rfl⟩ (vals_ints h)
def Only (H : Hp) : Prop := ∀ b, H b = none ∨ ∃ o xs, H b = some (.frz o (.lst xs))
theorem law_call {P : Program} {w : World} {K : PySem.W.Frag} {mg mb : Str → Option Value} {CX : CXT} {k : Nat} {fa a : Addr} {fd : FuncData} {x : Str} {sp : Sp} {s₁ : Shared} {vs : List Value} {ns : List Int}
   (KX : K.In s₁.heap) (hns : s₁.heap.Ns mainGlobals mg) (hb : s₁.heap.Ns builtinsNs mb) (hbb : ∀ x : Str, x ≠ "__name__" → mb x = bootBuiltins x) (hlim : s₁.heap.NoLimit) (hg : s₁.gens = #[])
   (ha : s₁.heap.get? a = some { cls := .type "list", data := .seq vs.toArray }) (hi : IntsAre vs ns) (hl : ns.length ≤ sizeLine) (hr : Room k callerA)
   (F : ∀ base : Heap, K.In base → base.Ns mainGlobals mg → FnOk P w K mg base CX k fa fd [x] sp) (hbind : ∀ (s : Shared) (u : Value), BindsTo s fd ⟨[u], []⟩ [(x, u)])
   (hsp : ∀ H : Hp, Only H → SqL K H a (ns.map V.int) → sp [.ref a] H (fun v _ => v = .bl true) fun _ _ _ => False)
   (hCX : ∀ H e s', CX [] H s₁ (fun _ _ _ => False) e s' → False) :
   codeAny (model P w) callerA (.call (.ref fa) ⟨[.ref a], []⟩) (fun r s' => r = .ok (.ret (.bool true)) ∧ OldK s₁.heap s'.heap ∧ s'.os = s₁.os ∧ AllBare s'.gens) s₁ := by
 have rv := vals_ints hi
 have lenV := hi.length
 -- from an abstract heap in which nothing but the script may be tracked
 have core : ∀ H : Hp, Only H → SqL K H a (ns.map V.int) → HOk P w H s₁.heap → (∀ b, H b ≠ none → b = a) → (H a ≠ none → K.lookup a = none) →
     codeAny (model P w) callerA (.call (.ref fa) ⟨[.ref a], []⟩) (fun r s' => r = .ok (.ret (.bool true)) ∧ OldK s₁.heap s'.heap ∧ s'.os = s₁.os ∧ AllBare s'.gens) s₁ := by
   intro H hO hS hok hA hK
   have base_of : ∀ {b : Addr} {o : Obj}, s₁.heap.get? b = some o → H b = none → (hidT s₁.heap H).get? b = some o := fun e n => hidT_get e n
   have noA : ∀ {b : Addr} {o : Obj} {es : Array DictEntry} {ep : Nat}, s₁.heap.get? b = some o → o.data = .dict es ep → H b = none := fun {b o es ep} e d => by
     cases q : H b with
     | none => rfl
     | some u =>
       have e' : b = a := hA b (by rw [q]; simp)
       subst e'
       rw [ha] at e; cases e
       have d' : Data.seq vs.toArray _ = Data.dict es ep := d
       cases d'
   have nsK : ∀ {b : Addr} {m : Str → Option Value}, s₁.heap.Ns b m → (hidT s₁.heap H).Ns b m := fun {b m} ⟨o, es, ep, e, d, r⟩ => ⟨o, es, ep, base_of e (noA e d), d, r⟩
   have hKb : K.In (hidT s₁.heap H) := fun b o e => base_of (KX b o e) (by
     cases q : H b with
     | none => rfl
     | some u =>
       have e' : b = a := hA b (by rw [q]; simp)
       subst e'
       rw [hK (by rw [q]; simp)] at e; cases e)
   have hM : Mod K mg (hidT s₁.heap H) := ⟨hKb, nsK hns, ⟨mb, nsK hb, hbb⟩, let ⟨mc, h1, h2⟩ := hlim; ⟨mc, nsK h1, h2⟩⟩
   have e0 : Env0 P w K mg (hidT s₁.heap H) callerA [] s₁ H := ⟨rfl, hM, fun b o e => of_hidT e, Nat.le_of_eq (hidT_size _ _), trivial, fun b hb => absurd (show b ∈ ([] : List Addr) from hb) (by simp), hok, .of_eq hg⟩
   refine codeAny_mono ((F _ hKb (nsK hns)).run callerA [] s₁ H ⟨[.ref a], []⟩ [.ref a] [.ref a] _ _ hr e0 (hbind s₁ (.ref a)) (.cons rfl .nil) (hsp H hO hS)) fun r s' h => ?_
   cases r with
   | error e => exact (hCX H e s' h).elim
   | ok fl =>
     cases fl with
     | next => exact False.elim h
     | brk => exact False.elim h
     | cont => exact False.elim h
     | ret u =>
       obtain ⟨v, H', os, bare, un, hok', r', q⟩ := h
       have q' : v = .bl true := q
       subst q'
       obtain rfl : u = Value.bool true := r'
       refine ⟨rfl, OldK.of_keep fun b o e => ?_, os, bare⟩
       cases q : H b with
       | none => exact un.keep b o e q (by intro z; exact absurd (show b ∈ ([] : List Addr) from z) (by simp)) (by simp)
       | some u =>
         rcases hO b with z | ⟨ob, xs, z⟩
         · rw [q] at z; cases z
         · have z2 := un.frzs b ob _ z
           obtain ⟨e1, _⟩ := hok b _ z
           obtain ⟨e2, _⟩ := hok' b _ z2
           rw [e] at e1; cases e1
           exact e2
 cases hk : K.lookup a with
 | some o =>
   -- the script is one of the module's own objects
   have e := KX a o hk
   rw [ha] at e
   cases e
   refine core (fun _ => none) (fun _ => .inl rfl) (.inr ⟨_, vs.toArray, _, hk, rfl, rfl, rfl, by rw [List.size_toArray, lenV]; exact hl, by simpa using rv⟩) (fun b u z => by have z' : (none : Option HO) = some u := z; cases z') (fun b z => absurd rfl z) fun z => absurd rfl z
 | none =>
   refine core (fun b => if b = a then some (.frz { cls := .type "list", data := .seq vs.toArray } (.lst (ns.map V.int))) else none) (fun b => ?_) (.inl (.inr ⟨{ cls := .type "list", data := .seq vs.toArray }, if_pos rfl⟩)) (fun b u z => ?_) (fun b z => ?_) fun _ => hk
   · by_cases hb : b = a
     · exact .inr ⟨_, _, if_pos hb⟩
     · exact .inl (if_neg hb)
   · by_cases hb : b = a
     · have z' := (if_pos hb).symm.trans z
       cases z'
       subst hb
       exact ⟨ha, by rw [List.length_map]; exact hl, vs, _, rv, ha⟩
     · have z' := (if_neg hb).symm.trans z
       cases z'
   · by_cases hb : b = a
     · exact hb
     · exact absurd (if_neg hb) z
end L2
namespace L2
open PySem PySem.Spec PyProof.Rows
theorem walk_of {l : PySem.W.OpenLaw} {n k : Nat} {q : Program} {loose : List Str} {XP : (Str → Option Value) → Heap → Prop} {YP : World → Heap → Prop} {d : DefRec} {K : Params → PySem.W.Frag} {CX : World → CXT} {sp : World → Sp} {x : Str}
   (hn : l.most = some n) (hn2 : n ≤ sizeLine) (hdf : d.params.defaults = []) (hr : Room k callerA)
   (hY : ∀ (w : World) (h : Heap), YP w h → (K w.params).In h)
   (F : ∀ (w : World) (mg : Str → Option Value) (fa : Addr) (h : Heap), (K w.params).In h → h.Ns mainGlobals mg → mg d.name = some (.ref fa) →
     ∃ fd : FuncData, (∀ (s : Shared) (u : Value), BindsTo s fd ⟨[u], []⟩ [(x, u)]) ∧
       ∀ base : Heap, (K w.params).In base → base.Ns mainGlobals mg → FnOk l.prog w (K w.params) mg base (CX w) k fa fd [x] (sp w))
   (hsp : ∀ (w : World) (H : Hp) (a : Addr) (ns : List Int), ns.length ≤ n → Only H → SqL (K w.params) H a (ns.map V.int) → sp w [.ref a] H (fun v _ => v = .bl true) fun _ _ _ => False)
   (hCX : ∀ (w : World) (H : Hp) (s : Shared) (e : Value) (s' : Shared), CX w [] H s (fun _ _ _ => False) e s' → False) :
   PySem.W.WalkO q loose XP YP l.row.toRowW d [] (fun f vs => PySem.call f vs) := by
 refine Att.attach_call hn hdf fun w s₀ s₁ mg mb fa o pm cd doc a vs ns G Y ho hd hcd hmg hobj hints hlen hg => ?_
 have KX := hY w _ Y
 obtain ⟨fd, hb, hF⟩ := F w mg fa _ KX G.T.g hmg
 exact law_call KX G.T.g G.T.b G.T.builtins G.T.nolimit hg hobj hints (Nat.le_trans hlen hn2) hr hF hb (fun H hO hS => hsp w H a ns hlen hO hS) fun H e s' => hCX w H s₁ e s'
end L2
namespace L2
open PySem PySem.Spec PyProof.Rows
abbrev CX0 : CXT := fun _ _ _ _ _ _ => False
abbrev E0 : XK := fun _ _ _ => False
structure Fun (K : PySem.W.Frag) (x qual : Str) (st : Stmt) (f : Addr) (fd : FuncData) : Prop where
 ex : ∃ (oc : Value) (od : Option Addr) (kV doc pm : Value) (an : Option Addr) (cdv ct : Value) (osl : Array (Option Value)),
   fd = PySem.W.fnOf x qual (defArgs st) (defBody st) (defScope st) .none kV doc pm an cdv ct ∧ K.lookup f = some ⟨oc, od, .func fd, osl⟩ ∧ PySem.W.codeIn K cdv qual = true
 kp : PySem.W.keepIn K (.ref f) = true
section
variable {P : Program} {w : World} {K : PySem.W.Frag} {mg : Str → Option Value} {base : Heap}
theorem Fun.ok {x qual : Str} {st : Stmt} {f : Addr} {fd : FuncData} {N ps : List Str} {k : Nat} {sp : Sp} (F : Fun K x qual st f fd) (S : FnScope N ps (defScope st)) (len : ∀ vs H Q E, sp vs H Q E → vs.length = ps.length)
   (hbody : ∀ (cdv : Value) (A : Around) (outer : List Env) (s : Shared) (H : Hp) (vs : List V) (Q : VK) (E : XK), Room k (A.deeper (envOfC qual (defScope st) s.heap.objs.size f cdv)) → sp vs H Q E →
     ∃ t, PSs (cxOf CX0 P w K mg base N qual (defScope st) f cdv A outer s H E).nox (defBody st) t ∧ t { nx := fun _ H' => Q .non H', rt := Q } (start N vs) H) : FnOk P w K mg base CX0 (k + 1) f fd ps sp := by
 obtain ⟨oc, od, kV, doc, pm, an, cdv, ct, osl, rfl, lk, hcd⟩ := F.ex
 refine fn_of lk hcd S len fun A outer s H vs Q E hr hsp => ?_
 obtain ⟨t, h, q⟩ := hbody cdv A outer s H vs Q E hr hsp
 exact ⟨t, h.nox, q⟩
theorem Fun.binds {x qual : Str} {st : Stmt} {f : Addr} {fd : FuncData} {ps : List Str} (F : Fun K x qual st f fd)
   (h : ∀ (kV doc pm : Value) (an : Option Addr) (cdv ct : Value) (us : List Value), us.length = ps.length → bindArgs (PySem.W.fnOf x qual (defArgs st) (defBody st) (defScope st) .none kV doc pm an cdv ct) ⟨us, []⟩ = pure (ps.zip us)) : Binds K fd ps [] := by
 obtain ⟨oc, od, kV, doc, pm, an, cdv, ct, osl, rfl, lk, hcd⟩ := F.ex
 exact .all (h kV doc pm an cdv ct)
theorem fun_mk {x qual : Str} {st : Stmt} {f : Addr} {oc : Value} {od an : Option Addr} {osl : Array (Option Value)} {kV doc pm cdv ct : Value} (l : K.lookup f = some ⟨oc, od, .func (PySem.W.fnOf x qual (defArgs st) (defBody st) (defScope st) .none kV doc pm an cdv ct), osl⟩)
   (c : PySem.W.codeIn K cdv qual = true) (k : PySem.W.keepIn K (.ref f) = true) : Fun K x qual st f (PySem.W.fnOf x qual (defArgs st) (defBody st) (defScope st) .none kV doc pm an cdv ct) := ⟨⟨oc, od, kV, doc, pm, an, cdv, ct, osl, rfl, l, c⟩, k⟩
end
theorem small1000 {n : Nat} (h : n ≤ 1000) : n < sizeLine := Nat.lt_of_le_of_lt h (by decide)
section
variable {X : Cx}
theorem pv (i : Nat) {x : Str} {pos : Pos} (hN : X.N[i]? = some x := by rfl) (hv : Vis X.env.scope x := by first | exact Or.inl rfl | exact Or.inr (Or.inl rfl) | exact Or.inr (Or.inr rfl)) (hd : (x == ("__debug__" : Str)) = false := by decide)
   (hcd : (x == ("__classdict__" : Str)) = false := by decide) : PE X (.Name x pos) (tVar i) := pe_var hN hv hd hcd
end
theorem iteF {A B : Prop} (h : B) : if false = true then A else B := by
 rw [if_neg Bool.false_ne_true]
 exact h
theorem iteT {A B : Prop} (h : A) : if true = true then A else B := by
 rw [if_pos rfl]
 exact h
def Same (H H' : Hp) : Prop := ∀ b o, H b = some o → H' b = some o
theorem Same.refl (H : Hp) : Same H H := fun _ _ h => h
theorem Same.trans {H H1 H2 : Hp} (a : Same H H1) (b : Same H1 H2) : Same H H2 := fun c o h => b c o (a c o h)
theorem Same.free {H H' : Hp} (e : Same H H') {l : Addr} (h : H' l = Option.none) : H l = Option.none := by
 cases q : H l with
 | none => rfl
 | some o =>
   rw [e l o q] at h
   cases h
theorem Same.seq {K : PySem.W.Frag} {H H' : Hp} {a : Addr} {xs : List V} (e : Same H H') (h : SqL K H a xs) : SqL K H' a xs := by
 rcases h with (h | ⟨o, h⟩) | h
 · exact .inl (.inl (e _ _ h))
 · exact .inl (.inr ⟨o, e _ _ h⟩)
 · exact .inr h
end L2
set_option Elab.async false
set_option linter.all false
set_option maxRecDepth 100000
set_option maxHeartbeats 4000000
namespace Stow
structure Pc where
 a : Int
 l : Int
 v : Bool
 deriving DecidableEq
def mkOf (l : Int) (v : Bool) : Int := l * 2 + (if v then 1 else 0)
def Pc.mk' (p : Pc) : Int := mkOf p.l p.v
def Chain : Int → List Pc → Int → Prop
 | s, [], e => s = e
 | s, p :: r, e => p.a = s ∧ 1 ≤ p.l ∧ (p.v = true → 3 ≤ p.l) ∧ Chain (s + p.l) r e
theorem Chain.le : ∀ {ps : List Pc} {s e : Int}, Chain s ps e → s + ps.length ≤ e
 | [], s, e, h => by have h : s = e := h; simp [h]
 | p :: r, s, e, h => by
   obtain ⟨_, h1, _, h2⟩ := h
   have := Chain.le h2
   simp only [List.length_cons]; omega
theorem Chain.app : ∀ {ps qs : List Pc} {s m e : Int}, Chain s ps m → Chain m qs e → Chain s (ps ++ qs) e
 | [], _, s, m, e, h, k => by have h : s = m := h; subst h; exact k
 | p :: r, qs, s, m, e, h, k => by
   obtain ⟨h0, h1, h2, h3⟩ := h
   exact ⟨h0, h1, h2, Chain.app h3 k⟩
theorem Chain.one {p : Pc} (h1 : 1 ≤ p.l) (h3 : p.v = true → 3 ≤ p.l) : Chain p.a [p] (p.a + p.l) := ⟨rfl, h1, h3, rfl⟩
theorem Chain.snoc {ps : List Pc} {s : Int} {p : Pc} (h : Chain s ps p.a) (h1 : 1 ≤ p.l) (h3 : p.v = true → 3 ≤ p.l) : Chain s (ps ++ [p]) (p.a + p.l) := h.app (.one h1 h3)
theorem Chain.mem : ∀ {ps : List Pc} {s e : Int}, Chain s ps e → ∀ p ∈ ps, s ≤ p.a ∧ 1 ≤ p.l ∧ (p.v = true → 3 ≤ p.l) ∧ p.a + p.l ≤ e
 | [], _, _, _, p, hp => by cases hp
 | q :: r, s, e, h, p, hp => by
   obtain ⟨h0, h1, h2, h3⟩ := h
   rcases List.mem_cons.mp hp with rfl | hp
   · have := h3.le
     exact ⟨by omega, h1, h2, by omega⟩
   · obtain ⟨a, b, c, d⟩ := Chain.mem h3 p hp
     exact ⟨by omega, b, c, d⟩
def Marks (cs : List Int) (ps : List Pc) : Prop := ∀ p ∈ ps, cs[p.a.toNat]? = some p.mk' ∧ cs[(p.a + p.l - 1).toNat]? = some p.mk'
theorem Marks.nil (cs : List Int) : Marks cs [] := fun p hp => by cases hp
theorem Marks.snoc {cs ext : List Int} {ps : List Pc} {p : Pc} (hc : Chain 0 ps p.a) (hl : (cs.length : Int) = p.a) (h1 : 1 ≤ p.l) (he : (ext.length : Int) = p.l) (m : Marks cs ps) :
   Marks ((((cs ++ ext).set p.a.toNat p.mk')).set (p.a + p.l - 1).toNat p.mk') (ps ++ [p]) := by
 intro q hq
 have h0 := hc.le
 rcases List.mem_append.mp hq with hq | hq
 · obtain ⟨a1, a2, a3, a4⟩ := hc.mem q hq
   obtain ⟨b1, b2⟩ := m q hq
   have key : ∀ k : Nat, (k : Int) < p.a → ∀ z, cs[k]? = some z → ((((cs ++ ext).set p.a.toNat p.mk')).set (p.a + p.l - 1).toNat p.mk')[k]? = some z := by
     intro k hk z hz
     rw [List.getElem?_set_ne (by omega), List.getElem?_set_ne (by omega), List.getElem?_append_left (by omega)]
     exact hz
   exact ⟨key _ (by omega) _ b1, key _ (by omega) _ b2⟩
 · have e : q = p := by simpa using hq
   subst e
   have len : (cs ++ ext).length = cs.length + ext.length := List.length_append
   constructor
   · by_cases h : (q.a + q.l - 1).toNat = q.a.toNat
     · rw [h, List.getElem?_set_self (by simp; omega)]
     · rw [List.getElem?_set_ne (by omega), List.getElem?_set_self (by simp; omega)]
   · rw [List.getElem?_set_self (by simp; omega)]
theorem mk_long (l : Int) (v : Bool) : mkOf l v / 2 = l := by unfold mkOf; split <;> omega
theorem mk_live (l : Int) (v : Bool) : decide (mkOf l v % 2 = 1) = v := by
 unfold mkOf
 cases v
 · exact decide_eq_false (by simp)
 · exact decide_eq_true (by simp)
def canBegin (ns : List Int) (k : Int) : Bool :=
 if ns.getD k.toNat 0 / 2 < 1 ∨ (ns.length : Int) < k + ns.getD k.toNat 0 / 2 then false else decide (3 ≤ ns.getD k.toNat 0 / 2) || !decide (ns.getD k.toNat 0 % 2 = 1)
def badOf (ns : List Int) (k : Int) : Option Int :=
 if canBegin ns k = true then (if ns.getD (k + ns.getD k.toNat 0 / 2 - 1).toNat 0 = ns.getD k.toNat 0 then none else some (k + ns.getD k.toNat 0 / 2 - 1)) else some k
theorem getD_of {ns : List Int} {k : Nat} {x : Int} (h : ns[k]? = some x) : ns.getD k 0 = x := by rw [List.getD_eq_getElem?_getD, h]; rfl
theorem bad_none {ns : List Int} {p : Pc} (h1 : 1 ≤ p.l) (h3 : p.v = true → 3 ≤ p.l) (hl : p.a + p.l ≤ ns.length) (m1 : ns[p.a.toNat]? = some p.mk') (m2 : ns[(p.a + p.l - 1).toNat]? = some p.mk') : badOf ns p.a = none := by
 have e1 := getD_of m1
 have e2 := getD_of m2
 have e3 : ns.getD p.a.toNat 0 / 2 = p.l := by rw [e1]; exact mk_long _ _
 have hc : canBegin ns p.a = true := by
   unfold canBegin
   rw [e3, if_neg (by omega), e1]
   show (decide (3 ≤ p.l) || !decide (mkOf p.l p.v % 2 = 1)) = true
   rw [mk_live]
   cases hv : p.v with
   | false => simp
   | true => simp [h3 hv]
 unfold badOf
 rw [if_pos hc, e3, e2, e1, if_pos rfl]
end Stow
namespace Stow
theorem canBegin_iff (ns : List Int) (k : Int) : canBegin ns k = true ↔ (1 ≤ ns.getD k.toNat 0 / 2 ∧ k + ns.getD k.toNat 0 / 2 ≤ ns.length ∧ (ns.getD k.toNat 0 % 2 = 1 → 3 ≤ ns.getD k.toNat 0 / 2)) := by
 unfold canBegin
 by_cases h : ns.getD k.toNat 0 / 2 < 1 ∨ (ns.length : Int) < k + ns.getD k.toNat 0 / 2
 · rw [if_pos h]
   constructor
   · intro z; cases z
   · intro z; omega
 · rw [if_neg h]
   simp only [Bool.or_eq_true, decide_eq_true_eq, Bool.not_eq_true', decide_eq_false_iff_not]
   constructor
   · intro z
     refine ⟨by omega, by omega, fun w => ?_⟩
     rcases z with z | z
     · exact z
     · exact absurd w z
   · rintro ⟨_, _, z⟩
     by_cases w : ns.getD k.toNat 0 % 2 = 1
     · exact .inl (z w)
     · exact .inr w
def pcAt (ns : List Int) (k : Int) : Pc := ⟨k, ns.getD k.toNat 0 / 2, decide (ns.getD k.toNat 0 % 2 = 1)⟩
theorem bad_can {ns : List Int} {k : Int} (h : badOf ns k = none) : canBegin ns k = true := by
 unfold badOf at h
 split at h
 · assumption
 · cases h
theorem bad_pos {ns : List Int} {k : Int} (h : badOf ns k = none) : 1 ≤ ns.getD k.toNat 0 / 2 ∧ k + ns.getD k.toNat 0 / 2 ≤ ns.length ∧ (ns.getD k.toNat 0 % 2 = 1 → 3 ≤ ns.getD k.toNat 0 / 2) := (canBegin_iff ns k).mp (bad_can h)
theorem bad_no {ns : List Int} {k : Int} (h : canBegin ns k = false) : badOf ns k = some k := by
 unfold badOf
 rw [if_neg (by rw [h]; exact Bool.false_ne_true)]
theorem bad_last {ns : List Int} {k : Int} (h : canBegin ns k = true) (h2 : ns.getD (k + ns.getD k.toNat 0 / 2 - 1).toNat 0 ≠ ns.getD k.toNat 0) : badOf ns k = some (k + ns.getD k.toNat 0 / 2 - 1) := by
 unfold badOf
 rw [if_pos h, if_neg h2]
theorem bad_well {ns : List Int} {k : Int} (h : canBegin ns k = true) (h2 : ns.getD (k + ns.getD k.toNat 0 / 2 - 1).toNat 0 = ns.getD k.toNat 0) : badOf ns k = none := by
 unfold badOf
 rw [if_pos h, if_pos h2]
def walkF (ns : List Int) (k : Int) : List Pc × Option Int :=
 if h : k < ns.length ∧ badOf ns k = none then
   (pcAt ns k :: (walkF ns (k + ns.getD k.toNat 0 / 2)).1, (walkF ns (k + ns.getD k.toNat 0 / 2)).2)
 else ([], if k < ns.length then badOf ns k else none)
termination_by (ns.length - k).toNat
decreasing_by
 all_goals
   have := bad_pos h.2
   omega
theorem walkF_end {ns : List Int} {k : Int} (h : ¬ k < ns.length) : walkF ns k = ([], none) := by
 rw [walkF, dif_neg (fun z => h z.1), if_neg h]
theorem walkF_bad {ns : List Int} {k b : Int} (h : k < ns.length) (hb : badOf ns k = some b) : walkF ns k = ([], some b) := by
 rw [walkF, dif_neg (fun z => by rw [hb] at z; cases z.2), if_pos h, hb]
theorem walkF_step {ns : List Int} {k : Int} (h : k < ns.length) (hb : badOf ns k = none) : walkF ns k = (pcAt ns k :: (walkF ns (k + ns.getD k.toNat 0 / 2)).1, (walkF ns (k + ns.getD k.toNat 0 / 2)).2) := by
 rw [walkF, dif_pos ⟨h, hb⟩]
def WPre (ns : List Int) (ds : List Pc) (k : Int) : Prop := walkF ns 0 = (ds ++ (walkF ns k).1, (walkF ns k).2)
theorem WPre.nil (ns : List Int) : WPre ns [] 0 := by unfold WPre; simp
theorem WPre.step {ns : List Int} {ds : List Pc} {k : Int} (w : WPre ns ds k) (h : k < ns.length) (hb : badOf ns k = none) : WPre ns (ds ++ [pcAt ns k]) (k + ns.getD k.toNat 0 / 2) := by
 unfold WPre at *
 rw [w, walkF_step h hb]
 simp
theorem WPre.fin {ns : List Int} {ds : List Pc} {k : Int} (w : WPre ns ds k) (h : ¬ k < ns.length) : walkF ns 0 = (ds, none) := by
 unfold WPre at w
 rw [w, walkF_end h]
 simp
theorem WPre.bad {ns : List Int} {ds : List Pc} {k b : Int} (w : WPre ns ds k) (h : k < ns.length) (hb : badOf ns k = some b) : walkF ns 0 = (ds, some b) := by
 unfold WPre at w
 rw [w, walkF_bad h hb]
 simp
end Stow
namespace Stow
end Stow
namespace Stow
theorem pcAt_of {cs : List Int} {p : Pc} (m : cs[p.a.toNat]? = some p.mk') : pcAt cs p.a = p := by
 have e := getD_of m
 unfold pcAt
 rw [e]
 show (⟨p.a, mkOf p.l p.v / 2, decide (mkOf p.l p.v % 2 = 1)⟩ : Pc) = p
 rw [mk_long, mk_live]
theorem walk_of_marks {cs : List Int} : ∀ {ps : List Pc} {k : Int}, Chain k ps cs.length → Marks cs ps → walkF cs k = (ps, none)
 | [], k, h, _ => by
   have h : k = cs.length := h
   exact walkF_end (by omega)
 | p :: r, k, h, m => by
   obtain ⟨ea, h1, h3, h4⟩ := h
   have le := h4.le
   obtain ⟨m1, m2⟩ := m p List.mem_cons_self
   have bn := bad_none h1 h3 (by omega) m1 m2
   rw [ea] at bn
   have e2 : cs.getD k.toNat 0 / 2 = p.l := by rw [← ea, getD_of m1]; exact mk_long _ _
   have ih := walk_of_marks (cs := cs) h4 fun q hq => m q (List.mem_cons_of_mem _ hq)
   rw [walkF_step (by omega) bn, e2, ih, ← ea, pcAt_of m1]
end Stow
namespace Stow
open PySem L2 PyProof.Rows
structure Def (P : Program) (w : World) (K : PySem.W.Frag) (mg : Str → Option Value) (base : Heap) (x : Str) (k : Nat) (ps : List Str) (sp : Sp) : Prop where
 ex : ∃ (f : Addr) (fd : FuncData), FnOk P w K mg base CX0 k f fd ps sp ∧ mg x = some (.ref f) ∧ PySem.W.keepIn K (.ref f) = true ∧ Binds K fd ps []
structure Src (K : PySem.W.Frag) (mg : Str → Option Value) (x : Str) (st : Stmt) : Prop where
 ex : ∃ (f : Addr) (fd : FuncData), Fun K x x st f fd ∧ mg x = some (.ref f)
theorem src_mk {K : PySem.W.Frag} {h : Heap} {mg : Str → Option Value} {x : Str} {st : Stmt} {f : Addr} {oc kV doc pm cdv ct : Value} {od an : Option Addr} {osl : Array (Option Value)} (X : K.In h) (G : h.Ns mainGlobals mg)
   (a : PySem.W.nsIn K mainGlobals x = some (some (.ref f))) (l : K.lookup f = some ⟨oc, od, .func (PySem.W.fnOf x x (defArgs st) (defBody st) (defScope st) .none kV doc pm an cdv ct), osl⟩)
   (c : PySem.W.codeIn K cdv x = true) (k : PySem.W.keepIn K (.ref f) = true) : Src K mg x st := ⟨f, _, fun_mk l c k, PySem.W.mg_of X G a⟩
section
variable {P : Program} {w : World} {K : PySem.W.Frag} {mg : Str → Option Value} {base : Heap}
theorem Src.ok {x : Str} {st : Stmt} {N ps : List Str} {k : Nat} {sp : Sp} (S : Src K mg x st) (sc : FnScope N ps (defScope st))
   (hb : ∀ (kV doc pm : Value) (an : Option Addr) (cdv ct : Value) (us : List Value), us.length = ps.length → bindArgs (PySem.W.fnOf x x (defArgs st) (defBody st) (defScope st) .none kV doc pm an cdv ct) ⟨us, []⟩ = pure (ps.zip us))
   (len : ∀ vs H Q E, sp vs H Q E → vs.length = ps.length)
   (hbody : ∀ (f : Addr) (cdv : Value) (A : Around) (outer : List Env) (s : Shared) (H : Hp) (vs : List V) (Q : VK) (E : XK), Room k (A.deeper (envOfC x (defScope st) s.heap.objs.size f cdv)) → sp vs H Q E →
     ∃ t, PSs (cxOf CX0 P w K mg base N x (defScope st) f cdv A outer s H E).nox (defBody st) t ∧ t { nx := fun _ H' => Q .non H', rt := Q } (start N vs) H) : Def P w K mg base x (k + 1) ps sp := by
 obtain ⟨f, fd, F, hm⟩ := S.ex
 exact ⟨f, fd, F.ok sc len (hbody f), hm, F.kp, F.binds hb⟩
end
section
variable {X : Cx}
theorem call_isi : CallR X (.builtin "isinstance") (fun xs H Q => ∃ x n t b, xs = [x, .ty n] ∧ TyOf X.K H x t ∧ PySem.W.kitOne X.K t (.type n) = some b ∧ Q (.bl b) H) := by
 intro pins s σ H xs us Q I r h
 obtain ⟨x, n, t, b, rfl, ty, e, q⟩ := h
 obtain ⟨u, u', rfl, rx, ry⟩ := vals2 r
 cases (show u' = Value.type n from ry)
 exact isinst_ok I rx ty e fun tk => ⟨.bl b, H, I.tok tk, rfl, q⟩
theorem eqV_self {x : V} (h : flatV x = true) : eqV x x = true := by
 cases x <;> first | rfl | (simp [eqV]; done) | (exact absurd h Bool.false_ne_true)
theorem op_eqL (hu : X.A.units + 64 < cLine) : OpR X (compareOp .Eq) (fun x y H Q => ∃ (a b : Addr) (ns ms : List Int), x = .ref a ∧ y = .ref b ∧ SqL X.K H a (ns.map V.int) ∧ SqL X.K H b (ms.map V.int) ∧ Q (.bl (decide (ns = ms))) H) := by
 intro pins s σ H x y v u Q I rx ry h
 obtain ⟨a, b, ns, ms, rfl, rfl, ha, hb, q⟩ := h
 cases rx
 cases ry
 obtain ⟨its, r1, p1, _⟩ := I.list ha
 obtain ⟨its2, r2, p2, _⟩ := I.list hb
 exact PySem.W.ke_eq_ints p1.isList p2.isList (intsAre_of r1) (intsAre_of r2) hu ⟨.bl _, H, I, rfl, q⟩
end
theorem _root_.L2.Same.new {H : Hp} {p : Addr} {o : HO} (h : H p = none) : Same H (upd H p o) := fun b u e => by
 rw [upd_ne (ne_of_none e h)]
 exact e
theorem _root_.L2.Same.put {H H' : Hp} {p : Addr} {o : HO} (s : Same H H') (h : H p = none) : Same H (upd H' p o) := fun b u e => by
 rw [upd_ne (ne_of_none e h)]
 exact s b u e
theorem small4000 {n : Nat} (h : n ≤ 4000) : n < sizeLine := Nat.lt_of_le_of_lt h (by decide)
theorem two1 : (2 : Int) ^ (1 : Int).toNat = 2 := by decide
theorem atI_map (ns : List Int) (k : Int) (h0 : 0 ≤ k) (h : k < ns.length) : atI (ns.map V.int) k = some (.int (ns.getD k.toNat 0)) := by
 have e : (ns.map V.int)[k.toNat]? = some (.int (ns.getD k.toNat 0)) := by
   rw [List.getElem?_map, List.getD_eq_getElem?_getD, List.getElem?_eq_getElem (by omega)]
   rfl
 have := atI_nat e
 rwa [Int.toNat_of_nonneg h0] at this
theorem live_eq (n : Int) : decide (V.int (Builtin.bitAnd n 1) = V.int 1) = decide (n % 2 = 1) := by
 rw [dec_int, bitAnd_m1]
 rfl
section
variable {K : PySem.W.Frag}
theorem kit_ii : PySem.W.kitOne K (.type "int") (.type "int") = some true := by rfl
theorem kit_bb : PySem.W.kitOne K (.type "bool") (.type "bool") = some true := by rfl
theorem kit_ll : PySem.W.kitOne K (.type "list") (.type "list") = some true := by rfl
theorem kit_tt : PySem.W.kitOne K (.type "tuple") (.type "tuple") = some true := by rfl
theorem kit_ib : PySem.W.kitOne K (.type "int") (.type "bool") = some false := by
 show (if (Value.type "int" == Value.type "bool") = true then some true else PySem.W.kitCls K (.type "int") (.type "bool")) = some false
 rw [if_neg (by decide)]
 show (if PySem.W.kitMeta "bool" = true then PySem.W.subIn K (.type "int") (.type "bool") else none) = some false
 rw [if_pos (by decide +kernel)]
 show (fastBuiltinMro "int").map (·.contains (Value.type "bool")) = some false
 decide +kernel
end
end Stow
namespace Stow
open PySem
structure Noted (fr : List Addr) (e : Addr) (oe : Obj) (fl : Value) (h h' : Heap) : Prop where
 keep : ∀ b o, b ≠ e → b ∉ fr → h.get? b = some o → h'.get? b = some o
 slot : ∀ b o, b ≠ e → h.get? b = some o → ∃ sl, h'.get? b = some { o with slots := sl }
 ent : ∃ (T : Addr) (oT : Obj) (ts : Array Value), h.get? T = none ∧ T ≠ e ∧ h'.get? e = some (oe.mapFields (·.setIfInBounds 1 (.ref T))) ∧ h'.get? T = some oT ∧ oT.data = .fields ts ∧ ts[3]? = some fl
section
variable {M : Model} {A : Around} {E : Value → Shared → Prop} {s : Shared}
theorem entry_x {base : Heap} {env : Env} {outer : List Env} {L e : Addr} {oe : Obj} {vs : Array Value} {head : Value} {had : Bool} {Q : Unit → Shared → Prop} (hfr : A.frames = some (env :: outer)) (hl : s.heap.FunFrames base (env :: outer)) (hf : env.frame = some L)
   (he : s.heap.get? e = some oe) (hd : oe.data = .fields vs) (hsz : 1 < vs.size) (h : ∀ h', Noted ((env :: outer).filterMap (·.frame)) e oe (rawInt L) s.heap h' → Q () { s with heap := h' }) :
   wpAny M A (do
     let a ← frameOf env
     let pl ← entryPlaceOf L had
     let b ← EntryCells.newEntry head a .none (rawInt L) .none pl
     setField (.ref e) 1 b) Q E s := by
 have out : e ∉ (env :: outer).filterMap (·.frame) := fun z => by
   obtain ⟨_, o, q, nf⟩ := hl.mem z
   rw [he] at q
   cases q
   exact nf vs hd
 refine wpAny_bind (wpAny_frameOf_fun hfr hl hf fun hA sA => ?_)
 refine wpAny_bind (wpAny_entryPlaceOf fun pl isP => ?_)
 unfold EntryCells.newEntry newFields
 refine wpAny_bind (wpAny_newObj_type ?_ (isP.sizeOk5 _ _ _ _ _))
 have eA : hA.get? e = some oe := (sA.2.1 e out).trans he
 refine wpAny_setField (Heap.get?_push_of_some _ eA) hd hsz (h _ ?_)
 have apart : hA.objs.size ≠ e := Nat.ne_of_gt (Heap.lt_size eA)
 have other : ∀ {ob : Obj} b o, b ≠ e → hA.get? b = some o → ((hA.push ob).update e (Obj.mapFields (·.setIfInBounds 1 (Value.ref hA.objs.size)))).get? b = some o := fun b o nb q => by
   rw [Heap.get?_update_other _ _ (fun z => nb z.symm)]
   exact Heap.get?_push_of_some _ q
 refine ⟨fun b o nb nf q => other b o nb ((sA.2.1 b nf).trans q), fun b o nb q => ?_, hA.objs.size, _, _, ?_, apart, ?_, (Heap.get?_update_other _ _ (fun z => apart z.symm)).trans (Heap.get?_push_size _ rfl), rfl, ?_⟩
 · obtain ⟨sl, q'⟩ := sA.2.2 b o q
   exact ⟨sl, other b _ nb q'⟩
 · rw [sA.1]
   exact Heap.get?_none_of_le (Nat.le_refl _)
 · exact Heap.get?_update_self _ (Heap.get?_push_of_some _ eA) (Obj.isFreed_of_fields (Obj.data_mapFields hd _))
 · first
     | (simp; done)
     | (rcases isP with rfl | ⟨_, _, _, _, _, _, _, rfl⟩ <;> simp)
theorem mapF_dict (o : Obj) (f : Array Value → Array Value) : (o.mapFields f).dict = o.dict := by
 obtain ⟨c, d, dt, sl⟩ := o
 cases dt <;> rfl
end
def Exc (h : Heap) (x : Addr) (cls : Value) (od : Option Addr) (T : Addr) (fl : Value) : Prop :=
 ∃ (oe : Obj) (vs : Array Value) (oT : Obj) (ts : Array Value), T ≠ x ∧ h.get? x = some oe ∧ oe.cls = cls ∧ oe.dict = od ∧ oe.data = .fields vs ∧ vs[1]? = some (.ref T) ∧ h.get? T = some oT ∧ oT.data = .fields ts ∧ ts[3]? = some fl
def Exc0 (h : Heap) (x : Addr) (cls : Value) (od : Option Addr) : Prop := ∃ (oe : Obj) (vs : Array Value), h.get? x = some oe ∧ oe.cls = cls ∧ oe.dict = od ∧ oe.data = .fields vs ∧ vs[1]? = some .none
structure Upto (fr ex : List Addr) (h h' : Heap) : Prop where
 keep : ∀ b o, b ∉ ex → b ∉ fr → h.get? b = some o → h'.get? b = some o
 slot : ∀ b o, b ∉ ex → h.get? b = some o → ∃ sl, h'.get? b = some { o with slots := sl }
theorem Upto.trans {fr ex ex' : List Addr} {h1 h2 h3 : Heap} (a : Upto fr ex h1 h2) (b : Upto fr ex' h2 h3) : Upto fr (ex ++ ex') h1 h3 :=
 ⟨fun c o n1 n2 q => b.keep c o (fun z => n1 (List.mem_append_right _ z)) n2 (a.keep c o (fun z => n1 (List.mem_append_left _ z)) n2 q), fun c o n1 q => by
   obtain ⟨sl, q1⟩ := a.slot c o (fun z => n1 (List.mem_append_left _ z)) q
   obtain ⟨sl', q2⟩ := b.slot c _ (fun z => n1 (List.mem_append_right _ z)) q1
   exact ⟨sl', q2⟩⟩
theorem Upto.update {fr : List Addr} {h : Heap} {a : Addr} {f : Obj → Obj} : Upto fr [a] h (h.update a f) :=
 ⟨fun b o n _ q => by rw [Heap.get?_update_other _ _ (fun z => n (by simp [z]))]; exact q, fun b o n q => ⟨o.slots, by rw [Heap.get?_update_other _ _ (fun z => n (by simp [z]))]; exact q⟩⟩
section
variable {M : Model} {A : Around} {E : Value → Shared → Prop} {s : Shared}
theorem flight_x {fr : List Addr} {x : Addr} {cls : Value} {od : Option Addr} {T : Addr} {fl : Value} {Q : Unit → Shared → Prop} (ht : Exc s.heap x cls od T fl)
   (h : ∀ h', Upto fr [T] s.heap h' → Exc h' x cls od T .none → Q () { s with heap := h' }) : wpAny M A (setFlight (.ref x) none) Q E s := by
 obtain ⟨oe, vs, oT, ts, ne, ex, hc, hdi, hd, h1, eT, dT, h3⟩ := ht
 unfold setFlight
 refine wpAny_bind (wpAny_field ex hd h1 ?_)
 rw [if_pos (show (Value.ref T != Value.none) = true by simp)]
 have sz : 3 < ts.size := (Array.getElem?_eq_some_iff.mp h3).1
 refine wpAny_setField eT dT sz (h _ .update ⟨oe, vs, _, _, ne, ?_, hc, hdi, hd, h1, Heap.get?_update_self _ eT (Obj.isFreed_of_fields (Obj.data_mapFields dT _)), Obj.data_mapFields dT _, ?_⟩)
 · rw [Heap.get?_update_other _ _ ne]
   exact ex
 · simp [sz]
theorem Noted.exc {fr : List Addr} {x : Addr} {oe : Obj} {vs : Array Value} {fl : Value} {h h' : Heap} (n : Noted fr x oe fl h h') (hd : oe.data = .fields vs) (hsz : 1 < vs.size) : ∃ T, h.get? T = none ∧ Exc h' x oe.cls oe.dict T fl := by
 obtain ⟨T, oT, ts, nT, ne, ex, eT, dT, h3⟩ := n.ent
 exact ⟨T, nT, _, _, oT, ts, ne, ex, Obj.cls_mapFields _ _, mapF_dict _ _, Obj.data_mapFields hd _, by simp [hsz], eT, dT, h3⟩
theorem Noted.upto {fr : List Addr} {x : Addr} {oe : Obj} {fl : Value} {h h' : Heap} (n : Noted fr x oe fl h h') : Upto fr [x] h h' :=
 ⟨fun b o nb nf q => n.keep b o (fun z => nb (by simp [z])) nf q, fun b o nb q => n.slot b o (fun z => nb (by simp [z])) q⟩
theorem look0 {base : Heap} {env : Env} {outer : List Env} {L x : Addr} {cls : Value} {od : Option Addr} {Q : Unit → Shared → Prop} (hfr : A.frames = some (env :: outer)) (hl : s.heap.FunFrames base (env :: outer)) (hf : env.frame = some L) (hx : Exc0 s.heap x cls od)
   (h : ∀ h' T, s.heap.get? T = none → Upto ((env :: outer).filterMap (·.frame)) [x] s.heap h' → Exc h' x cls od T (rawInt L) → Q () { s with heap := h' }) : wpAny M A (noteFrame (.ref x) env) Q E s := by
 obtain ⟨oe, vs, ex, rfl, rfl, hd, h1⟩ := hx
 have sz := (Array.getElem?_eq_some_iff.mp h1).1
 unfold noteFrame
 simp only [hf]
 refine wpAny_bind (wpAny_field ex hd h1 ?_)
 rw [if_neg (by decide)]
 refine entry_x hfr hl hf ex hd sz fun h' n => ?_
 obtain ⟨T, nT, t⟩ := n.exc hd sz
 exact h h' T nT n.upto t
theorem look1 {base : Heap} {env : Env} {outer : List Env} {L x T : Addr} {cls : Value} {od : Option Addr} {Q : Unit → Shared → Prop} (hfr : A.frames = some (env :: outer)) (hl : s.heap.FunFrames base (env :: outer)) (hf : env.frame = some L) (hx : Exc s.heap x cls od T .none)
   (h : ∀ h' T', s.heap.get? T' = none → Upto ((env :: outer).filterMap (·.frame)) [T, x] s.heap h' → Exc h' x cls od T' (rawInt L) → Q () { s with heap := h' }) : wpAny M A (noteFrame (.ref x) env) Q E s := by
 obtain ⟨oe, vs, oT, ts, ne, ex, rfl, rfl, hd, h1, eT, dT, h3⟩ := hx
 have sz := (Array.getElem?_eq_some_iff.mp h1).1
 have sz3 := (Array.getElem?_eq_some_iff.mp h3).1
 unfold noteFrame
 simp only [hf]
 refine wpAny_bind (wpAny_field ex hd h1 ?_)
 rw [if_pos (show (Value.ref T != Value.none) = true by simp)]
 refine wpAny_bind (wpAny_field eT dT h3 ?_)
 rw [if_neg (show ¬ ((Value.none == rawInt L) = true) by simp [rawInt])]
 refine wpAny_bind (wpAny_setField eT dT sz3 ?_)
 have u1 : Upto ((env :: outer).filterMap (·.frame)) [T] s.heap (s.heap.update T (Obj.mapFields (·.setIfInBounds 3 Value.none))) := .update
 have hl2 : (s.heap.update T (Obj.mapFields (·.setIfInBounds 3 Value.none))).FunFrames base (env :: outer) := hl.of_keeps fun b o q nf => by
   have nb : b ≠ T := fun z => by
     subst z
     rw [eT] at q
     cases q
     exact nf ts dT
   exact ⟨o, by rw [Heap.get?_update_other _ _ (fun z => nb z.symm)]; exact q, rfl⟩
 have ex2 : (s.heap.update T (Obj.mapFields (·.setIfInBounds 3 Value.none))).get? x = some oe := by
   rw [Heap.get?_update_other _ _ ne]
   exact ex
 refine entry_x (s := { s with heap := s.heap.update T (Obj.mapFields (·.setIfInBounds 3 Value.none)) }) hfr hl2 hf ex2 hd sz fun h' n => ?_
 obtain ⟨T', nT, t⟩ := n.exc hd sz
 refine h h' T' ?_ (u1.trans n.upto) t
 cases q : s.heap.get? T' with
 | none => rfl
 | some o =>
   by_cases z : T' = T
   · subst z
     rw [Heap.get?_update_self _ eT (Obj.isFreed_of_fields (Obj.data_mapFields dT _))] at nT
     cases nT
   · rw [Heap.get?_update_other _ _ (fun y => z y.symm), q] at nT
     cases nT
theorem leave0 {base : Heap} {env : Env} {outer : List Env} {L x : Addr} {cls : Value} {od : Option Addr} {Q : Unit → Shared → Prop} (hfr : A.frames = some (env :: outer)) (hl : s.heap.FunFrames base (env :: outer)) (hf : env.frame = some L) (hx : Exc0 s.heap x cls od)
   (h : ∀ h' T, s.heap.get? T = none → Upto ((env :: outer).filterMap (·.frame)) [x, T] s.heap h' → Exc h' x cls od T .none → Q () { s with heap := h' }) : wpAny M A (leaving env (.ref x)) Q E s := by
 unfold leaving
 refine wpAny_bind (look0 hfr hl hf hx fun h1 T nT u t => ?_)
 exact flight_x (s := { s with heap := h1 }) (fr := (env :: outer).filterMap (·.frame)) t fun h2 u2 t2 => h h2 T nT (u.trans u2) t2
theorem leave1 {base : Heap} {env : Env} {outer : List Env} {L x T : Addr} {cls : Value} {od : Option Addr} {Q : Unit → Shared → Prop} (hfr : A.frames = some (env :: outer)) (hl : s.heap.FunFrames base (env :: outer)) (hf : env.frame = some L) (hx : Exc s.heap x cls od T .none)
   (h : ∀ h' T', s.heap.get? T' = none → Upto ((env :: outer).filterMap (·.frame)) [T, x, T'] s.heap h' → Exc h' x cls od T' .none → Q () { s with heap := h' }) : wpAny M A (leaving env (.ref x)) Q E s := by
 unfold leaving
 refine wpAny_bind (look1 hfr hl hf hx fun h1 T' nT u t => ?_)
 exact flight_x (s := { s with heap := h1 }) (fr := (env :: outer).filterMap (·.frame)) t fun h2 u2 t2 => h h2 T' nT (u.trans u2) t2
end
end Stow
namespace Stow
open PySem
open Sem (wp)
section
variable {M : Model} {A : Around} {E : Value → Shared → Prop}
variable {nm q nm0 q0 : Str} {C N C0 N0 : Addr} {bs bm bs0 bm0 : List Value} {hdct hdct0 : Bool} {sn sn0 : List Str} {sub sub0 : List Value} {ab ab0 : Bool} {col col0 : Option Bool} {dd dd0 : Option Addr} {k0 k1 k2 k3 k5 j0 j1 j2 j3 j5 : Option Value} {newId newId0 : String}
theorem match_own {h : Heap} {g : Array GenState} {d : Drawn} {t : Nat} {os : OsState} {x : Addr} {ox : Obj} {b : Bool} {Q : Bool → Shared → Prop}
   (hC : h.get? C = some (excClassObj nm q C N bs bm hdct sn sub ab col dd k0 k1 k2 k3 k5 newId)) (hC0 : h.get? C0 = some (excClassObj nm0 q0 C0 N0 bs0 bm0 hdct0 sn0 sub0 ab0 col0 dd0 j0 j1 j2 j3 j5 newId0))
   (hx : h.get? x = some ox) (hcl : ox.cls = .ref C) (hb0 : (Value.ref C0 :: bm0).contains (.type "BaseException") = true) (hb : (Value.ref C :: bm).contains (.ref C0) = b) (k : Q b ⟨h, g, d, t, os⟩) :
   wpAny M A (excMatches (.ref x) (.ref C0)) Q E ⟨h, g, d, t, os⟩ := by
 have f := tc_notTuple
 unfold excMatches
 repeat (first
   | (with_reducible refine wpAny_loadPart_at hx ?_; rw [hcl])
   | with_reducible refine wpAny_loadPart_at hC0 ?_
   | (with_reducible refine wpAny_isSubtype_exc hC0 ?_; rw [hb0])
   | (with_reducible refine wpAny_isSubtype_exc hC ?_; rw [hb])
   | wp_step)
 all_goals (cases b <;> (wp_walk; exact k))
end
end Stow
namespace Stow
open PySem
open Sem (wp)
def Lk (M : Model) (h : Heap) {α : Type} (m : Sem α) (v : α) : Prop := ∀ (A : Around) (E : Value → Shared → Prop) (g : Array GenState) (d : Drawn) (t : Nat) (os : OsState) (Q : α → Shared → Prop), Q v ⟨h, g, d, t, os⟩ → wpAny M A m Q E ⟨h, g, d, t, os⟩
theorem Lk.at {M : Model} {h : Heap} {α : Type} {m : Sem α} {v : α} (l : Lk M h m v) {A : Around} {E : Value → Shared → Prop} {g : Array GenState} {d : Drawn} {t : Nat} {os : OsState} {Q : α → Shared → Prop} (q : Q v ⟨h, g, d, t, os⟩) : wpAny M A m Q E ⟨h, g, d, t, os⟩ := l A E g d t os Q q
section
variable {prog : Program} {w : World} {A : Around} {E : Value → Shared → Prop} {h : Heap} {g : Array GenState} {d : Drawn} {t : Nat} {os : OsState} {a C : Addr} {o : Obj}
structure XLk (prog : Program) (w : World) (h : Heap) (C : Addr) : Prop where
 ga : Lk (model prog w) h (typeLookup (.ref C) "__getattribute__") (some (.builtin "BaseException.__getattribute__"))
 gat : Lk (model prog w) h (typeLookup (.ref C) "__getattr__") none
 cls : Lk (model prog w) h (typeLookup (.ref C) "__class__") (some (.builtin "object.__class__"))
 obj : Lk (model prog w) h (isSubtype (.ref C) (.type "object")) true
 exc : Lk (model prog w) h (isSubtype (.ref C) (.type "BaseException")) true
theorem xc_get {R : Result → Shared → Prop} (L : XLk prog w h C) (hx : h.get? a = some o) (hc : o.cls = .ref C) (k : R (.ok (.ret (.ref C))) ⟨h, g, d, t, os⟩) :
   codeAny (model prog w) A (.call (.builtin "getset_descriptor.__get__") ⟨[.builtin "object.__class__", .ref a, .ref C], []⟩) R ⟨h, g, d, t, os⟩ := by
 have y5 : (⟨h, g, d, t, os⟩ : Shared).TypeIs (.builtin "object.__class__") "getset_descriptor" := F.typeOf_object_class
 have y8 : Lk (model prog w) h (isSubtype (.ref C) (.type (".".intercalate ("object.__class__".cutAt '.').dropLast))) true := by rw [F.owner_object_class]; exact L.obj
 refine codeAny_call_builtin F.slot_gs_get.plain F.entry_gs_get (F.slot_gs_get.check _ _ _ _ _ _ _ _ y5 (F.args_gs_get _ _ _) ?_)
 repeat (any_goals (first
   | assumption
   | (with_reducible refine wpAny_loadPart_at hx ?_; rw [hc])
   | with_reducible refine y8.at ?_
   | wp_step))
 refine ⟨Code.quiet_builtin _ (by decide +kernel), codeAny_builtin F.entry_object_class ?_⟩
 repeat (any_goals (first
   | assumption
   | (with_reducible refine wpAny_loadPart_at hx ?_; rw [hc])
   | wp_step))
theorem xc_entry {tk : Tok} {Q : Fin → Shared → Prop} (L : XLk prog w h C) (hx : h.get? a = some o) (hc : o.cls = .ref C) (k : Q (.done (.ret (.ref C))) ⟨h, g, d, t, os⟩) :
   wpAny (model prog w) A (Builtin.«object.__getattribute__» ⟨[.ref a, .str "__class__" tk], []⟩) Q E ⟨h, g, d, t, os⟩ := by
 have y5 : (⟨h, g, d, t, os⟩ : Shared).TypeIs (.builtin "object.__class__") "getset_descriptor" := F.typeOf_object_class
 have f5 := F.typeOf_object_class
 have f6 := F.slot_gs_get.lookup
 have f7 := F.slot_gs_set.lookup
 have l2 := L.cls
 repeat (any_goals (first
   | assumption
   | (with_reducible refine wpAny_loadPart_at hx ?_; rw [hc])
   | with_reducible refine l2.at ?_
   | wp_step))
 refine xc_get L hx hc ?_
 repeat (any_goals (first | assumption | wp_step))
theorem xc_check {nv : Value} {Q : Unit → Shared → Prop} (L : XLk prog w h C) (hx : h.get? a = some o) (hc : o.cls = .ref C) (k : Q () ⟨h, g, d, t, os⟩) : wpAny (model prog w) A (checkBuiltinCall "BaseException.__getattribute__" ⟨[.ref a, nv], []⟩) Q E ⟨h, g, d, t, os⟩ := by
 have e1 : builtinKind "BaseException.__getattribute__" = some .slot := by decide +kernel
 have e2 : splitId "BaseException.__getattribute__" = some ("BaseException", "__getattribute__") := by decide +kernel
 have ha := F.args_bexc_ga (.ref a) nv
 have l4 := L.exc
 simp only [checkBuiltinCall, e1, e2]
 refine wpAny_bind ?_
 unfold isInstance
 repeat (first
   | (with_reducible refine wpAny_loadPart_at hx ?_; rw [hc])
   | with_reducible refine l4.at ?_
   | wp_step)
 exact k
theorem xc_call {tk : Tok} {R : Result → Shared → Prop} (FB : Slot "ValueError" "__getattribute__" "BaseException.__getattribute__") (L : XLk prog w h C) (hx : h.get? a = some o) (hc : o.cls = .ref C) (k : R (.ok (.ret (.ref C))) ⟨h, g, d, t, os⟩) :
   codeAny (model prog w) A (.call (.builtin "BaseException.__getattribute__") ⟨[.ref a, .str "__class__" tk], []⟩) R ⟨h, g, d, t, os⟩ :=
 codeAny_call_builtin FB.plain F.entry_bexc_ga (xc_check L hx hc (xc_entry L hx hc k))
theorem xc_by {tk : Tok} {fill : Bool} {Q : Value → Shared → Prop} (FB : Slot "ValueError" "__getattribute__" "BaseException.__getattribute__") (L : XLk prog w h C) (hx : h.get? a = some o) (hc : o.cls = .ref C) (k : Q (.ref C) ⟨h, g, d, t, os⟩) :
   wpAny (model prog w) A (getAttrBy (.ref a) (.str "__class__" tk) fill) Q E ⟨h, g, d, t, os⟩ := by
 have f3 := FB.bind (.ref a)
 have x0 : (false && onTheHeap (Value.builtin "BaseException.__getattribute__")) = false := rfl
 have x2 : (Value.builtin "BaseException.__getattribute__" == Value.builtin "object.__getattribute__") = false := by decide +kernel
 have x1 : (onTheHeap (Value.ref C) && Value.builtin "BaseException.__getattribute__" == Value.builtin "object.__getattribute__") = false := by rw [x2, Bool.and_false]
 have l1 := L.ga
 have l2 := L.gat
 repeat (any_goals (first
   | assumption
   | (with_reducible refine wpAny_loadPart_at hx ?_; rw [hc])
   | with_reducible refine l1.at ?_
   | with_reducible refine l2.at ?_
   | wp_step))
 refine xc_call FB L hx hc ?_
 repeat (any_goals (first | assumption | wp_step))
theorem xc_attr {Q : Option Value → Shared → Prop} (FB : Slot "ValueError" "__getattribute__" "BaseException.__getattribute__") (L : XLk prog w h C) (hx : h.get? a = some o) (hc : o.cls = .ref C) (k : Q (some (.ref C)) ⟨h, g, d, t + 1, os⟩) :
   wpAny (model prog w) A (getAttr? (.ref a) "__class__") Q E ⟨h, g, d, t, os⟩ := by
 unfold getAttr? getAttrBy?
 repeat (any_goals (first | assumption | with_reducible apply xc_by FB L hx hc | wp_step))
end
end Stow
namespace Stow
open PySem L2 PyProof.Rows
section
variable {P : Program} {w : World} {H H' : Hp} {h h' g : Heap} {a : Addr} {o : HO}
theorem ok_there (x : ObjOk P w H h a o) : ∃ ob, h.get? a = some ob := by
 cases o with
 | lst xs => obtain ⟨_, _, _, _, e⟩ := x; exact ⟨_, e⟩
 | tup xs => obtain ⟨_, _, _, ob, e, _⟩ := x; exact ⟨_, e⟩
 | dK kvs => obtain ⟨_, _, _, _, ob, _, _, e, _⟩ := x; exact ⟨_, e⟩
 | dT kvs => obtain ⟨_, _, _, _, ob, _, _, e, _⟩ := x; exact ⟨_, e⟩
 | set S n => obtain ⟨ob, _, _, _, e, _⟩ := x; exact ⟨_, e⟩
 | ins C dx fs => obtain ⟨_, _, _, e, _⟩ := x; exact ⟨_, e⟩
 | own y => obtain ⟨_, e⟩ := x; exact ⟨_, e⟩
 | xd fs => obtain ⟨_, ⟨_, _, _, e, _⟩, _⟩ := x; exact ⟨_, e⟩
 | rng lo hi => obtain ⟨_, _, _, e⟩ := x; exact ⟨_, e⟩
 | frz ob u => obtain ⟨e, _⟩ := x; exact ⟨_, e⟩
 | tbl ps => exact ⟨_, (show h.get? a = some _ from x)⟩
 | met f y => exact ⟨_, (show h.get? a = some _ from x)⟩
 | ext φ => obtain ⟨_, e, _⟩ := x; exact e
theorem hok_none (x : HOk P w H h) (e : h.get? a = none) : H a = none := by
 cases q : H a with
 | none => rfl
 | some u =>
   obtain ⟨ob, z⟩ := ok_there (x a u q)
   rw [e] at z
   cases z
theorem hok_upto {fr ex : List Addr} (x : HOk P w H h) (u : Upto fr ex h h') (hf : ∀ b ∈ fr, H b = none) (he : ∀ b ∈ ex, H b = none) : HOk P w H h' := fun a o e => by
 have out : ∀ b v, H b = some v → b ∉ ex ∧ b ∉ fr := fun b v q => ⟨(fun z => by rw [he b z] at q; cases q), (fun z => by rw [hf b z] at q; cases q)⟩
 refine (x a o e).stay (fun b ob hb q => ?_) (fun _ q => q) fun _ _ q => q
 rcases hb with rfl | hb
 · exact u.keep b ob (out b _ e).1 (out b _ e).2 q
 · exact u.keep b ob (out b _ hb).1 (out b _ hb).2 q
theorem un_upto {fs fr ex : List Addr} (u : Un fs [] H H' g h) (v : Upto fr ex h h') (hfr : ∀ b ∈ fr, b ∈ fs ∨ g.get? b = none) (hex : ∀ b ∈ ex, g.get? b = none) : Un fs [] H H' g h' := by
 have nex : ∀ b o, g.get? b = some o → b ∉ ex := fun b o q z => by rw [hex b z] at q; cases q
 refine ⟨fun b o q n hb hx => ?_, fun b o q n hb hx => ?_, u.free, fun b o q hx => ?_, u.tups, u.frzs, u.tbls⟩
 · refine v.keep b o (nex b o q) (fun z => ?_) (u.keep b o q n hb hx)
   rcases hfr b z with z | z
   · exact hb z
   · rw [z] at q
     cases q
 · obtain ⟨sl, q1⟩ := u.slot b o q n hb hx
   obtain ⟨sl', q2⟩ := v.slot b _ (nex b o q) q1
   exact ⟨sl', q2⟩
 · obtain ⟨o', q1⟩ := u.there b o q hx
   obtain ⟨sl, q2⟩ := v.slot b o' (nex b o q) q1
   exact ⟨_, q2⟩
theorem un_new {fs : List Addr} (u : Un fs [] H H' g h) (e : h.get? a = none) : g.get? a = none := by
 cases q : g.get? a with
 | none => rfl
 | some o =>
   obtain ⟨o', z⟩ := u.there a o q (by simp)
   rw [e] at z
   cases z
end
def CXe (P : Program) (w : World) : CXT := fun outer H s E e s' => ∃ (x C T : Addr) (od : Option Addr) (H' : Hp), e = .ref x ∧ s'.os = s.os ∧ AllBare s'.gens ∧ Un (frs outer) [] H H' s.heap s'.heap ∧ HOk P w H' s'.heap ∧
 s.heap.get? x = none ∧ s.heap.get? T = none ∧ H' x = none ∧ H' T = none ∧ Exc s'.heap x (.ref C) od T .none ∧ E (.ref C) od H'
section
variable {P : Program} {w : World} {K : PySem.W.Frag} {mg : Str → Option Value} {base : Heap} {N : List Str} {qual : Str} {scope : Scope} {f : Addr} {cd : Value} {A : Around} {outer : List Env} {s₀ : Shared} {H₀ : Hp} {EX : XK}
theorem xe_made {pins : List (Addr × Obj)} {σ : L2.St} {H : Hp} {s : Shared} {x C : Addr} {od : Option Addr} (I : Inv (cxOf (CXe P w) P w K mg base N qual scope f cd A outer s₀ H₀ EX) pins σ H s) (hx : Exc0 s.heap x (.ref C) od) (nx : s₀.heap.get? x = none) (ux : H x = none) (q : EX (.ref C) od H) :
   (cxOf (CXe P w) P w K mg base N qual scope f cd A outer s₀ H₀ EX).xe (.ref x) s := by
 refine leave0 (base := base) (outer := outer) I.ok.frames I.stack rfl hx fun h' T nT u t => ?_
 have hu : Un (frs outer) [] H₀ H s₀.heap s.heap := I.base
 have uT : H T = none := hok_none I.hok nT
 refine ⟨x, C, T, od, H, rfl, I.os, I.bare, un_upto hu u (fun b hb => ?_) (fun b hb => ?_), hok_upto I.hok u I.stkFree (fun b hb => ?_), nx, un_new hu nT, ux, uT, t, q⟩
 · rcases List.mem_cons.mp hb with rfl | hb
   · exact .inr (Heap.get?_none_of_le (Nat.le_refl _))
   · exact .inl hb
 · rcases List.mem_cons.mp hb with rfl | hb
   · exact nx
   · have e : b = T := by simpa using hb
     subst e
     exact un_new hu nT
 · rcases List.mem_cons.mp hb with rfl | hb
   · exact ux
   · have e : b = T := by simpa using hb
     subst e
     exact uT
theorem pass_x : Passes (CXe P w) (cxOf (CXe P w) P w K mg base N qual scope f cd A outer s₀ H₀ EX) EX := by
 rintro pins σ H s e s' I ⟨x, C, T, od, H', rfl, os, bare, un, hok, nx, nT, ux, uT, t, q⟩
 have I' : Inv (cxOf (CXe P w) P w K mg base N qual scope f cd A outer s₀ H₀ EX) pins σ H' s' := by
   obtain ⟨hh, gg, dd, tt, oo⟩ := s'
   obtain rfl : oo = s.os := os
   have z := I.call (h' := hh) (g' := gg) (d' := dd) (t' := tt) (ch := []) un hok bare (fun b z => absurd z (by simp))
   exact z
 refine leave1 (base := base) (outer := outer) I'.ok.frames I'.stack rfl t fun h' T' nT' u t' => ?_
 have hu : Un (frs outer) [] H₀ H' s₀.heap s'.heap := I'.base
 have hu0 : Un (frs outer) [] H₀ H s₀.heap s.heap := I.base
 have uT' : H' T' = none := hok_none hok nT'
 have n0 : ∀ b ∈ [T, x, T'], s₀.heap.get? b = none := fun b hb => by
   rcases List.mem_cons.mp hb with rfl | hb
   · exact un_new hu0 nT
   · rcases List.mem_cons.mp hb with rfl | hb
     · exact un_new hu0 nx
     · have e : b = T' := by simpa using hb
       subst e
       exact un_new hu nT'
 refine ⟨x, C, T', od, H', rfl, I'.os, I'.bare, un_upto hu u (fun b hb => ?_) n0, hok_upto hok u I'.stkFree (fun b hb => ?_), n0 x (by simp), n0 T' (by simp), ux, uT', t', q⟩
 · rcases List.mem_cons.mp hb with rfl | hb
   · exact .inr (Heap.get?_none_of_le (Nat.le_refl _))
   · exact .inl hb
 · rcases List.mem_cons.mp hb with rfl | hb
   · exact uT
   · rcases List.mem_cons.mp hb with rfl | hb
     · exact ux
     · have e : b = T' := by simpa using hb
       subst e
       exact uT'
end
end Stow
namespace Stow
open PySem L2 PyProof.Rows
theorem exc_cls {K : PySem.W.Frag} {h : Heap} {C : Addr} {bmB : List Value} {newId : String} (X : K.In h) (q : PySem.W.excIn K C bmB newId = true) :
   ∃ (bm : List Value) (N : Addr) (nm qn : Str) (bs : List Value) (hd : Bool) (sn : List Str) (sub : List Value) (ab : Bool) (col : Option Bool) (dd : Option Addr) (k0 k1 k2 k3 k5 : Option Value) (mN : Str → Option Value),
     h.get? C = some (excClassObj nm qn C N bs bm hd sn sub ab col dd k0 k1 k2 k3 k5 newId) ∧ h.Ns N mN ∧ mN "__init__" = none ∧ OwnTail h bmB bm ∧ ∀ v, PySem.W.mroIn K C v = some ((Value.ref C :: bm).contains v) := by
 unfold PySem.W.excIn at q
 split at q
 · rename_i dd cd sl lk
   split at q
   · rename_i C' bm a0 a1 a2 a3 n a5 em es
     simp only [Bool.and_eq_true, beq_iff_eq, Bool.not_eq_true'] at q
     obtain ⟨⟨⟨⟨⟨eC, rfl⟩, nodel⟩, tl⟩, okN⟩, noI⟩ := q
     have eC := eC.symm
     subst eC
     have mro : ∀ v, PySem.W.mroIn K C v = some ((Value.ref C :: bm).contains v) := fun v => by
       unfold PySem.W.mroIn PySem.W.clsIn
       rw [lk]
       first
         | rfl
         | (simp [em]; done)
     obtain ⟨nm, bs, mr, ns, qn, hd, sn, sub, ab, col, del⟩ := cd
     dsimp only at em nodel okN noI
     subst em nodel
     have esl : sl = #[a0, a1, a2, a3, some (.builtin n), a5] := by
       cases sl with
       | mk l =>
         dsimp only at es
         rw [es]
     subst esl
     exact ⟨bm, ns, nm, qn, bs, hd, sn, sub, ab, col, dd, a0, a1, a2, a3, a5, _, X _ _ lk, .of_isNs (PySem.W.isNs_of_in X okN), PySem.W.nsMap_none_of_in X okN noI, PySem.W.tail_of_in X tl, mro⟩
   · cases q
 · cases q
structure XCls (K : PySem.W.Frag) (mg : Str → Option Value) (x : Str) (C : Addr) : Prop where
 bound : mg x = some (.ref C)
 ex : ∃ (bmB : List Value) (B newId initId : String), PySem.W.excIn K C bmB newId = true ∧ ExcBaseFacts B newId initId bmB ∧ bmB.contains (.type "BaseException") = true
def tRaise (C : Addr) (E : XK) (t : TA) : TS := fun _ σ H => t σ H fun xs H1 => xs.length ≤ sizeLine ∧ E (.ref C) none H1
section
variable {P : Program} {w : World} {K : PySem.W.Frag} {mg : Str → Option Value} {base : Heap} {N : List Str} {qual : Str} {scope : Scope} {f : Addr} {cd : Value} {A : Around} {outer : List Env} {s₀ : Shared} {H₀ : Hp} {EX : XK}
theorem ps_raise {x : Str} {C : Addr} {np cpos pos : Pos} {e : Expr} {es : List Expr} {t : TA} (XC : XCls K mg x C) (hh : (cxOf (CXe P w) P w K mg base N qual scope f cd A outer s₀ H₀ EX).A.handled = none)
   (hg : Gl (cxOf (CXe P w) P w K mg base N qual scope f cd A outer s₀ H₀ EX) x) (ha : PA (cxOf (CXe P w) P w K mg base N qual scope f cd A outer s₀ H₀ EX) (e :: es) t)
   (hdb : (x == ("__debug__" : Str)) = false := by decide) (he : starEach (e :: es) (cxOf (CXe P w) P w K mg base N qual scope f cd A outer s₀ H₀ EX).env = (false, eval e (cxOf (CXe P w) P w K mg base N qual scope f cd A outer s₀ H₀ EX).env) :: starEach es (cxOf (CXe P w) P w K mg base N qual scope f cd A outer s₀ H₀ EX).env := by rfl)
   (hpl : (backTo cpos (starEach es (cxOf (CXe P w) P w K mg base N qual scope f cd A outer s₀ H₀ EX).env)).any (·.1) = false := by rfl) :
   PS (cxOf (CXe P w) P w K mg base N qual scope f cd A outer s₀ H₀ EX) (.Raise (some (.Call (.Name x np) (e :: es) [] cpos)) none pos) (tRaise C EX t) := by
 intro pins s σ H D I h
 obtain ⟨bmB, B, newId, initId, q, FB, hB⟩ := XC.ex
 obtain ⟨bm, NN, nm, qn, bs, hd, sn, sub, ab, col, dd, k0, k1, k2, k3, k5, mN, hC, hN, noI, tl, _⟩ := exc_cls I.mod.kin q
 refine wpAny_Raise_call_subT (C := C) (nm := nm) (q := qn) (N := NN) (bs := bs) (bm := bm) (hdct := hd) (sn := sn) (sub := sub) (ab := ab) (col := col) (dd := dd) (k0 := k0) (k1 := k1) (k2 := k2) (k3 := k3) (k5 := k5) FB (mN := mN) (tl.hasType hB) hh
   (by rw [he]; show (false || (backTo cpos (starEach es _)).any (·.1)) = false; rw [hpl]; rfl) noI (ld_glob I hg XC.bound ⟨rfl, ?_⟩ hdb)
 have hA := ha cpos pins s σ H _ I h
 rw [he] at hA ⊢
 refine Calls.evalArgs_plain (thn hA fun us s2 ⟨xs, H2, I2, r2, hz, q2⟩ => ⟨rfl, by rw [← r2.length]; exact hz, I2.bk _ _ hC, hN.keeps I2.bk, tl.keeps I2.bk, fun h' x hm => ?_⟩)
 have I3 : Inv (cxOf (CXe P w) P w K mg base N qual scope f cd A outer s₀ H₀ EX) pins σ H2 { s2 with heap := h' } := I2.kept (t' := s2.toks) hm.keeps
 obtain ⟨tt, ht, _, _⟩ := hm.there
 exact xe_made I3 ⟨_, _, ht, rfl, rfl, rfl, rfl⟩ (un_new (show Un (frs outer) [] H₀ H2 s₀.heap s2.heap from I2.base) hm.new) (hok_none I2.hok hm.new) q2
end
def ExcO (x C : Addr) (od : Option Addr) : HO := .ext fun h => ∃ oe vs, h.get? x = some oe ∧ oe.cls = .ref C ∧ oe.dict = od ∧ oe.data = .fields vs
abbrev Cx.suite (X : Cx) (x : Addr) : Cx := { X with A := X.A.mark (some (.ref x)), calm := false, xe := fun _ _ => False }
theorem ok_suite {X : Cx} (ok : X.Ok) (x : Addr) : (Cx.suite X x).Ok :=
 ⟨ok.mod, ok.kind, ok.glob, ok.blt, ok.above, ok.inj, ok.has, ok.cab, fun z => (nomatch z), ok.frames, ok.stk, ok.exf, ok.bs, ok.bsz, ok.noex, ok.exfs, ok.funs, ok.frf⟩
theorem inv_suite {X : Cx} {pins : List (Addr × Obj)} {σ : L2.St} {H : Hp} {s : Shared} (I : Inv X pins σ H s) (x : Addr) : Inv (Cx.suite X x) pins σ H s := ⟨ok_suite I.ok x, I.os, I.bare, I.base, I.loc, I.cell, I.free, I.freeC, I.pin, I.hok, I.len⟩
theorem inv_unsuite {X : Cx} {pins : List (Addr × Obj)} {σ : L2.St} {H : Hp} {s : Shared} {x : Addr} (ok : X.Ok) (I : Inv (Cx.suite X x) pins σ H s) : Inv X pins σ H s := ⟨ok, I.os, I.bare, I.base, I.loc, I.cell, I.free, I.freeC, I.pin, I.hok, I.len⟩
section
variable {X : Cx}
theorem inv_held {pins : List (Addr × Obj)} {σ : L2.St} {H H' : Hp} {s s' : Shared} {h' : Heap} {x C T : Addr} {od : Option Addr} {fr ex : List Addr} (I : Inv X pins σ H s) (os : s'.os = s.os) (bare : AllBare s'.gens) (un : Un (frs X.stack) [] H H' s.heap s'.heap) (hok : HOk X.prog X.w H' s'.heap)
   (nx : s.heap.get? x = none) (ux : H' x = none) (u : Upto fr ex s'.heap h') (hfr : fr = frs X.stack) (nex : ∀ b ∈ ex, s.heap.get? b = none ∧ H' b = none) (t : Exc h' x (.ref C) od T .none) : Inv X pins σ (upd H' x (ExcO x C od)) { s' with heap := h' } := by
 subst hfr
 have un2 : Un (frs X.stack) [] H H' s.heap h' := un_upto un u (fun b hb => .inl hb) fun b hb => (nex b hb).1
 have stk : ∀ b ∈ frs X.stack, H' b = none := fun b hb => by
   obtain ⟨_, o, ho, _⟩ := I.stack.mem hb
   exact un.free b o ho (I.stkFree b hb) (by simp)
 have hok2 : HOk X.prog X.w H' h' := hok_upto hok u stk fun b hb => (nex b hb).2
 have nex' : ∀ b v, H' b = some v → b ≠ x := fun b v e z => by rw [z, ux] at e; cases e
 have un3 : Un (frs X.stack) [] H (upd H' x (ExcO x C od)) s.heap h' := by
   refine ⟨un2.keep, un2.slot, fun b o q n hx => ?_, un2.there, fun b xs q => ?_, fun b o v q => ?_, fun b ps q => ?_⟩
   · rw [upd_ne (fun z => by rw [z, nx] at q; cases q)]
     exact un2.free b o q n hx
   · rw [upd_ne (nex' b _ (un2.tups b xs q))]
     exact un2.tups b xs q
   · rw [upd_ne (nex' b _ (un2.frzs b o v q))]
     exact un2.frzs b o v q
   · obtain ⟨more, z⟩ := un2.tbls b ps q
     exact ⟨more, by rw [upd_ne (nex' b _ z)]; exact z⟩
 obtain ⟨oe, vs, oT, ts, ne, ee, hc, hd, hf, _⟩ := t
 have hok3 : HOk X.prog X.w (upd H' x (ExcO x C od)) h' := fun b v e => by
   by_cases z : b = x
   · subst z
     rw [upd_same] at e
     cases e
     exact ⟨⟨oe, vs, ee, hc, hd, hf⟩, ⟨oe, ee⟩, fun h1 h2 ⟨o1, v1, q1, q2, q3, q4⟩ k => ⟨o1, v1, k o1 q1, q2, q3, q4⟩⟩
   · rw [upd_ne z] at e
     exact (hok2 b v e).stay (fun _ _ _ q => q) (fun c q => by rw [upd_ne (nex' c _ q)]; exact q) fun c xs q => by rw [upd_ne (nex' c _ q)]; exact q
 obtain ⟨hh, gg, dd, tt, oo⟩ := s'
 obtain rfl : oo = s.os := os
 have z := I.call (h' := h') (g' := gg) (d' := dd) (t' := tt) (ch := []) un3 hok3 bare (fun b z => absurd z (by simp))
 exact z
end
end Stow
namespace Stow
open PySem L2 PyProof.Rows
section
variable {X : Cx}
theorem unbind_ok {M : Model} {A : Around} {E : Value → Shared → Prop} {pins : List (Addr × Obj)} {σ : L2.St} {H : Hp} {s : Shared} {i : Nat} {n : Str} {pos : Pos} {Q : Unit → Shared → Prop} (I : Inv X pins σ H s) (hN : X.N.Nodup) (hi : X.N[i]? = some n)
   (hk : X.env.kindOf n = some .local) (k : ∀ s', Inv X pins (σ.set i none) H s' → Q () s') : wpAny M A (do bindName X.env n .none; unbindBehindTheSuite X.env n pos) Q E s := by
 obtain ⟨m, hn, hl⟩ := id I.loc
 have iσ : i < σ.length := by rw [I.len]; exact (List.getElem?_eq_some_iff.mp hi).1
 refine wpAny_nameGoes_keeps hk hn (by rw [I.ok.kind]; rfl) fun h' v hn' hs => k _ ?_
 have far : ∀ b o, X.s₀.heap.get? b = some o → h'.get? b = s.heap.get? b := fun b o e => hs.2 b (Nat.ne_of_lt (Nat.lt_of_lt_of_le (Heap.lt_size e) I.ok.above))
 refine ⟨I.ok, I.os, I.bare, ⟨fun b o e z hb hx => (far b o e).trans (I.base.keep b o e z hb hx), fun b o e z hb hx => ?_, I.base.free, fun b o e hx => ?_, I.base.tups, I.base.frzs, I.base.tbls⟩, ⟨_, hn', fun j y w' e1 e2 e3 => ?_⟩, fun y c e => ?_, I.free, I.freeC, fun p hp => ?_, fun b ob e => ?_, by rw [List.length_set]; exact I.len⟩
 · obtain ⟨sl, q⟩ := I.base.slot b o e z hb hx
   exact ⟨sl, (far b o e).trans q⟩
 · obtain ⟨o', q⟩ := I.base.there b o e hx
   exact ⟨o', (far b o e).trans q⟩
 · have ji : j ≠ i := fun z => by
     subst z
     rw [List.getElem?_set_self iσ] at e2
     cases e2
   rw [List.getElem?_set_ne (Ne.symm ji)] at e2
   obtain ⟨u', r', q⟩ := hl j y w' e1 e2 e3
   refine ⟨u', r', ?_⟩
   rcases q with ⟨kk, e⟩ | ⟨kk, c, e, z⟩
   · have yn : y ≠ n := fun e => ji (nodup_ix hN e1 (e ▸ hi))
     exact .inl ⟨kk, by simp [yn, e]⟩
   · exact .inr ⟨kk, c, e, z.sameBut hs (I.cne y c e)⟩
 · obtain ⟨w', z⟩ := I.cell y c e
   exact ⟨w', z.sameBut hs (I.cne y c e)⟩
 · obtain ⟨e, z, ne, nf, d⟩ := I.pin p hp
   exact ⟨(hs.2 p.1 ne).trans e, z, ne, nf, d⟩
 · refine (I.hok b ob e).stay (fun c w' hc q => (hs.2 c ?_).trans q) (fun _ q => q) fun _ _ q => q
   rintro rfl
   rcases hc with hc | hc
   · rw [← hc, I.free] at e
     cases e
   · rw [I.free] at hc
     cases hc
def ECls (K : PySem.W.Frag) (C : Addr) (bm : List Value) : Prop := ∃ (nm qn : Str) (N : Addr) (bs : List Value) (hd : Bool) (sn : List Str) (sub : List Value) (ab : Bool) (col : Option Bool) (dd : Option Addr) (k0 k1 k2 k3 k5 : Option Value) (newId : String),
 K.lookup C = some (excClassObj nm qn C N bs bm hd sn sub ab col dd k0 k1 k2 k3 k5 newId)
variable {k : Nat} {f C0 : Addr} {fd : FuncData} {ps : List Str} {sp : Sp} {fx cx : Str} {p cpos epos np hpos pos : Pos} {e : Expr} {es : List Expr} {ta : TA} {b0 : Stmt} {suite : List Stmt} {ts : Addr → TS}
theorem held_x {pins : List (Addr × Obj)} {σ : L2.St} {H : Hp} {s s' : Shared} {EX : XK} {y : Value} {W : Shared → Prop} (I : Inv X pins σ H s) (hst : X.stack = X.env :: X.outer ∧ X.env.frame = some X.env.locals) (hq : CXe X.prog X.w X.stack H s EX y s')
   (k : ∀ (x C : Addr) (od : Option Addr) (T : Addr) (h2 : Heap) (H2 : Hp), y = .ref x → EX (.ref C) od H2 → Exc h2 x (.ref C) od T .none → Inv X pins σ (upd H2 x (ExcO x C od)) { s' with heap := h2 } →
     (∀ h3, Upto (frs X.stack) [T] h2 h3 → Exc h3 x (.ref C) od T .none → H2 x = none ∧ Inv X pins σ (upd H2 x (ExcO x C od)) { s' with heap := h3 }) → W { s' with heap := h2 }) {E' : Value → Shared → Prop} :
   wpAny (model X.prog X.w) X.A (noteFrame y X.env) (fun _ s2 => wpAny (model X.prog X.w) X.A (setFlight y none) (fun _ s3 => W s3) E' s2) E' s' := by
 obtain ⟨x, C, T, od, H', rfl, os, bare, un, hok, nx, nT, ux, uT, t, q⟩ := hq
 have I' : Inv X pins σ H' s' := by
   obtain ⟨hh, gg, dd, tt, oo⟩ := s'
   obtain rfl : oo = s.os := os
   have z := I.call (h' := hh) (g' := gg) (d' := dd) (t' := tt) (ch := []) un hok bare (fun b z => absurd z (by simp))
   exact z
 have efr : (X.env :: X.outer).filterMap (·.frame) = frs X.stack := by rw [hst.1]; rfl
 refine look1 (base := X.base) (outer := X.outer) (by rw [← hst.1]; exact I'.ok.frames) (by rw [← hst.1]; exact I'.stack) hst.2 t fun h1 T' nT' u1 t1 => ?_
 rw [efr] at u1
 refine flight_x (s := { s' with heap := h1 }) (fr := frs X.stack) t1 fun h2 u2 t2 => ?_
 have new : ∀ b ∈ [T, x] ++ [T'] ++ [T'], s.heap.get? b = none ∧ H' b = none := fun b hb => by
   simp only [List.cons_append, List.nil_append, List.mem_cons, List.not_mem_nil, or_false] at hb
   rcases hb with rfl | rfl | rfl | rfl
   · exact ⟨nT, uT⟩
   · exact ⟨nx, ux⟩
   · exact ⟨un_new un nT', hok_none hok nT'⟩
   · exact ⟨un_new un nT', hok_none hok nT'⟩
 refine k x C od T' h2 H' rfl q t2 (inv_held I os bare un hok nx ux (u1.trans u2) rfl (fun b hb => new b (List.mem_append_left _ hb)) t2) fun h3 u3 t3 => ⟨ux, inv_held I os bare un hok nx ux ((u1.trans u2).trans u3) rfl new t3⟩
theorem sp_unsuite {pins : List (Addr × Obj)} {D : Ends} {x : Addr} {fl : Flow} {s' : Shared} (ok : X.Ok) (h : SP (Cx.suite X x) pins D fl s') : SP X pins D fl s' := by
 cases fl with
 | next => obtain ⟨σ', H', I, q⟩ := h; exact ⟨σ', H', inv_unsuite ok I, q⟩
 | brk => obtain ⟨σ', H', I, q⟩ := h; exact ⟨σ', H', inv_unsuite ok I, q⟩
 | cont => obtain ⟨σ', H', I, q⟩ := h; exact ⟨σ', H', inv_unsuite ok I, q⟩
 | ret u => obtain ⟨v, σ', H', I, r, q⟩ := h; exact ⟨v, σ', H', inv_unsuite ok I, r, q⟩
end
end Stow
namespace Stow
open PySem L2 PyProof.Rows
structure Defx (P : Program) (w : World) (K : PySem.W.Frag) (mg : Str → Option Value) (base : Heap) (x : Str) (k : Nat) (ps : List Str) (sp : Sp) : Prop where
 ex : ∃ (f : Addr) (fd : FuncData), FnOk P w K mg base (CXe P w) k f fd ps sp ∧ mg x = some (.ref f) ∧ PySem.W.keepIn K (.ref f) = true ∧ Binds K fd ps []
section
variable {P : Program} {w : World} {K : PySem.W.Frag} {mg : Str → Option Value} {base : Heap}
theorem fun_okx {x qual : Str} {st : Stmt} {f : Addr} {fd : FuncData} {N ps : List Str} {k : Nat} {sp : Sp} (F : Fun K x qual st f fd) (S : FnScope N ps (defScope st)) (len : ∀ vs H Q E, sp vs H Q E → vs.length = ps.length)
   (hbody : ∀ (cdv : Value) (A : Around) (outer : List Env) (s : Shared) (H : Hp) (vs : List V) (Q : VK) (E : XK), Room k (A.deeper (envOfC qual (defScope st) s.heap.objs.size f cdv)) → sp vs H Q E →
     ∃ t, PSs (cxOf (CXe P w) P w K mg base N qual (defScope st) f cdv A outer s H E) (defBody st) t ∧ t { nx := fun _ H' => Q .non H', rt := Q } (start N vs) H) : FnOk P w K mg base (CXe P w) (k + 1) f fd ps sp := by
 obtain ⟨oc, od, kV, doc, pm, an, cdv, ct, osl, rfl, lk, hcd⟩ := F.ex
 exact fn_of lk hcd S len fun A outer s H vs Q E hr hsp => hbody cdv A outer s H vs Q E hr hsp
theorem Src.okx {x : Str} {st : Stmt} {N ps : List Str} {k : Nat} {sp : Sp} (S : Src K mg x st) (sc : FnScope N ps (defScope st))
   (hb : ∀ (kV doc pm : Value) (an : Option Addr) (cdv ct : Value) (us : List Value), us.length = ps.length → bindArgs (PySem.W.fnOf x x (defArgs st) (defBody st) (defScope st) .none kV doc pm an cdv ct) ⟨us, []⟩ = pure (ps.zip us))
   (len : ∀ vs H Q E, sp vs H Q E → vs.length = ps.length)
   (hbody : ∀ (f : Addr) (cdv : Value) (A : Around) (outer : List Env) (s : Shared) (H : Hp) (vs : List V) (Q : VK) (E : XK), Room k (A.deeper (envOfC x (defScope st) s.heap.objs.size f cdv)) → sp vs H Q E →
     ∃ t, PSs (cxOf (CXe P w) P w K mg base N x (defScope st) f cdv A outer s H E) (defBody st) t ∧ t { nx := fun _ H' => Q .non H', rt := Q } (start N vs) H) : Defx P w K mg base x (k + 1) ps sp := by
 obtain ⟨f, fd, F, hm⟩ := S.ex
 exact ⟨f, fd, fun_okx F sc len (hbody f), hm, F.kp, F.binds hb⟩
end
section
variable {X : Cx}
theorem pass_e0 : Passes (CXe X.prog X.w) X E0 := by
 rintro pins σ H s e s' I ⟨x, C, T, od, H', _, _, _, _, _, _, _, _, _, _, q⟩
 exact q.elim
theorem pe_defq {x : Str} {j k : Nat} {ps : List Str} {sp : Sp} {p pos : Pos} {e : Expr} {es : List Expr} {t : TA} (D : Defx X.prog X.w X.K X.mg X.base x j ps sp) (hr : Room k X.A) (hg : Gl X x) (ha : PA X (e :: es) t) (hk : j ≤ k := by decide)
   (hdb : (x == ("__debug__" : Str)) = false := by decide) (he : starEach (e :: es) X.env = (false, eval e X.env) :: starEach es X.env := by rfl) (hpl : (backTo pos (starEach es X.env)).any (·.1) = false := by rfl) :
   PE X (.Call (.Name x p) (e :: es) [] pos) (tCall sp [] E0 t) := by
 obtain ⟨f, fd, F, hm, kp, b⟩ := D.ex
 exact pe_call F (hr.mono hk) hg hm kp b .nil pass_e0 ha hdb he hpl
variable {j k : Nat} {C0 : Addr} {ps : List Str} {sp : Sp} {fx cx : Str} {p cpos epos np hpos pos : Pos} {e : Expr} {es : List Expr} {ta : TA} {b0 : Stmt} {suite : List Stmt} {ts : Addr → TS}
end
theorem Lk.of {M : Model} {h : Heap} {α : Type} {m : Sem α} {v : α} (l : PySem.W.Looks M h m v) : Lk M h m v := fun A E g d t os Q q => l A Q E ⟨h, g, d, t, os⟩ (fun _ _ e => e) q
structure XK0 (K : PySem.W.Frag) (C : Addr) : Prop where
 ga : PySem.W.findIn K (.ref C) "__getattribute__" = some (some (.builtin "BaseException.__getattribute__"))
 gat : PySem.W.findIn K (.ref C) "__getattr__" = some none
 cls : PySem.W.findIn K (.ref C) "__class__" = some (some (.builtin "object.__class__"))
 obj : PySem.W.mroIn K C (.type "object") = some true
 exc : PySem.W.mroIn K C (.type "BaseException") = some true
theorem XK0.lk {prog : Program} {w : World} {K : PySem.W.Frag} {C : Addr} {h : Heap} (x : XK0 K C) (KX : K.In h) : XLk prog w h C :=
 ⟨.of (PySem.W.looks_findIn KX x.ga), .of (PySem.W.looks_findIn KX x.gat), .of (PySem.W.looks_findIn KX x.cls), .of (PySem.W.looks_mroIn KX x.obj), .of (PySem.W.looks_mroIn KX x.exc)⟩
theorem kitx_exc {K : PySem.W.Frag} {x C : Addr} (FB : Slot "ValueError" "__getattribute__" "BaseException.__getattribute__") (Z : XK0 K C) : PySem.W.KitX K (.ref x) (.ref C) (fun h => ∃ ox, h.get? x = some ox ∧ ox.cls = .ref C) where
 ty := fun M h KX ⟨ox, e, hc⟩ A Q E s k q => by
   unfold typeOf
   refine wpAny_bind (wpAny_loadPart (k _ _ e) ?_)
   rw [hc]
   exact wpAny_pure q
 it := fun M h KX _ A Q E s k q => by
   obtain ⟨cd, hcd, _⟩ := Option.bind_eq_some_iff.mp Z.obj
   unfold PySem.W.clsIn at hcd
   split at hcd
   · rename_i lk
     unfold isType loadHead
     exact wpAny_bind (wpAny_loadPart (k _ _ (KX _ _ lk)) (wpAny_pure q))
   · cases hcd
 ne := fun h tp dd its n sl KX htp => by
   obtain ⟨cd, hcd, _⟩ := Option.bind_eq_some_iff.mp Z.obj
   refine Bool.eq_false_iff.mpr fun q => ?_
   have e : C = tp := Value.ref.inj (beq_iff_eq.mp q)
   subst e
   unfold PySem.W.clsIn at hcd
   split at hcd
   · rename_i lk
     have z := (KX _ _ lk).symm.trans htp
     cases z
   · cases hcd
 ca := fun {_ _ _ _ _ s} KX ⟨ox, e, hc⟩ k => by
   obtain ⟨h, g, d, t, os⟩ := s
   exact xc_attr FB (Z.lk KX) e hc k
def clsV : V → Value
 | .ty n => .type n
 | .ref a => .ref a
 | _ => .none
section
variable {X : Cx}
theorem call_isiX (FB : Slot "ValueError" "__getattribute__" "BaseException.__getattribute__") : CallR X (.builtin "isinstance") (fun xs H Q => ∃ x C od v b, xs = [.ref x, v] ∧ H x = some (ExcO x C od) ∧ XK0 X.K C ∧ clsV v ≠ .none ∧ PySem.W.kitOne X.K (.ref C) (clsV v) = some b ∧ Q (.bl b) H) := by
 intro pins s σ H xs us Q I r h
 obtain ⟨x, C, od, v, b, rfl, hx, Z, nv, e, q⟩ := h
 obtain ⟨u, u', rfl, rx, ry⟩ := vals2 r
 cases (show u = Value.ref x from rx)
 have ev : u' = clsV v := by
   cases v with
   | ty n => exact ry
   | ref a => exact ry
   | _ => exact absurd rfl nv
 subst ev
 obtain ⟨⟨oe, vs, ee, hc, _⟩, _⟩ := I.hok x _ hx
 exact PySem.W.kia_one (kitx_exc FB Z) I.kIn ⟨oe, ee, hc⟩ e (fun z => nomatch z) fun tk => ⟨.bl b, H, I.tok tk, rfl, q⟩
end
end Stow
namespace Stow
open PySem L2 PyProof.Rows
open PySem.W in
theorem refuse_base (self : Value) : refuseLoop self "__setattr__" [.type "ValueError", .type "Exception", .type "BaseException", .type "object"] = pure () := by kernel_rfl
def excTail : List Value → Bool
 | .ref _ :: r => excTail r
 | l => l == [.type "ValueError", .type "Exception", .type "BaseException", .type "object"]
open PySem.W in
theorem refuse_tail (self : Value) : ∀ {l : List Value}, excTail l = true → refuseLoop self "__setattr__" l = pure ()
 | .ref c :: r, e => by rw [refuseLoop_ref]; exact refuse_tail self e
 | [], e => by cases e
 | .none :: r, e => by cases e
 | .type n :: r, e => by
   have e' : (Value.type n :: r) = [.type "ValueError", .type "Exception", .type "BaseException", .type "object"] := beq_iff_eq.mp e
   rw [e']
   exact refuse_base self
 | .ellipsis :: r, e => by cases e
 | .notImplemented :: r, e => by cases e
 | .bool b :: r, e => by cases e
 | .int i t :: r, e => by cases e
 | .float i t :: r, e => by cases e
 | .str i t :: r, e => by cases e
 | .bytes i t :: r, e => by cases e
 | .builtin i :: r, e => by cases e
section
variable {prog : Program} {w : World} {A : Around} {K : PySem.W.Frag} {x C : Addr} {s : Shared}
open PySem.W in
theorem set_exc0 {E : Value → Shared → Prop} {ox : Obj} {vs : Array Value} {name : Str} {v : Value} {cd : ClassData} {Q : Unit → Shared → Prop} (X : K.In s.heap) (hx : s.heap.get? x = some ox) (hcl : ox.cls = .ref C) (hdi : ox.dict = none) (hda : ox.data = .fields vs)
   (hs : findIn K (.ref C) "__setattr__" = some (some (.builtin "object.__setattr__"))) (hc : clsIn K C = some cd) (ho : excTail cd.mro = true) (hm : mroIn K C (.type "object") = some true) (hd : cd.hasDict = true) (ht : findIn K (.ref C) name = some none)
   (h : ∀ h' dx, s.heap.get? dx = none → dx ≠ x → h'.get? x = some { ox with dict := some dx } → h'.Ns1 dx (fun y => if y = name then some v else none) → (∀ b o, b ≠ x → s.heap.get? b = some o → h'.get? b = some o) → Q () { s with heap := h', toks := s.toks + 2 }) :
   wpAny (model prog w) A (setAttr (.ref x) name v) Q E s := by
 have I : InstAt s.heap x ox C none := ⟨hx, hcl, by unfold notCls; rw [hda], by rw [hdi]; trivial⟩
 refine set_plain X I hs ?_
 have SF := PySem.F.store_object
 have sub : Looks (model prog w) s.heap (isInstance (.ref x) (.type "object")) true := I.type.andThen (looks_mroIn X hm)
 refine codeAny_call_builtin SF.slot.plain SF.entry (@check_slot (model prog w) _ _ { s with toks := s.toks + 1 } "object.__setattr__" "object" "__setattr__" (.ref x) [.str name s.toks, v] [] _ SF.kind SF.split sub (SF.args (.ref x) (.str name s.toks) v) ?_)
 have mro : Looks (model prog w) s.heap (mroOf (.ref C)) cd.mro := (looks_clsIn X hc).andThen .now
 rw [osa_eq, refuse_eq]
 refine wpAny_bind (wpAny_bind (Looks.here (s := { s with toks := s.toks + 1 }) I.type (wpAny_bind (Looks.here (s := { s with toks := s.toks + 1 }) mro ?_))))
 rw [refuse_tail _ ho]
 refine wpAny_pure (wpAny_bind (Looks.here (s := { s with toks := s.toks + 1 }) I.type (wpAny_bind (Looks.here (s := { s with toks := s.toks + 1 }) (looks_findIn X ht) (wpAny_bind (wpAny_pure ?_))))))
 show wpAny _ _ (Builtin.ObjectAttr.storeInOwnDict (.ref x) (.ref C) _ name v _) _ _ _
 unfold Builtin.ObjectAttr.storeInOwnDict
 obtain ⟨c0, d0, dt0, sl0⟩ := ox
 dsimp only at hcl hdi hda
 subst hcl hdi hda
 refine wpAny_bind (wpAny_pure (wpAny_bind (wpAny_bind (wpAny_loadPart hx (wpAny_bind (Looks.here (s := { s with toks := s.toks + 1 }) (looks_clsIn X hc) ?_))))))
 rw [hd]
 show wpAny (model prog w) A.in1 (do
   let d ← alloc { cls := Value.type "dict", data := Data.dict #[] }
   update x fun o => { o with dict := some d }
   dictMade (.ref C) x d) _ _ _
 refine wpAny_bind (wpAny_alloc ?_)
 refine wpAny_bind (wpAny_update (Heap.get?_push_of_some _ hx) ?_)
 refine wpAny_pure (a := some s.heap.objs.size) (wpAny_bind (wpAny_pure (wpAny_bind ?_)))
 have ne : s.heap.objs.size ≠ x := Nat.ne_of_gt (Heap.lt_size hx)
 have n0 : ((s.heap.push { cls := .type "dict", data := .dict #[] }).update x fun o => { o with dict := some s.heap.objs.size }).Ns1 s.heap.objs.size (fun _ => none) := by
   have e1 : (s.heap.push { cls := .type "dict", data := .dict #[] }).get? s.heap.objs.size = some { cls := .type "dict", data := .dict #[] } := Heap.get?_push_size s.heap rfl
   have e3 : (s.heap.push { cls := .type "dict", data := .dict #[] }).Ns s.heap.objs.size (fun _ => none) := ⟨_, #[], _, e1, rfl, (fun e he => absurd he (by simp)), fun _ => rfl⟩
   exact (Heap.Ns1.of_empty e3).at fun o q => by rw [Heap.get?_update_other _ _ (fun z => ne z.symm)]; exact q
 refine wpAny_nsSet1 n0 fun h' hn2 hs2 => ?_
 obtain ⟨oD, esD, epD, hoD, hdD, hcD⟩ := hn2.count (PySem.Within.cons name v (ns := []) (fun y hy => absurd rfl hy))
 refine wpAny_bind (wpAny_lookBehind hoD (by rw [hdD]; exact pastItsLine_dict (Nat.le_trans hcD (by show 1 ≤ sizeLine + 1; exact Nat.le_add_left 1 _))) ?_)
 refine wpAny_pure (h _ s.heap.objs.size (Heap.get?_none_of_le (Nat.le_refl _)) ne ?_ hn2 fun b o nb q => ?_)
 · rw [hs2.2 x (fun z => ne z.symm)]
   exact Heap.get?_update_self _ (Heap.get?_push_of_some _ hx) rfl
 · rw [hs2.2 b (Nat.ne_of_lt (Heap.lt_size q))]
   show ((s.heap.push _).update x _).get? b = some o
   rw [Heap.get?_update_other _ _ (fun z => nb z.symm)]
   exact Heap.get?_push_of_some _ q
end
end Stow
namespace Stow
open PySem
open Sem (wp)
section
variable {prog : Program} {w : World} {A : Around} {E : Value → Shared → Prop} {h : Heap} {g : Array GenState} {d : Drawn} {t : Nat} {os : OsState} {a C : Addr} {o : Obj} {name : Str} {v : Value}
end
end Stow
namespace Stow
open PySem L2 PyProof.Rows
structure XSet (K : PySem.W.Frag) (C : Addr) (f : Str) : Prop where
 sa : PySem.W.findIn K (.ref C) "__setattr__" = some (some (.builtin "object.__setattr__"))
 cd : ∃ cd, PySem.W.clsIn K C = some cd ∧ excTail cd.mro = true ∧ cd.hasDict = true
 ob : PySem.W.mroIn K C (.type "object") = some true
 no : PySem.W.findIn K (.ref C) f = some none
def ExcN (x C : Addr) (od : Option Addr) : HO := .ext fun h => ∃ tt, h.get? x = some { cls := .ref C, dict := od, data := .fields #[.ref tt, .none, .none, .none, .bool false, .none] }
def sFldX (K : PySem.W.Frag) (ta tv : TE) (f : Str) : TS := fun D σ H => tv σ H fun y H1 => ta σ H1 fun x H2 => ∃ a C, x = .ref a ∧ H2 a = some (ExcN a C none) ∧ XSet K C f ∧ ∀ dx, H2 dx = none → D.nx σ (upd (upd H2 dx (.xd [(f, y)])) a (ExcN a C (some dx)))
section
variable {X : Cx} {o e value : Expr} {f : Str} {pos pos' : Pos} {ta tv : TE}
theorem ps_fldX (ha : PE X o ta) (hv : PE X value tv) (hs : swapsWith value (some (.Attribute o f pos')) pos.line X.env = pure false := by rfl) : PS X (.Assign [.Attribute o f pos'] value pos) (sFldX X.K ta tv f) := by
 intro pins s σ H D I h
 refine plainObj_wpAny_Assign_Attribute (thn (hv pins s σ H _ I h) fun u s1 ⟨y, H1, I1, ry, q⟩ => thn (ha pins s1 σ H1 _ I1 q) fun ov s2 ⟨x, H2, I2, rx, a, C, ex, ea, Z, q2⟩ => ?_) hs
 subst ex
 obtain rfl : ov = Value.ref a := rx
 obtain ⟨⟨tt, ee⟩, _⟩ := I2.hok a _ ea
 obtain ⟨cd, hcd, ht, hdi⟩ := Z.cd
 refine set_exc0 I2.kIn ee rfl rfl rfl Z.sa hcd ht Z.ob hdi Z.no fun h' dx nd ne e' n' kp => ?_
 have ud : H2 dx = none := hok_none I2.hok nd
 have nda : a ≠ dx := fun z => ne z.symm
 refine ⟨σ, _, ?_, q2 dx ud⟩
 -- the dict is laid, the exception bears it
 have un : Un X.fs [] H2 (upd (upd H2 dx (.xd [(f, y)])) a (ExcN a C (some dx))) s2.heap h' := by
   refine ⟨fun b ob qb n _ _ => kp b ob (fun z => by rw [z, ea] at n; cases n) qb, fun b ob qb n _ _ => ⟨ob.slots, kp b ob (fun z => by rw [z, ea] at n; cases n) qb⟩, fun b ob qb n _ => ?_, fun b ob qb _ => ?_, fun b xs qb => ?_, fun b ob v' qb => ?_, fun b ps qb => ?_⟩
   · rw [upd_ne (fun z => by rw [z, ea] at n; cases n), upd_ne (fun z => by rw [z, nd] at qb; cases qb)]
     exact n
   · by_cases z : b = a
     · subst z
       exact ⟨_, e'⟩
     · exact ⟨ob, kp b ob z qb⟩
   · rw [upd_ne (fun z => by rw [z, ea] at qb; cases qb), upd_ne (ne_of_none qb ud)]
     exact qb
   · rw [upd_ne (fun z => by rw [z, ea] at qb; cases qb), upd_ne (ne_of_none qb ud)]
     exact qb
   · exact ⟨#[], by rw [upd_ne (fun z => by rw [z, ea] at qb; cases qb), upd_ne (ne_of_none qb ud), qb]; simp⟩
 have hok : HOk X.prog X.w (upd (upd H2 dx (.xd [(f, y)])) a (ExcN a C (some dx))) h' := fun b v' qb => by
   by_cases z : b = a
   · subst z
     rw [upd_same] at qb
     cases qb
     exact ⟨⟨tt, e'⟩, ⟨_, e'⟩, fun h1 h2 ⟨t1, q1⟩ k => ⟨t1, k _ q1⟩⟩
   · rw [upd_ne z] at qb
     by_cases z2 : b = dx
     · subst z2
       rw [upd_same] at qb
       cases qb
       refine ⟨_, n', fun g => ?_⟩
       show RelO (List.lookup g [(f, y)]) (if g = f then some u else none)
       by_cases zg : g = f
       · subst zg
         rw [if_pos rfl, List.lookup_cons_self]
         exact ry
       · rw [if_neg zg, List.lookup_cons, show (g == f) = false from beq_false_of_ne zg]
         trivial
     · rw [upd_ne z2] at qb
       refine (I2.hok b v' qb).stay (fun c w' hcw q => kp c w' (fun y' => ?_) q) (fun c q => ?_) fun c xs q => ?_
       · subst y'
         rcases hcw with r | r
         · exact z r.symm
         · rw [ea] at r
           cases r
       · rw [upd_ne (fun z => by rw [z, ea] at q; cases q), upd_ne (ne_of_none q ud)]
         exact q
       · rw [upd_ne (fun z => by rw [z, ea] at q; cases q), upd_ne (ne_of_none q ud)]
         exact q
 exact I2.un un hok
end
end Stow
namespace Stow
open PySem
open Sem (wp)
section
variable {prog : Program} {w : World} {A : Around} {E : Value → Shared → Prop} {h : Heap} {g : Array GenState} {d : Drawn} {t : Nat} {os : OsState}
variable {nm q : Str} {C N : Addr} {bs bm bmB : List Value} {hdct : Bool} {sn : List Str} {sub : List Value} {ab : Bool} {col : Option Bool} {dd : Option Addr} {k0 k1 k2 k3 k5 : Option Value} {B newId initId : String}
theorem make_exc1 (FB : ExcBaseFacts B newId initId bmB) (TL : OwnTail h bmB bm) {args : List Value} {fI : Addr} {oI : Obj} {Q : Fin → Shared → Prop} (hC : h.get? C = some (excClassObj nm q C N bs bm hdct sn sub ab col dd k0 k1 k2 k3 k5 newId))
   (LI : PySem.W.Looks (model prog w) h (typeLookup (.ref C) "__init__") (some (.ref fI))) (hfI : h.get? fI = some oI) (hfc : oI.cls = .type "function")
   (k : ∀ h' e, Heap.MadeExcOf h h' e (.ref C) args → wpAny (model prog w) A (call (.ref fI) (.ref e :: args)) (fun r s' => r = .none ∧ Q (.done (.ret (.ref e))) s') E ⟨h', g, d, t, os⟩) (hz : args.length ≤ sizeLine) :
   wpAny (model prog w) A (Builtin.«type.__call__» ⟨.ref C :: args, []⟩) Q E ⟨h, g, d, t, os⟩ := by
 repeat (first
   | with_reducible refine wpAny_loadPart_at hC ?_
   | with_reducible refine wpAny_madeBy_exc hC ?_
   | wp_step)
 refine codeAny_call_builtin_code (Code.quiet_builtin _ FB.quiet) (wpAny_check_new_subT FB TL hC (codeAny_exc_new_subT FB TL hC ?_ hz))
 show wpAny _ _ _ _ _ _
 have kp : ∀ b o, h.get? b = some o → ((h.push { cls := .type "tuple", data := .seq args.toArray }).push { cls := .ref C, data := .fields #[.ref h.objs.size, .none, .none, .none, .bool false, .none] }).get? b = some o :=
   fun b o z => Heap.get?_push_of_some _ (Heap.get?_push_of_some _ z)
 have gC := kp _ _ hC
 have gE : ((h.push { cls := .type "tuple", data := .seq args.toArray }).push { cls := .ref C, data := .fields #[.ref h.objs.size, .none, .none, .none, .bool false, .none] }).get? (h.objs.size + 1)
     = some { cls := .ref C, data := .fields #[.ref h.objs.size, .none, .none, .none, .bool false, .none] } := by heap_get
 have cC : (Value.ref C :: bm).contains (.ref C) = true := by simp
 unfold isInstance
 repeat (first
   | with_reducible refine wpAny_loadPart_at gE ?_
   | (with_reducible refine wpAny_isSubtype_exc gC ?_; rw [cC])
   | wp_step)
 show wpAny _ _ (typeLookup (.ref C) _) _ _ _
 refine LI _ _ _ _ kp ?_
 refine wpAny_holding (wpAny_bind ?_)
 unfold bindSpecial
 refine wpAny_bind (wpAny_typeOf (T := "function") ⟨_, kp _ _ hfI, hfc⟩ ?_)
 rw [if_pos (by decide)]
 refine wpAny_pure (wpAny_bind (wpAny_mono (k _ (h.objs.size + 1) ⟨kp, Heap.get?_none_of_le (Nat.le_succ _), h.objs.size, gE, Heap.get?_none_of_le (Nat.le_refl _), ?_⟩) (fun r s' hr => ?_) fun _ _ z => z))
 · exact Heap.get?_push_of_some _ (Heap.get?_push_at rfl rfl)
 · obtain ⟨rfl, z⟩ := hr
   wp_walk
   exact z
theorem make_exc2 (FB : ExcBaseFacts B newId initId bmB) (TL : OwnTail h bmB bm) {args : List Value} {fI : Addr} {oI : Obj} {Q : Value → Shared → Prop} (hC : h.get? C = some (excClassObj nm q C N bs bm hdct sn sub ab col dd k0 k1 k2 k3 k5 newId))
   (LI : PySem.W.Looks (model prog w) h (typeLookup (.ref C) "__init__") (some (.ref fI))) (hfI : h.get? fI = some oI) (hfc : oI.cls = .type "function")
   (k : ∀ h' e, Heap.MadeExcOf h h' e (.ref C) args → wpAny (model prog w) (A.under (.builtin "type.__call__" ⟨.ref C :: args, []⟩)) (call (.ref fI) (.ref e :: args)) (fun r s' => r = .none ∧ Q (.ref e) s') E ⟨h', g, d, t, os⟩) (hz : args.length ≤ sizeLine) :
   wpAny (model prog w) A (call (.ref C) args) Q E ⟨h, g, d, t, os⟩ := by
 have y1 := tc_lookup
 have y2 := tc_bind (.ref C)
 have y3 : (⟨h, g, d, t, os⟩ : Shared).TypeIs (.ref C) "type" := ⟨_, hC, rfl⟩
 refine wpAny_call (codeAny_of_tree ?_)
 show wpAny _ _ (callAny (.ref C) _) _ _ _
 repeat (any_goals (first
   | assumption
   | with_reducible refine wpAny_loadPart_at hC ?_
   | wp_step))
 refine ⟨rfl, codeAny_call_builtin_at (Code.quiet_builtin _ (by decide +kernel)) entry_typeCall (wpAny_check_type_call_sub hC (make_exc1 FB TL hC LI hfI hfc (fun h' e hm => ?_) hz))⟩
 exact k h' e hm
theorem raise_exc {M : Model} {env : Env} {s : Shared} {x : Sem Value} {Q : Flow → Shared → Prop} (hbase : bm.contains (.type "BaseException") = true) (hh : A.handled = none)
   (k : wpAny M A x (fun v s1 => ∃ e od tt, v = .ref e ∧ s1.heap.get? C = some (excClassObj nm q C N bs bm hdct sn sub ab col dd k0 k1 k2 k3 k5 newId) ∧ s1.heap.get? e = some { cls := .ref C, dict := od, data := .fields #[.ref tt, .none, .none, .none, .bool false, .none] } ∧ E (.ref e) s1) E s) :
   wpAny M A (raiseStmt env (some x) none) Q E s := by
 have cB : (Value.ref C :: bm).contains (.type "BaseException") = true := by rw [List.contains_cons, hbase, Bool.or_true]
 unfold raiseStmt
 refine wpAny_bind (wpAny_mono k (fun v s1 k1 => ?_) fun _ _ z => z)
 obtain ⟨e, od, tt, rfl, hC, he, z⟩ := k1
 obtain ⟨hp, gg, d1, tk, os1⟩ := s1
 repeat (first
   | with_reducible refine wpAny_loadPart_at he ?_
   | with_reducible refine wpAny_loadPart_at hC ?_
   | (with_reducible refine wpAny_isSubtype_exc hC ?_; rw [cB])
   | wp_step)
 exact wpAny_raiseNew_none hh z
end
end Stow
namespace Stow
open PySem L2 PyProof.Rows
structure XIni (K : PySem.W.Frag) (mg : Str → Option Value) (x : Str) (C C0 fI : Addr) : Prop where
 bound : mg x = some (.ref C)
 lk : ∃ (nm qn : Str) (N : Addr) (bs : List Value) (hd : Bool) (sn : List Str) (sub : List Value) (ab : Bool) (col : Option Bool) (dd : Option Addr) (k0 k1 k2 k3 k5 : Option Value),
   K.lookup C = some (excClassObj nm qn C N bs (.ref C0 :: [.type "ValueError", .type "Exception", .type "BaseException", .type "object"]) hd sn sub ab col dd k0 k1 k2 k3 k5 "ValueError.__new__")
 base : PySem.W.excIn K C0 [.type "ValueError", .type "Exception", .type "BaseException", .type "object"] "ValueError.__new__" = true
 ini : PySem.W.findIn K (.ref C) "__init__" = some (some (.ref fI))
 keep : PySem.W.keepIn K (.ref C) = true
 fn : ∃ (c : Value) (dd : Option Addr) (da : Data) (sl : Array (Option Value)), K.lookup fI = some ⟨c, dd, da, sl⟩ ∧ c = .type "function"
def del (H : Hp) (x : Addr) : Hp := fun b => if b = x then none else H b
theorem del_same {H : Hp} {x : Addr} : del H x x = none := by unfold del; rw [if_pos rfl]
theorem del_ne {H : Hp} {x b : Addr} (h : b ≠ x) : del H x b = H b := by unfold del; rw [if_neg h]
theorem inv_del {X : Cx} {pins : List (Addr × Obj)} {σ : L2.St} {H : Hp} {s : Shared} {x : Addr} {φ : Heap → Prop} (I : Inv X pins σ H s) (e : H x = some (.ext φ)) : Inv X pins σ (del H x) s := by
 have nx : ∀ b v, H b = some v → v ≠ .ext φ → b ≠ x := fun b v q n z => by
   subst z
   rw [e] at q
   exact n (Option.some.inj q).symm
 have un : Un X.fs [] H (del H x) s.heap s.heap := by
   refine ⟨fun b o q _ _ _ => q, fun b o q _ _ _ => ⟨o.slots, q⟩, fun b o q n _ => ?_, fun b o q _ => ⟨o, q⟩, fun b xs q => ?_, fun b o v q => ?_, fun b ps q => ⟨#[], ?_⟩⟩
   · by_cases z : b = x
     · rw [z]
       exact del_same
     · rw [del_ne z]
       exact n
   · rw [del_ne (nx b _ q (by intro z; cases z))]
     exact q
   · rw [del_ne (nx b _ q (by intro z; cases z))]
     exact q
   · rw [del_ne (nx b _ q (by intro z; cases z)), q]
     simp
 have hok : HOk X.prog X.w (del H x) s.heap := fun b v q => by
   by_cases z : b = x
   · rw [z, del_same] at q
     cases q
   · rw [del_ne z] at q
     refine (I.hok b v q).stay (fun _ _ _ z => z) (fun c q' => ?_) fun c xs q' => ?_
     · rw [del_ne (nx c _ q' (by intro z; cases z))]
       exact q'
     · rw [del_ne (nx c _ q' (by intro z; cases z))]
       exact q'
 exact I.un (h' := s.heap) (t' := s.toks) un hok
theorem inv_new {X : Cx} {pins : List (Addr × Obj)} {σ : L2.St} {H : Hp} {s : Shared} {h' : Heap} {x C tt : Addr} (I : Inv X pins σ H s) (nx : s.heap.get? x = none) (kp : ∀ b o, s.heap.get? b = some o → h'.get? b = some o)
   (e : h'.get? x = some { cls := .ref C, data := .fields #[.ref tt, .none, .none, .none, .bool false, .none] }) : Inv X pins σ (upd H x (ExcN x C none)) { s with heap := h' } := by
 have ux : H x = none := hok_none I.hok nx
 have un : Un X.fs [] H (upd H x (ExcN x C none)) s.heap h' := by
   refine ⟨fun b o q _ _ _ => kp b o q, fun b o q _ _ _ => ⟨o.slots, kp b o q⟩, fun b o q n _ => ?_, fun b o q _ => ⟨o, kp b o q⟩, fun b xs q => ?_, fun b o v q => ?_, fun b ps q => ⟨#[], ?_⟩⟩
   · rw [upd_ne (fun z => by rw [z, nx] at q; cases q)]
     exact n
   · rw [upd_ne (ne_of_none q ux)]
     exact q
   · rw [upd_ne (ne_of_none q ux)]
     exact q
   · rw [upd_ne (ne_of_none q ux), q]
     simp
 have hok : HOk X.prog X.w (upd H x (ExcN x C none)) h' := fun b v q => by
   by_cases z : b = x
   · subst z
     rw [upd_same] at q
     cases q
     exact ⟨⟨tt, e⟩, ⟨_, e⟩, fun h1 h2 ⟨t1, q1⟩ k => ⟨t1, k _ q1⟩⟩
   · rw [upd_ne z] at q
     refine (I.hok b v q).stay (fun c w' _ q' => kp c w' q') (fun c q' => ?_) fun c xs q' => ?_
     · rw [upd_ne (ne_of_none q' ux)]
       exact q'
     · rw [upd_ne (ne_of_none q' ux)]
       exact q'
 exact I.un (t' := s.toks) un hok
theorem run_excI {X : Cx} {x : Str} {C C0 fI : Addr} {fd : FuncData} {ps : List Str} {sp : Sp} {j : Nat} {pins : List (Addr × Obj)} {σ : L2.St} {H : Hp} {s : Shared} {Q : VK} {us : List Value} {vs : List V} (XI : XIni X.K X.mg x C C0 fI) (F : FnOk X.prog X.w X.K X.mg X.base (CXe X.prog X.w) j fI fd ps sp)
   (hr : Room (j + 1) X.A) (hb : Binds X.K fd ps []) (I : Inv X pins σ H s) (r : Vals vs us) (hz : vs.length ≤ 1000) (h : ∀ y, H y = none → sp (.ref y :: vs) (upd H y (ExcN y C none)) (fun v H2 => v = .non ∧ Q (.ref y) H2) E0) :
   wpAny (model X.prog X.w) X.A (call (.ref C) us) (fun u s' => EP X pins σ Q u s' ∧ ∃ y, u = .ref y ∧ s.heap.get? y = none) X.xe s := by
 obtain ⟨nm, qn, NN, bs, hd, sn, sub, ab, col, dd, k0, k1, k2, k3, k5, lkC⟩ := XI.lk
 obtain ⟨bm, N0, nm0, qn0, bs0, hd0, sn0, sub0, ab0, col0, dd0, j0, j1, j2, j3, j5, mN0, hC0, hN0, noI, tl, _⟩ := exc_cls I.kIn XI.base
 have FB := PySem.F.excBase_ValueError
 have TL : OwnTail s.heap [.type "ValueError", .type "Exception", .type "BaseException", .type "object"] (.ref C0 :: [.type "ValueError", .type "Exception", .type "BaseException", .type "object"]) := .own hC0 hN0 noI .base
 obtain ⟨cI, dI, daI, slI, lkI, ecI⟩ := XI.fn
 have gC := I.kIn _ _ lkC
 have gI := I.kIn _ _ lkI
 have LI := PySem.W.looks_findIn (M := model X.prog X.w) I.kIn XI.ini
 obtain ⟨hp, gg, d1, tk, os1⟩ := s
 refine make_exc2 FB TL gC LI gI ecI (fun h' y hm => ?_) (by rw [← r.length]; exact Nat.le_of_lt (small1000 hz))
 obtain ⟨tt, ey, _, _⟩ := hm.there
 have I2 := inv_new I hm.new hm.keeps ey
 have uy : H y = none := hok_none I.hok hm.new
 have hq := h y uy
 have r2 : Vals (V.ref y :: vs) (Value.ref y :: us) := .cons rfl r
 have hl : ((Value.ref y :: us) ++ []).length = ps.length := by
   rw [List.append_nil, ← F.len _ _ _ _ hq]
   exact r2.length.symm
 have bd := hb _ (Value.ref y :: us) I2.kIn hl
 rw [List.append_nil] at bd
 refine wpAny_call (codeAny_mono (F.run _ X.stack _ _ ⟨Value.ref y :: us, []⟩ (Value.ref y :: us) _ _ E0 (hr.make C us []) (I2.env0.make C us []) bd r2 hq) fun rs s' hq' => ?_)
 cases rs with
 | error e => obtain ⟨_, _, _, _, _, _, _, _, _, _, _, _, _, _, _, z⟩ := hq'; exact z.elim
 | ok fl =>
   cases fl with
   | ret u =>
     obtain ⟨v, H', I3, rv, ev, q3⟩ := I2.after hq'
     subst ev
     exact ⟨rv, ⟨V.ref y, H', I3, rfl, q3⟩, y, rfl, hm.new⟩
   | next => exact False.elim hq'
   | brk => exact False.elim hq'
   | cont => exact False.elim hq'
def tRaiseI (C : Addr) (sp : Sp) (E : XK) (t : TA) : TS := fun _ σ H => t σ H fun vs H1 => vs.length ≤ 1000 ∧ ∀ y, H1 y = none → sp (.ref y :: vs) (upd H1 y (ExcN y C none)) (fun v H2 => v = .non ∧ ∃ z, V.ref y = V.ref z ∧ ∃ od, H2 z = some (ExcN z C od) ∧ E (.ref C) od (del H2 z)) E0
section
variable {P : Program} {w : World} {K : PySem.W.Frag} {mg : Str → Option Value} {base : Heap} {N : List Str} {qual : Str} {scope : Scope} {f : Addr} {cd : Value} {A : Around} {outer : List Env} {s₀ : Shared} {H₀ : Hp} {EX : XK}
theorem ps_raiseI {x : Str} {C C0 fI : Addr} {fd : FuncData} {ps : List Str} {sp : Sp} {j k : Nat} {np cpos pos : Pos} {e : Expr} {es : List Expr} {t : TA} (XI : XIni K mg x C C0 fI) (F : FnOk P w K mg base (CXe P w) j fI fd ps sp) (hb : Binds K fd ps [])
   (hr : Room k (cxOf (CXe P w) P w K mg base N qual scope f cd A outer s₀ H₀ EX).A)
   (hg : Gl (cxOf (CXe P w) P w K mg base N qual scope f cd A outer s₀ H₀ EX) x) (ha : PA (cxOf (CXe P w) P w K mg base N qual scope f cd A outer s₀ H₀ EX) (e :: es) t) (hj : j + 1 ≤ k := by decide)
   (hdb : (x == ("__debug__" : Str)) = false := by decide) (he : starEach (e :: es) (cxOf (CXe P w) P w K mg base N qual scope f cd A outer s₀ H₀ EX).env = (false, eval e (cxOf (CXe P w) P w K mg base N qual scope f cd A outer s₀ H₀ EX).env) :: starEach es (cxOf (CXe P w) P w K mg base N qual scope f cd A outer s₀ H₀ EX).env := by rfl)
   (hpl : (backTo cpos (starEach es (cxOf (CXe P w) P w K mg base N qual scope f cd A outer s₀ H₀ EX).env)).any (·.1) = false := by rfl) :
   PS (cxOf (CXe P w) P w K mg base N qual scope f cd A outer s₀ H₀ EX) (.Raise (some (.Call (.Name x np) (e :: es) [] cpos)) none pos) (tRaiseI C sp EX t) := by
 intro pins s σ H D I h
 obtain ⟨nm, qn, NN, bs, hd, sn, sub, ab, col, dd, k0, k1, k2, k3, k5, lkC⟩ := id XI.lk
 have hB : (Value.ref C0 :: [.type "ValueError", .type "Exception", .type "BaseException", .type "object"] : List Value).contains (.type "BaseException") = true := by
   rw [List.contains_cons, PySem.F.excBase_ValueError.hasBase, Bool.or_true]
 rw [arm_exec_Raise]
 refine wpAny_bind (wpAny_standAt (raise_exc (C := C) (nm := nm) (q := qn) (N := NN) (bs := bs) (bm := .ref C0 :: [.type "ValueError", .type "Exception", .type "BaseException", .type "object"]) (hdct := hd) (sn := sn) (sub := sub) (ab := ab) (col := col) (dd := dd) (k0 := k0) (k1 := k1) (k2 := k2) (k3 := k3) (k5 := k5) (newId := "ValueError.__new__") hB hr.hd ?_))
 refine wpAny_bind (wpAny_mono ?_ (fun v s1 hv => wpAny_bind (wpAny_standAt (wpAny_pure hv))) (fun _ _ z => z))
 refine wpAny_Call_Name_kw (ld_glob I hg XI.bound ?_ hdb)
 refine PySem.W.callWith_K (h₀ := base) I.ok.mod.kin XI.keep (thn (ha cpos pins s σ H _ I h) fun us s1 ⟨vs, H1, I1, r, hz, q⟩ => ⟨I1.kIn, ?_⟩) he hpl
 refine thn (run_excI XI F (hr.mono hj) hb I1 r hz (Q := fun u H2 => ∃ z, u = .ref z ∧ ∃ od, H2 z = some (ExcN z C od) ∧ EX (.ref C) od (del H2 z)) (fun y hy => q y hy)) fun u s2 ⟨⟨v, H2, I2, rv, y, ev, od, ey, qe⟩, y', eu, ny⟩ => ?_
 · subst ev
   obtain rfl : u = Value.ref y := rv
   cases eu
   obtain ⟨⟨tt, g1⟩, _⟩ := I2.hok y _ ey
   refine ⟨y, od, tt, rfl, I2.kIn _ _ lkC, g1, ?_⟩
   exact xe_made (inv_del I2 ey) ⟨_, _, g1, rfl, rfl, rfl, rfl⟩ (un_new (show Un (frs outer) [] H₀ H1 s₀.heap s1.heap from I1.base) ny) del_same qe
end
end Stow
set_option Elab.async false
set_option linter.all false
set_option maxRecDepth 100000
set_option maxHeartbeats 4000000
namespace Stow
open PySem L2 PyProof.Rows
structure DefI (P : Program) (w : World) (K : PySem.W.Frag) (mg : Str → Option Value) (base : Heap) (x : Str) (C C0 : Addr) (j : Nat) (ps : List Str) (sp : Sp) : Prop where
 ex : ∃ (fI : Addr) (fd : FuncData), XIni K mg x C C0 fI ∧ FnOk P w K mg base (CXe P w) j fI fd ps sp ∧ Binds K fd ps []
def spInit (C : Addr) (f : Str) : Sp := fun vs H Q _ => ∃ (y : Addr) (v : V), vs = [.ref y, v] ∧ H y = some (ExcN y C none) ∧ ∀ dx, H dx = none → Q .non (upd (upd H dx (.xd [(f, v)])) y (ExcN y C (some dx)))
section
variable {P : Program} {w : World} {K : PySem.W.Frag} {mg : Str → Option Value} {base : Heap} {N : List Str} {qual : Str} {scope : Scope} {f : Addr} {cd : Value} {A : Around} {outer : List Env} {s₀ : Shared} {H₀ : Hp} {EX : XK}
theorem ps_raiseD {x : Str} {C C0 : Addr} {ps : List Str} {sp : Sp} {j k : Nat} {np cpos pos : Pos} {e : Expr} {es : List Expr} {t : TA} (D : DefI P w K mg base x C C0 j ps sp)
   (hr : Room k (cxOf (CXe P w) P w K mg base N qual scope f cd A outer s₀ H₀ EX).A)
   (hg : Gl (cxOf (CXe P w) P w K mg base N qual scope f cd A outer s₀ H₀ EX) x) (ha : PA (cxOf (CXe P w) P w K mg base N qual scope f cd A outer s₀ H₀ EX) (e :: es) t) (hj : j + 1 ≤ k := by decide)
   (hdb : (x == ("__debug__" : Str)) = false := by decide) (he : starEach (e :: es) (cxOf (CXe P w) P w K mg base N qual scope f cd A outer s₀ H₀ EX).env = (false, eval e (cxOf (CXe P w) P w K mg base N qual scope f cd A outer s₀ H₀ EX).env) :: starEach es (cxOf (CXe P w) P w K mg base N qual scope f cd A outer s₀ H₀ EX).env := by rfl)
   (hpl : (backTo cpos (starEach es (cxOf (CXe P w) P w K mg base N qual scope f cd A outer s₀ H₀ EX).env)).any (·.1) = false := by rfl) :
   PS (cxOf (CXe P w) P w K mg base N qual scope f cd A outer s₀ H₀ EX) (.Raise (some (.Call (.Name x np) (e :: es) [] cpos)) none pos) (tRaiseI C sp EX t) := by
 obtain ⟨fI, fd, XI, F, hb⟩ := D.ex
 exact ps_raiseI XI F hb hr hg ha hj hdb he hpl
theorem pe_defx {x : Str} {j k : Nat} {ps : List Str} {sp : Sp} {p pos : Pos} {e : Expr} {es : List Expr} {t : TA} (D : Defx P w K mg base x j ps sp) (hr : Room k (cxOf (CXe P w) P w K mg base N qual scope f cd A outer s₀ H₀ EX).A)
   (hg : Gl (cxOf (CXe P w) P w K mg base N qual scope f cd A outer s₀ H₀ EX) x) (ha : PA (cxOf (CXe P w) P w K mg base N qual scope f cd A outer s₀ H₀ EX) (e :: es) t) (hk : j ≤ k := by decide)
   (hdb : (x == ("__debug__" : Str)) = false := by decide) (he : starEach (e :: es) (cxOf (CXe P w) P w K mg base N qual scope f cd A outer s₀ H₀ EX).env = (false, eval e (cxOf (CXe P w) P w K mg base N qual scope f cd A outer s₀ H₀ EX).env) :: starEach es (cxOf (CXe P w) P w K mg base N qual scope f cd A outer s₀ H₀ EX).env := by rfl)
   (hpl : (backTo pos (starEach es (cxOf (CXe P w) P w K mg base N qual scope f cd A outer s₀ H₀ EX).env)).any (·.1) = false := by rfl) :
   PE (cxOf (CXe P w) P w K mg base N qual scope f cd A outer s₀ H₀ EX) (.Call (.Name x p) (e :: es) [] pos) (tCall sp [] EX t) := by
 obtain ⟨f', fd, F, hm, kp, b⟩ := D.ex
 exact pe_call F (hr.mono hk) hg hm kp b .nil pass_x ha hdb he hpl
end
section
variable {K : PySem.W.Frag} {σ : L2.St} {H : Hp} {D : Ends}
theorem r_raise {C : Addr} {E : XK} {t : TA} (h : t σ H fun xs H1 => xs.length ≤ sizeLine ∧ E (.ref C) none H1) : tRaise C E t D σ H := h
theorem r_raiseI {C : Addr} {sp : Sp} {E : XK} {t : TA} (h : t σ H fun vs H1 => vs.length ≤ 1000 ∧ ∀ y, H1 y = none → sp (.ref y :: vs) (upd H1 y (ExcN y C none)) (fun v H2 => v = .non ∧ ∃ z, V.ref y = V.ref z ∧ ∃ od, H2 z = some (ExcN z C od) ∧ E (.ref C) od (del H2 z)) E0) :
   tRaiseI C sp E t D σ H := h
theorem r_made {C : Addr} {f : Str} {E : XK} {v : V} (q : ∀ dx, H dx = none → E (.ref C) (some dx) (upd H dx (.xd [(f, v)]))) :
   [v].length ≤ 1000 ∧ ∀ y, H y = none → spInit C f (.ref y :: [v]) (upd H y (ExcN y C none)) (fun v H2 => v = .non ∧ ∃ z, V.ref y = V.ref z ∧ ∃ od, H2 z = some (ExcN z C od) ∧ E (.ref C) od (del H2 z)) E0 := by
 refine ⟨by show 1 ≤ 1000; decide, fun y hy => ⟨y, v, rfl, upd_same, fun dx hd => ⟨rfl, y, rfl, some dx, upd_same, ?_⟩⟩⟩
 have ne : dx ≠ y := fun z => by rw [z, upd_same] at hd; cases hd
 have hd' : H dx = none := by rw [upd_ne ne] at hd; exact hd
 have e : del (upd (upd (upd H y (ExcN y C none)) dx (.xd [(f, v)])) y (ExcN y C (some dx))) y = upd H dx (.xd [(f, v)]) := by
   funext b
   by_cases hb : b = y
   · subst hb
     rw [del_same, upd_ne (Ne.symm ne)]
     exact hy.symm
   · rw [del_ne hb, upd_ne hb]
     by_cases hbd : b = dx
     · subst hbd
       rw [upd_same, upd_same]
     · rw [upd_ne hbd, upd_ne hb, upd_ne hbd]
 rw [e]
 exact q dx hd'
theorem r_isiX {x C C' : Addr} {od : Option Addr} {b : Bool} {P : Bool → Prop} (h : H x = some (ExcO x C od)) (z : XK0 K C) (e : PySem.W.kitOne K (.ref C) (.ref C') = some b) (q : P b) :
   ∃ x' C0 od' v b', [V.ref x, V.ref C'] = [V.ref x', v] ∧ H x' = some (ExcO x' C0 od') ∧ XK0 K C0 ∧ clsV v ≠ .none ∧ PySem.W.kitOne K (.ref C0) (clsV v) = some b' ∧ P b' := ⟨x, C, od, .ref C', b, rfl, h, z, (fun z => nomatch z), e, q⟩
end
end Stow
namespace Stow
open PySem L2 PyProof.Rows
section
variable {X : Cx} {x : Str} {C : Addr} {p pos : Pos} {e : Expr} {es : List Expr} {t : TA}
end
section
variable {K : PySem.W.Frag} {σ : L2.St} {H : Hp} {Q : VK}
end
end Stow
namespace Stow
open PySem L2 PyProof.Rows
end Stow
namespace Stow
open PySem L2 PyProof.Rows
section
variable {X : Cx}
end
end Stow
namespace Stow
open PySem L2 PyProof.Rows
section
variable {K : PySem.W.Frag} {σ : L2.St} {H : Hp} {Q : VK} {D : Ends}
theorem r_next (h : D.nx σ H) : tNext D σ H := h
theorem r_seq {t u : TS} (h : t { D with nx := u D } σ H) : tSeq t u D σ H := h
theorem r_nx {f : L2.St → Hp → Prop} {r : VK} {b c : L2.St → Hp → Prop} (h : f σ H) : Ends.nx ⟨f, r, b, c⟩ σ H := h
theorem r_rt {f : L2.St → Hp → Prop} {r : VK} {b c : L2.St → Hp → Prop} {v : V} (h : r v H) : Ends.rt ⟨f, r, b, c⟩ v H := h
theorem r_drop {te : TE} (h : te σ H fun _ H1 => D.nx σ H1) : tDrop te D σ H := h
theorem r_ret {te : TE} (h : te σ H D.rt) : tRet te D σ H := h
theorem r_ifS {c : TT} {t u : TS} (h : c σ H fun b H1 => if b = true then t D σ H1 else u D σ H1) : tIfS c t u D σ H := h
theorem r_asg {te : TE} {g : TG} (h : te σ H fun x H1 => g x σ H1 D.nx) : tAsg te g D σ H := h
theorem r_gname {i : Nat} {v : V} {R : L2.St → Hp → Prop} (h : R (σ.set i (some v)) H) : gName i v σ H R := h
theorem r_gsub {to ti : TE} {t : TSet} {v : V} {R : L2.St → Hp → Prop} (h : to σ H fun o H1 => ti σ H1 fun i H2 => t o i v H2 fun H3 => R σ H3) : gSub to ti t v σ H R := h
theorem r_var {i : Nat} {v : V} (e : σ[i]? = some (some v)) (h : Q v H) : tVar i σ H Q := ⟨v, e, h⟩
theorem r_c {v : V} (h : Q v H) : tC v σ H Q := h
theorem r_op {r : R2} {ta tb : TE} (h : ta σ H fun x H1 => tb σ H1 fun y H2 => r x y H2 Q) : tOp r ta tb σ H Q := h
theorem r_un {r : V → Hp → VK → Prop} {ta : TE} (h : ta σ H fun x H1 => r x H1 Q) : tUn r ta σ H Q := h
theorem r_rI0 {g : Int → Int → V} {i j : Int} (h : Q (g i j) H) : rI0 g (.int i) (.int j) H Q := ⟨i, j, rfl, rfl, h⟩
theorem r_rI {C : Int → Int → Prop} {g : Int → Int → V} {i j : Int} (c : C i j) (h : Q (g i j) H) : rI C g (.int i) (.int j) H Q := ⟨i, j, rfl, rfl, c, h⟩
theorem r_rU {g : Int → V} {i : Int} (h : Q (g i) H) : rU g (.int i) H Q := ⟨i, rfl, h⟩
theorem decV {i j : Int} : decide (V.int i = V.int j) = decide (i = j) := by rw [dec_int]; exact Bool.beq_eq_decide_eq i j
theorem r_eqI {i j : Int} (h : Q (.bl (decide (i = j))) H) : rEq (.int i) (.int j) H Q := ⟨rfl, by rw [decV]; exact h⟩
theorem r_neI {i j : Int} (h : Q (.bl (!decide (i = j))) H) : rNe (.int i) (.int j) H Q := ⟨rfl, by rw [decV]; exact h⟩
theorem r_isN {P : Prop} (h : P) : V.non = V.non ∧ P := ⟨rfl, h⟩
theorem r_bl {b : Bool} {P : Bool → Prop} (h : P b) : ∃ k, V.bl b = V.bl k ∧ P k := ⟨b, rfl, h⟩
theorem r_int {i : Int} {P : Int → Prop} (h : P i) : ∃ k, V.int i = V.int k ∧ P k := ⟨i, rfl, h⟩
theorem r_test {t : TE} {R : Bool → Hp → Prop} (h : t σ H fun x H' => ∃ k, x = .bl k ∧ R k H') : tTest t σ H R := h
theorem r_tB {t : TE} {R : Bool → Hp → Prop} (h : t σ H fun x H' => ∃ k, x = .bl k ∧ R k H') : tB t σ H R := h
theorem r_and {t u : TT} {R : Bool → Hp → Prop} (h : t σ H fun c H1 => if c = true then u σ H1 R else R false H1) : tAnd t u σ H R := h
theorem r_or {t u : TT} {R : Bool → Hp → Prop} (h : t σ H fun c H1 => if c = true then R true H1 else u σ H1 R) : tOr t u σ H R := h
theorem r_not {t : TT} {R : Bool → Hp → Prop} (h : t σ H fun c H1 => R (!c) H1) : tNot t σ H R := h
theorem r_andV {ta tb : TE} (h : ta σ H fun x H1 => ∃ c, x = .bl c ∧ if c = true then tb σ H1 Q else Q (.bl false) H1) : tAndV ta tb σ H Q := h
theorem r_orV {ta tb : TE} (h : ta σ H fun x H1 => ∃ c, x = .bl c ∧ if c = true then Q (.bl true) H1 else tb σ H1 Q) : tOrV ta tb σ H Q := h
theorem r_notV {ta : TE} (h : ta σ H fun x H1 => ∃ c, x = .bl c ∧ Q (.bl (!c)) H1) : tNotV ta σ H Q := h
theorem r_cons {ta : TE} {tr : TA} {R : List V → Hp → Prop} (h : ta σ H fun x H1 => tr σ H1 fun xs H2 => R (x :: xs) H2) : tCons ta tr σ H R := h
theorem r_nil {R : List V → Hp → Prop} (h : R [] H) : tNil σ H R := h
theorem r_tup {t : TA} (h : t σ H fun xs H1 => xs.length ≤ sizeLine ∧ ∀ p, H1 p = none → Q (.ref p) (upd H1 p (.tup xs))) : tTup t σ H Q := h
theorem r_lst {t : TA} (h : t σ H fun xs H1 => xs.length ≤ sizeLine ∧ ∀ p, H1 p = none → Q (.ref p) (upd H1 p (.lst xs))) : tLst t σ H Q := h
theorem r_call {sp : Sp} {E : XK} {t : TA} (h : t σ H fun vs H1 => sp vs H1 Q E) : tCall sp [] E t σ H Q := by
 have e : (fun (vs : List V) H1 => sp (vs ++ []) H1 Q E) = fun vs H1 => sp vs H1 Q E := by funext vs H1; rw [List.append_nil]
 show t σ H fun vs H1 => sp (vs ++ []) H1 Q E
 rw [e]
 exact h
theorem r_cb {r : List V → Hp → VK → Prop} {t : TA} (h : t σ H fun vs H1 => r vs H1 Q) : tCB r t σ H Q := h
theorem r_sl {r : V → Option Int → Option Int → Hp → VK → Prop} {te : TE} {tl th : TO} (h : te σ H fun x H1 => tl σ H1 fun l H2 => th σ H2 fun u H3 => r x l u H3 Q) : tSl r te tl th σ H Q := h
theorem r_nopart {R : Option Int → Hp → Prop} (h : R none H) : tNoPart σ H R := h
theorem r_part {t : TE} {R : Option Int → Hp → Prop} (h : t σ H fun x H1 => ∃ i, x = .int i ∧ R (some i) H1) : tPart t σ H R := h
theorem r_bm {T : String} {r : V → List V → Hp → VK → Prop} {to : TE} {t : TA} (h : to σ H fun x H1 => tyV K T x H1 ∧ t σ H1 fun xs H2 => r x xs H2 Q) : tBM K T r to t σ H Q := h
theorem r_bm0 {T : String} {r : V → List V → Hp → VK → Prop} {to : TE} (h : to σ H fun x H1 => tyV K T x H1 ∧ r x [] H1 Q) : tBM0 K T r to σ H Q := h
theorem r_tyL {p : Addr} {xs : List V} {P : Prop} (h : H p = some (.lst xs)) (q : P) : tyV K "list" (.ref p) H ∧ P := ⟨.inl ⟨rfl, xs, SqL.of h⟩, q⟩
theorem r_append {l : Addr} {xs : List V} {y : V} (h : H l = some (.lst xs)) (hz : xs.length < sizeLine) (q : Q .non (upd H l (.lst (xs ++ [y])))) : rAppend (.ref l) [y] H Q := ⟨l, xs, y, rfl, rfl, h, hz, q⟩
theorem r_appendI {l : Addr} {ns : List Int} {y : Int} (h : H l = some (.lst (ns.map V.int))) (hz : ns.length < sizeLine) (q : Q .non (upd H l (.lst ((ns ++ [y]).map V.int)))) : rAppend (.ref l) [.int y] H Q := by
 rw [List.map_append] at q
 exact ⟨l, _, .int y, rfl, rfl, h, by rw [List.length_map]; exact hz, q⟩
theorem r_cat {l b : Addr} {xs zs : List V} (h : H l = some (.lst xs)) (h2 : H b = some (.lst zs)) (hz : xs.length + zs.length ≤ sizeLine) (q : ∀ p, H p = none → Q (.ref p) (upd H p (.lst (xs ++ zs)))) : rCat (.ref l) (.ref b) H Q := ⟨l, b, xs, zs, rfl, rfl, h, h2, hz, q⟩
theorem r_ixL {p : Addr} {xs : List V} {i : Int} {v : V} (h : SqL K H p xs) (e : atI xs i = some v) (q : Q v H) : rIxL K (.ref p) (.int i) H Q := ⟨p, xs, i, v, rfl, rfl, h, e, q⟩
theorem r_ixT {p : Addr} {xs : List V} {i : Int} {v : V} (h : H p = some (.tup xs)) (e : atI xs i = some v) (q : Q v H) : rIxT K (.ref p) (.int i) H Q := ⟨p, xs, i, v, rfl, rfl, SqT.of h, e, q⟩
theorem r_ixI {p : Addr} {ns : List Int} {k : Int} (h : SqL K H p (ns.map V.int)) (h0 : 0 ≤ k) (h1 : k < ns.length) (q : Q (.int (ns.getD k.toNat 0)) H) : rIxL K (.ref p) (.int k) H Q := ⟨p, _, k, _, rfl, rfl, h, atI_map ns k h0 h1, q⟩
theorem ixN_at {n : Nat} {k : Int} (h0 : 0 ≤ k) (h : k < n) : ixN n k = some k.toNat := by
 unfold ixN
 rw [if_pos h0, if_pos h]
theorem r_setI {p : Addr} {ns : List Int} {k x : Int} {R : Hp → Prop} (h : H p = some (.lst (ns.map V.int))) (h0 : 0 ≤ k) (h1 : k < ns.length) (q : R (upd H p (.lst ((ns.set k.toNat x).map V.int)))) : rSetL (.ref p) (.int k) (.int x) H R := by
 refine ⟨p, _, k, k.toNat, rfl, rfl, h, ixN_at h0 (by rw [List.length_map]; exact h1), ?_⟩
 rw [List.map_set] at q
 exact q
theorem r_lenI {p : Addr} {ns : List Int} {P : List V → Prop} (h : SqL K H p (ns.map V.int)) (q : P (ns.map V.int)) : ∃ p' ys, [V.ref p] = [V.ref p'] ∧ (SqL K H p' ys ∨ SqT K H p' ys) ∧ P ys := ⟨p, _, rfl, .inl h, q⟩
theorem r_lenL {p : Addr} {xs : List V} {P : List V → Prop} (h : H p = some (.lst xs)) (q : P xs) : ∃ p' ys, [V.ref p] = [V.ref p'] ∧ (SqL K H p' ys ∨ SqT K H p' ys) ∧ P ys := ⟨p, _, rfl, .inl (SqL.of h), q⟩
theorem r_lenT {p : Addr} {xs : List V} {P : List V → Prop} (h : H p = some (.tup xs)) (q : P xs) : ∃ p' ys, [V.ref p] = [V.ref p'] ∧ (SqL K H p' ys ∨ SqT K H p' ys) ∧ P ys := ⟨p, _, rfl, .inr (SqT.of h), q⟩
theorem r_isi {x : V} {n : String} {t : Value} {b : Bool} {P : Bool → Prop} (ty : TyOf K H x t) (e : PySem.W.kitOne K t (.type n) = some b) (q : P b) : ∃ x' n' t' b', [x, V.ty n] = [x', V.ty n'] ∧ TyOf K H x' t' ∧ PySem.W.kitOne K t' (.type n') = some b' ∧ P b' := ⟨x, n, t, b, rfl, ty, e, q⟩
theorem r_new {xs : List V} {P : Prop} (h : xs.length ≤ 1000) (q : P) : xs.length ≤ sizeLine ∧ P := ⟨Nat.le_of_lt (small1000 h), q⟩
theorem r_truB {b : Bool} {P : Bool → Prop} (q : P b) : ∃ k, TruV K (.bl b) H k ∧ P k := ⟨b, rfl, q⟩
theorem r_for {wi : TI} {g : TG} {tb : TS} (h : wi σ H fun J H1 => ∃ W : Nat → Nat → L2.St → Hp → Prop, (∃ m, W 0 m σ H1) ∧ ∀ i m σ H, W i m σ H →
   (J.stop i H ∧ D.nx σ H) ∨ (J.go i H ∧ ∃ N : L2.St → Hp → Prop, (∀ σ' H', N σ' H' → ∃ m', m' < m ∧ W (i + 1) m' σ' H') ∧ ∀ x H', J.yld i H x H' → g x σ H' fun σ2 H2 => tb { D with nx := N, ct := N, bk := D.nx } σ2 H2)) : tFor wi g tb D σ H := h
theorem r_iL {tl : TE} {R : It → Hp → Prop} (h : tl σ H fun x H1 => ∃ a, x = .ref a ∧ (∃ xs, SqL K H1 a xs) ∧ R (Itl K a) H1) : iList K tl σ H R := h
theorem r_seqM {t u : TS} {M : L2.St → Hp → Prop} (hM : ∀ σ' H', M σ' H' → u D σ' H') (h : ∀ nx : L2.St → Hp → Prop, (∀ σ' H', M σ' H' → nx σ' H') → t { D with nx := nx } σ H) : tSeq t u D σ H := h (u D) hM
theorem r_isIf {c : TT} {t u v : TS} (h : tSeq (tIfS c t u) v D σ H) : tSeq (tIfS c t u) v D σ H := h
end
theorem r_ifN {b : Bool} {A B : Prop} (h : if b = true then B else A) : if (!b) = true then A else B := by cases b <;> exact h
theorem r_ifd {c A B : Prop} [Decidable c] (h1 : c → A) (h2 : ¬ c → B) : if decide c = true then A else B := by
 by_cases h : c
 · rw [decide_eq_true h]
   exact iteT (h1 h)
 · rw [decide_eq_false h]
   exact iteF (h2 h)
theorem r_ifdT {c A B : Prop} [Decidable c] (h : c) (h1 : A) : if decide c = true then A else B := r_ifd (fun _ => h1) fun z => absurd h z
theorem r_ifdF {c A B : Prop} [Decidable c] (h : ¬ c) (h1 : B) : if decide c = true then A else B := r_ifd (fun z => absurd z h) fun _ => h1
theorem r_ifb {b : Bool} {A B : Prop} (h1 : b = true → A) (h2 : b = false → B) : if b = true then A else B := by
 cases b with
 | true => exact iteT (h1 rfl)
 | false => exact iteF (h2 rfl)
theorem look_put {H : Hp} {p d : Addr} {o v : HO} (hp : H p = none) (h : H d = some v) : upd H p o d = some v := (upd_ne (ne_of_none h hp)).trans h
theorem look_ne {H : Hp} {p d : Addr} {o v : HO} (hp : d ≠ p) (h : H d = some v) : upd H p o d = some v := (upd_ne hp).trans h
end Stow
namespace Stow
open PySem L2 PyProof.Rows
abbrev TX := L2.St → Hp → VK → XK → Prop
def PX (X : Cx) (e : Expr) (t : TX) : Prop := ∀ (pins : List (Addr × Obj)) (s : Shared) (σ : L2.St) (H : Hp) (QV : VK) (EX : XK) (Qp W : Value → Shared → Prop), Inv X pins σ H s → t σ H QV EX → (∀ u s', EP X pins σ QV u s' → Qp u s') →
 (∀ H1 s1 y s', Inv X pins σ H1 s1 → CXe X.prog X.w X.stack H1 s1 EX y s' → W y s') → wpAny (model X.prog X.w) X.A (eval e X.env) Qp W s
def xMeth (C : Addr) (m : Str) (sp : Sp) (dvs : List V) (to : TE) (ta : TA) : TX := fun σ H QV EX => to σ H fun x H1 => ∃ a dx fs, x = .ref a ∧ H1 a = some (.ins C dx fs) ∧ fs.lookup m = none ∧ ta σ H1 fun vs H2 => sp (x :: (vs ++ dvs)) H2 QV EX
section
variable {X : Cx} {k : Nat} {f C : Addr} {fd : FuncData} {ps : List Str} {sp : Sp} {dvs : List V} {ds : List Value} {fx m : Str} {p pos apos : Pos} {e o : Expr} {es : List Expr} {to : TE} {ta : TA}
theorem run_x {pins : List (Addr × Obj)} {σ : L2.St} {H : Hp} {s : Shared} {us : List Value} {vs : List V} {QV : VK} {EX : XK} {Qp W : Value → Shared → Prop} (F : FnOk X.prog X.w X.K X.mg X.base (CXe X.prog X.w) k f fd ps sp) (hr : Room k X.A) (hb : Binds X.K fd ps ds) (hd : Vals dvs ds)
   (I : Inv X pins σ H s) (r : Vals vs us) (h : sp (vs ++ dvs) H QV EX) (hv : ∀ u s', EP X pins σ QV u s' → Qp u s') (hx : ∀ y s', CXe X.prog X.w X.stack H s EX y s' → W y s') : wpAny (model X.prog X.w) X.A (call (.ref f) us) Qp W s := by
 have r2 : Vals (vs ++ dvs) (us ++ ds) := r.append hd
 have hl : (us ++ ds).length = ps.length := by rw [← r2.length]; exact F.len _ _ _ _ h
 refine wpAny_call (codeAny_mono (F.run X.A X.stack s H ⟨us, []⟩ (us ++ ds) (vs ++ dvs) QV EX hr I.env0 (hb s us I.kIn hl) r2 h) fun r s' hq => ?_)
 cases r with
 | error y => exact hx y s' hq
 | ok fl =>
   cases fl with
   | ret u => exact hv u s' (I.after hq)
   | next => exact False.elim hq
   | brk => exact False.elim hq
   | cont => exact False.elim hq
theorem px_meth {pl : Sem Bool} (ho : PE X.nox o to) (c : Cls X.K C) (hm : Meth X.K C m f) (F : FnOk X.prog X.w X.K X.mg X.base (CXe X.prog X.w) k f fd ps sp) (hr : Room k X.A) (hb : Binds X.K fd ps ds) (hd : Vals dvs ds) (ha : PA X.nox (e :: es) ta)
   (hst : starEach (e :: es) X.env = (false, eval e X.env) :: starEach es X.env := by rfl) (hpl : (backTo pos (starEach es X.env)).any (·.1) = false := by rfl)
   (ht : eval (.Call (.Attribute o m apos) (e :: es) [] pos) X.env = (do
     let ov ← eval o X.env
     standAt apos.atName
     let (f, first) ← holding [ov] (getMethod ov m pl)
     callWith pos f first (backTo pos (starEach (e :: es) X.env)) (backToKw pos (keywordEach [] X.env))) := by rfl) :
   PX X (.Call (.Attribute o m apos) (e :: es) [] pos) (xMeth C m sp dvs to ta) := by
 intro pins s σ H QV EX Qp W I h hv hx
 refine PySem.W.methodCall_KW (pl := pl) (wpAny_mono (ho pins s σ H _ (I.wish _) h) (fun u s1 ⟨x, H1, I1', rx, a, dx, fs, ex, ea, l, q⟩ => ?_) (fun _ _ z => z.elim)) ht
 have I1 := I1'.unwish
 subst ex
 obtain rfl : u = Value.ref a := rx
 refine getmeth_ok I1 ea c hm l ?_
 refine PySem.W.callWith_K (first := [.ref a]) (h₀ := X.base) I.ok.mod.kin hm.kp (wpAny_mono (ha pos pins s1 σ H1 _ (I1.wish _) q) (fun us s2 ⟨vs, H2, I2', r, q2⟩ => ?_) (fun _ _ z => z.elim)) hst hpl
 have I2 := I2'.unwish
 exact ⟨I2.kIn, run_x (us := .ref a :: us) (vs := .ref a :: vs) F hr hb hd I2 (.cons rfl r) q2 hv fun y s' hq => hx H2 s2 y s' I2 hq⟩
end
def Fits (K : PySem.W.Frag) (C C0 : Addr) (b : Bool) : Prop := ∃ (bm bm0 : List Value), ECls K C bm ∧ ECls K C0 bm0 ∧ (Value.ref C0 :: bm0).contains (.type "BaseException") = true ∧ (Value.ref C :: bm).contains (.ref C0) = b
theorem fits_ok {M : Model} {A : Around} {E : Value → Shared → Prop} {K : PySem.W.Frag} {C C0 x : Addr} {ox : Obj} {s : Shared} {b : Bool} {Q : Bool → Shared → Prop} (F : Fits K C C0 b) (KX : K.In s.heap) (hx : s.heap.get? x = some ox) (hc : ox.cls = .ref C) (k : Q b s) :
   wpAny M A (excMatches (.ref x) (.ref C0)) Q E s := by
 obtain ⟨bm, bm0, ⟨nm, qn, N, bs, hd, sn, sub, ab, col, dd, k0, k1, k2, k3, k5, newId, lk⟩, ⟨nm', qn', N', bs', hd', sn', sub', ab', col', dd', j0, j1, j2, j3, j5, new', lk0⟩, hb, hm⟩ := F
 have hC := KX _ _ lk
 have hC0 := KX _ _ lk0
 obtain ⟨hh, g, d, t, os⟩ := s
 exact match_own hC hC0 hx hc hb hm k
abbrev TH := Addr → Addr → TS
def PH (X : Cx) (hs : List ExceptHandler) (th : TH) : Prop := ∀ (pins : List (Addr × Obj)) (s : Shared) (σ : L2.St) (H : Hp) (D : Ends) (x C T : Addr) (od : Option Addr), X.Ok → Inv X pins σ H s → Exc s.heap x (.ref C) od T .none →
 (∀ h3, Upto (frs X.stack) [T] s.heap h3 → Exc h3 x (.ref C) od T .none → Inv X pins σ H { s with heap := h3 }) → th x C D σ H → wpAny (model X.prog X.w) X.A (handleBy (.ref x) X.env hs) (SP X pins D) X.xe s
section
variable {X : Cx} {C0 : Addr} {cx : Str} {np hpos pos epos : Pos} {b0 : Stmt} {suite : List Stmt} {ts : Addr → TS} {hs : List ExceptHandler} {th : TH} {e : Expr} {t : TX}
theorem ph_nil : PH X [] (fun _ _ _ _ _ => False) := fun _ _ _ _ _ _ _ _ _ _ _ _ _ h => h.elim
theorem ph_cons (hgc : Gl X cx) (hc0 : X.mg cx = some (.ref C0)) (hss : ∀ x, PSs (Cx.suite X x) (b0 :: suite) (ts x)) (hr : PH X hs th) (hdc : (cx == ("__debug__" : Str)) = false := by decide) :
   PH X (.ExceptHandler (some (.Name cx np)) none (b0 :: suite) hpos :: hs) (fun x C D σ H => (Fits X.K C C0 true ∧ ts x D σ H) ∨ (Fits X.K C C0 false ∧ th x C D σ H)) := by
 intro pins s σ H D x C T od ok J t2 again h
 obtain ⟨oe, vs, oT, tts, ne, ee, hcl, _⟩ := id t2
 rcases h with ⟨fit, q⟩ | ⟨fit, q⟩
 · refine wpAny_handleBy_cons (codeAny_handlers_test (ld_glob (X := Cx.suite X x) (inv_suite J x) hgc hc0 (fits_ok fit J.kIn ee hcl ?_) hdc)) (by intro z; cases z)
   refine codeAny_handlers_suite ?_
   refine flight_x (fr := frs X.stack) t2 fun h3 u3 t3 => ?_
   exact wpAny_mono (hss x pins _ σ _ D (inv_suite (again h3 u3 t3) x) q) (fun fl s4 q4 => sp_unsuite ok q4) (fun _ _ z => z.elim)
 · refine wpAny_handleBy_cons (codeAny_handlers_test (ld_glob (X := Cx.suite X x) (inv_suite J x) hgc hc0 (fits_ok fit J.kIn ee hcl ?_) hdc)) (by intro z; cases z)
   exact hr pins s σ H D x C T od ok J t2 again q
theorem ph_consAs {i : Nat} {n : Str} (hgc : Gl X cx) (hc0 : X.mg cx = some (.ref C0)) (hN : X.N.Nodup) (hi : X.N[i]? = some n) (hln : X.env.kindOf n = some .local) (hss : ∀ x, PSs (Cx.suite X x) (b0 :: suite) (ts x)) (hr : PH X hs th) (hdc : (cx == ("__debug__" : Str)) = false := by decide) :
   PH X (.ExceptHandler (some (.Name cx np)) (some n) (b0 :: suite) hpos :: hs)
     (fun x C D σ H => (Fits X.K C C0 true ∧ ts x { D with nx := fun σ' H' => D.nx (σ'.set i none) H', bk := fun σ' H' => D.bk (σ'.set i none) H', ct := fun σ' H' => D.ct (σ'.set i none) H' } (σ.set i (some (.ref x))) H) ∨ (Fits X.K C C0 false ∧ th x C D σ H)) := by
 intro pins s σ H D x C T od ok J t2 again h
 obtain ⟨oe, vs, oT, tts, ne, ee, hcl, _⟩ := id t2
 rcases h with ⟨fit, q⟩ | ⟨fit, q⟩
 · refine wpAny_handleBy_cons (codeAny_handlers_test (ld_glob (X := Cx.suite X x) (inv_suite J x) hgc hc0 (fits_ok fit J.kIn ee hcl ?_) hdc)) (by intro z; cases z)
   refine codeAny_handlers_suite_as ?_
   refine flight_x (fr := frs X.stack) t2 fun h3 u3 t3 => ?_
   refine store_ok (X := Cx.suite X x) (inv_suite (again h3 u3 t3) x) hN hi (.inl hln) (v := .ref x) rfl (fun s4 J4 => ?_) (.inr hln)
   refine wpAny_mono (hss x pins s4 _ _ _ J4 q) (fun fl s5 q5 => ?_) (fun _ _ z => z.elim)
   cases fl with
   | next => obtain ⟨σ', H', I5, q⟩ := q5; exact unbind_ok (inv_unsuite ok I5) hN hi hln fun s6 I6 => ⟨_, _, I6, q⟩
   | brk => obtain ⟨σ', H', I5, q⟩ := q5; exact unbind_ok (inv_unsuite ok I5) hN hi hln fun s6 I6 => ⟨_, _, I6, q⟩
   | cont => obtain ⟨σ', H', I5, q⟩ := q5; exact unbind_ok (inv_unsuite ok I5) hN hi hln fun s6 I6 => ⟨_, _, I6, q⟩
   | ret u => obtain ⟨v, σ', H', I5, r, q⟩ := q5; exact unbind_ok (inv_unsuite ok I5) hN hi hln fun s6 I6 => ⟨v, _, _, I6, r, q⟩
 · refine wpAny_handleBy_cons (codeAny_handlers_test (ld_glob (X := Cx.suite X x) (inv_suite J x) hgc hc0 (fits_ok fit J.kIn ee hcl ?_) hdc)) (by intro z; cases z)
   exact hr pins s σ H D x C T od ok J t2 again q
theorem Upto.refl (fr ex : List Addr) (h : Heap) : Upto fr ex h h := ⟨fun _ _ _ _ q => q, fun b o _ q => ⟨o.slots, q⟩⟩
end
section
variable {K : PySem.W.Frag} {σ : L2.St} {H : Hp} {D : Ends}
end
end Stow
namespace Stow
open PySem L2 PyProof.Rows
structure FunD (K : PySem.W.Frag) (x qual : Str) (st : Stmt) (dV : Value) (f : Addr) (fd : FuncData) : Prop where
 ex : ∃ (oc : Value) (od : Option Addr) (kV doc pm : Value) (an : Option Addr) (cdv ct : Value) (osl : Array (Option Value)),
   fd = PySem.W.fnOf x qual (defArgs st) (defBody st) (defScope st) dV kV doc pm an cdv ct ∧ K.lookup f = some ⟨oc, od, .func fd, osl⟩ ∧ PySem.W.codeIn K cdv qual = true
 kp : PySem.W.keepIn K (.ref f) = true
theorem funD_mk {K : PySem.W.Frag} {x qual : Str} {st : Stmt} {f : Addr} {oc : Value} {od an : Option Addr} {osl : Array (Option Value)} {dV kV doc pm cdv ct : Value} (l : K.lookup f = some ⟨oc, od, .func (PySem.W.fnOf x qual (defArgs st) (defBody st) (defScope st) dV kV doc pm an cdv ct), osl⟩)
   (c : PySem.W.codeIn K cdv qual = true) (k : PySem.W.keepIn K (.ref f) = true) : FunD K x qual st dV f (PySem.W.fnOf x qual (defArgs st) (defBody st) (defScope st) dV kV doc pm an cdv ct) := ⟨⟨oc, od, kV, doc, pm, an, cdv, ct, osl, rfl, l, c⟩, k⟩
section
variable {P : Program} {w : World} {K : PySem.W.Frag} {mg : Str → Option Value} {base : Heap}
theorem funD_okx {x qual : Str} {st : Stmt} {dV : Value} {f : Addr} {fd : FuncData} {N ps : List Str} {k : Nat} {sp : Sp} (F : FunD K x qual st dV f fd) (S : FnScope N ps (defScope st)) (len : ∀ vs H Q E, sp vs H Q E → vs.length = ps.length)
   (hbody : ∀ (cdv : Value) (A : Around) (outer : List Env) (s : Shared) (H : Hp) (vs : List V) (Q : VK) (E : XK), Room k (A.deeper (envOfC qual (defScope st) s.heap.objs.size f cdv)) → sp vs H Q E →
     ∃ t, PSs (cxOf (CXe P w) P w K mg base N qual (defScope st) f cdv A outer s H E) (defBody st) t ∧ t { nx := fun _ H' => Q .non H', rt := Q } (start N vs) H) : FnOk P w K mg base (CXe P w) (k + 1) f fd ps sp := by
 obtain ⟨oc, od, kV, doc, pm, an, cdv, ct, osl, rfl, lk, hcd⟩ := F.ex
 exact fn_of lk hcd S len fun A outer s H vs Q E hr hsp => hbody cdv A outer s H vs Q E hr hsp
theorem FunD.binds {x qual : Str} {st : Stmt} {dV : Value} {f : Addr} {fd : FuncData} {ps : List Str} (F : FunD K x qual st dV f fd)
   (h : ∀ (kV doc pm : Value) (an : Option Addr) (cdv ct : Value) (us : List Value), us.length = ps.length → bindArgs (PySem.W.fnOf x qual (defArgs st) (defBody st) (defScope st) dV kV doc pm an cdv ct) ⟨us, []⟩ = pure (ps.zip us)) : Binds K fd ps [] := by
 obtain ⟨oc, od, kV, doc, pm, an, cdv, ct, osl, rfl, lk, hcd⟩ := F.ex
 exact .all (h kV doc pm an cdv ct)
theorem FunD.bindsD {x qual : Str} {st : Stmt} {T : Addr} {f : Addr} {fd : FuncData} {ps : List Str} {ds : List Value} {tc : Value} {td : Option Addr} {tn : Nat} {tsl : Array (Option Value)} (F : FunD K x qual st (.ref T) f fd)
   (lt : K.lookup T = some ⟨tc, td, .seq ds.toArray tn, tsl⟩)
   (h : ∀ (kV doc pm : Value) (an : Option Addr) (cdv ct : Value) (us : List Value), (us ++ ds).length = ps.length → ∃ k : Option (Array Value) → Sem (List (Str × Value)),
     bindArgs (PySem.W.fnOf x qual (defArgs st) (defBody st) (defScope st) (.ref T) kV doc pm an cdv ct) ⟨us, []⟩ = seqItems? (.ref T) >>= k ∧ k (some ds.toArray) = pure (ps.zip (us ++ ds))) : Binds K fd ps ds := by
 obtain ⟨oc, od, kV, doc, pm, an, cdv, ct, osl, rfl, lk, hcd⟩ := F.ex
 intro s us X hl
 obtain ⟨k, h1, h2⟩ := h kV doc pm an cdv ct us hl
 exact .of_defaults rfl (X _ _ lt) rfl h1 h2
end
structure Methx (P : Program) (w : World) (K : PySem.W.Frag) (mg : Str → Option Value) (base : Heap) (C : Addr) (m : Str) (j : Nat) (ps : List Str) (dvs : List V) (sp : Sp) : Prop where
 ex : ∃ (f : Addr) (fd : FuncData) (ds : List Value), FnOk P w K mg base (CXe P w) j f fd ps sp ∧ Meth K C m f ∧ Binds K fd ps ds ∧ Vals dvs ds
 cl : Cls K C
structure Makex (P : Program) (w : World) (K : PySem.W.Frag) (mg : Str → Option Value) (base : Heap) (x : Str) (C : Addr) (j : Nat) (ps : List Str) (dvs : List V) (sp : Sp) : Prop where
 ex : ∃ (f : Addr) (fd : FuncData) (ds : List Value), FnOk P w K mg base (CXe P w) j f fd ps sp ∧ Mk K C f ∧ Binds K fd ps ds ∧ Vals dvs ds
 bound : mg x = some (.ref C)
structure ClsM (K : PySem.W.Frag) (C : Addr) (m : Str) (f : Addr) : Prop where
 sp : PySem.W.specialIn K (.ref C) "__getattribute__" = some (some (.builtin "type.__getattribute__"))
 rd : PySem.W.readsIn K C (.type "type") = true
 fc : PySem.W.findCls K (.ref C) (.type "type") m = some (.val (.ref f))
 kp : PySem.W.keepIn K (.ref f) = true
structure Basex (P : Program) (w : World) (K : PySem.W.Frag) (mg : Str → Option Value) (base : Heap) (x : Str) (m : Str) (j : Nat) (ps : List Str) (sp : Sp) : Prop where
 ex : ∃ (C f : Addr) (fd : FuncData), FnOk P w K mg base (CXe P w) j f fd ps sp ∧ ClsM K C m f ∧ Binds K fd ps [] ∧ mg x = some (.ref C)
section
variable {X : Cx} {j k : Nat} {C : Addr} {ps : List Str} {sp : Sp} {dvs : List V} {x m : Str} {p pos apos : Pos} {e o : Expr} {es : List Expr} {to : TE} {t : TA} {EX : XK}
theorem pe_methp {pl : Sem Bool} (D : Methx X.prog X.w X.K X.mg X.base C m j ps dvs sp) (hp : Passes (CXe X.prog X.w) X EX) (hr : Room k X.A) (ho : PE X o to) (ha : PA X (e :: es) t) (hk : j ≤ k := by decide)
   (hst : starEach (e :: es) X.env = (false, eval e X.env) :: starEach es X.env := by rfl) (hpl : (backTo pos (starEach es X.env)).any (·.1) = false := by rfl)
   (ht : eval (.Call (.Attribute o m apos) (e :: es) [] pos) X.env = (do
     let ov ← eval o X.env
     standAt apos.atName
     let (f, first) ← holding [ov] (getMethod ov m pl)
     callWith pos f first (backTo pos (starEach (e :: es) X.env)) (backToKw pos (keywordEach [] X.env))) := by rfl) : PE X (.Call (.Attribute o m apos) (e :: es) [] pos) (tMeth C m sp dvs EX to t) := by
 obtain ⟨f, fd, ds, F, hm, hb, hd⟩ := D.ex
 exact pe_meth (pl := pl) ho D.cl hm F (hr.mono hk) hb hd hp ha hst hpl ht
theorem pe_methp0 {pl : Sem Bool} (D : Methx X.prog X.w X.K X.mg X.base C m j ps dvs sp) (hp : Passes (CXe X.prog X.w) X EX) (hr : Room k X.A) (ho : PE X o to) (hk : j ≤ k := by decide)
   (ht : eval (.Call (.Attribute o m apos) [] [] pos) X.env = (do
     let ov ← eval o X.env
     standAt apos.atName
     let (f, first) ← holding [ov] (getMethod ov m pl)
     callWith pos f first (backTo pos (starEach [] X.env)) (backToKw pos (keywordEach [] X.env))) := by rfl) : PE X (.Call (.Attribute o m apos) [] [] pos) (tMeth C m sp dvs EX to tNil) := by
 obtain ⟨f, fd, ds, F, hm, hb, hd⟩ := D.ex
 exact pe_meth0 (pl := pl) ho D.cl hm F (hr.mono hk) hb hd hp ht
theorem px_methD {pl : Sem Bool} (D : Methx X.prog X.w X.K X.mg X.base C m j ps dvs sp) (hr : Room k X.A) (ho : PE X.nox o to) (ha : PA X.nox (e :: es) t) (hk : j ≤ k := by decide)
   (hst : starEach (e :: es) X.env = (false, eval e X.env) :: starEach es X.env := by rfl) (hpl : (backTo pos (starEach es X.env)).any (·.1) = false := by rfl)
   (ht : eval (.Call (.Attribute o m apos) (e :: es) [] pos) X.env = (do
     let ov ← eval o X.env
     standAt apos.atName
     let (f, first) ← holding [ov] (getMethod ov m pl)
     callWith pos f first (backTo pos (starEach (e :: es) X.env)) (backToKw pos (keywordEach [] X.env))) := by rfl) : PX X (.Call (.Attribute o m apos) (e :: es) [] pos) (xMeth C m sp dvs to t) := by
 obtain ⟨f, fd, ds, F, hm, hb, hd⟩ := D.ex
 exact px_meth (pl := pl) ho D.cl hm F (hr.mono hk) hb hd ha hst hpl ht
theorem pe_makep (D : Makex X.prog X.w X.K X.mg X.base x C j ps dvs sp) (hp : Passes (CXe X.prog X.w) X EX) (hr : Room k X.A) (hg : Gl X x) (ha : PA X (e :: es) t) (hk : j + 1 ≤ k := by decide)
   (hdb : (x == ("__debug__" : Str)) = false := by decide) (he : starEach (e :: es) X.env = (false, eval e X.env) :: starEach es X.env := by rfl) (hpl : (backTo pos (starEach es X.env)).any (·.1) = false := by rfl) : PE X (.Call (.Name x p) (e :: es) [] pos) (tMake C sp dvs EX t) := by
 obtain ⟨f, fd, ds, F, M, hb, hd⟩ := D.ex
 exact pe_make M F (hr.mono hk) hg D.bound hb hd hp ha hdb he hpl
end
section
variable {K : PySem.W.Frag} {σ : L2.St} {H : Hp} {Q : VK} {D : Ends}
theorem r_fld {f : Str} {ta : TE} (h : ta σ H fun x H1 => ∃ a C dx fs v, x = .ref a ∧ H1 a = some (.ins C dx fs) ∧ Cls K C ∧ NoAttr K C f ∧ fs.lookup f = some v ∧ Q v H1) : tFld K ta f σ H Q := h
theorem r_at {a C dx : Addr} {fs : List (Str × V)} {f : Str} {v : V} {P : V → Prop} (h : H a = some (.ins C dx fs)) (c : Cls K C) (n : NoAttr K C f) (l : fs.lookup f = some v) (q : P v) :
   ∃ a' C' dx' fs' v', V.ref a = V.ref a' ∧ H a' = some (.ins C' dx' fs') ∧ Cls K C' ∧ NoAttr K C' f ∧ fs'.lookup f = some v' ∧ P v' := ⟨a, C, dx, fs, v, rfl, h, c, n, l, q⟩
theorem r_sfld {f : Str} {ta tv : TE} (h : tv σ H fun y H1 => ta σ H1 fun x H2 => ∃ a C dx fs, x = .ref a ∧ H2 a = some (.ins C dx fs) ∧ Cls K C ∧ NoAttr K C f ∧ fs.length < 1000 ∧ D.nx σ (upd H2 a (.ins C dx (putF f y fs)))) : sFld K ta tv f D σ H := h
theorem r_meth {C : Addr} {m : Str} {sp : Sp} {E : XK} {ta : TE} {t : TA} (h : ta σ H fun x H1 => ∃ a dx fs, x = .ref a ∧ H1 a = some (.ins C dx fs) ∧ fs.lookup m = none ∧ t σ H1 fun vs H2 => sp (x :: vs) H2 Q E) : tMeth C m sp [] E ta t σ H Q := by
 unfold tMeth
 simp only [List.append_nil]
 exact h
theorem r_xMeth {C : Addr} {m : Str} {sp : Sp} {EX : XK} {ta : TE} {t : TA} (h : ta σ H fun x H1 => ∃ a dx fs, x = .ref a ∧ H1 a = some (.ins C dx fs) ∧ fs.lookup m = none ∧ t σ H1 fun vs H2 => sp (x :: vs) H2 Q EX) : xMeth C m sp [] ta t σ H Q EX := by
 unfold xMeth
 simp only [List.append_nil]
 exact h
end
end Stow
namespace Stow
open PySem L2 PyProof.Rows
section
variable {X : Cx}
end
section
variable {a x : Option V} {v : V} {l r : L2.St} {k : Nat} {n : Str} {ns : List Str} {vs : List V}
theorem set0_c : (a :: l).set 0 x = x :: l := rfl
theorem start_c : L2.start (n :: ns) (v :: vs) = some v :: L2.start ns vs := by
 unfold L2.start
 rw [List.length_cons, List.length_cons, Nat.add_sub_add_right]
 rfl
theorem set0_0 : (L2.start (n :: ns) []).set 0 x = x :: L2.start ns [] := rfl
theorem setS_c (h : l.set k x = r) : (a :: l).set (k + 1) x = a :: r := h ▸ rfl
theorem setS_1 (h : (L2.start ns vs).set k x = r) : (L2.start (n :: ns) (v :: vs)).set (k + 1) x = some v :: r := by
 rw [start_c, ← h]
 rfl
theorem r_gnameN {σ σ' : L2.St} {H : Hp} {i : Nat} {R : L2.St → Hp → Prop} (e : σ.set i (some v) = σ') (h : R σ' H) : gName i v σ H R := by
 subst e
 exact h
end
def cutI (ns : List Int) (l u : Option Int) : List Int := (ns.drop (HT.sIx ns.length 0 l)).take (HT.sIx ns.length ns.length u - HT.sIx ns.length 0 l)
theorem cut_map (ns : List Int) (l u : Option Int) : cutV (ns.map V.int) l u = (cutI ns l u).map V.int := by
 unfold cutV cutI
 rw [List.map_take, List.map_drop, List.length_map]
section
variable {K : PySem.W.Frag} {σ : L2.St} {H : Hp} {D : Ends} {Q : VK}
theorem r_sllG {a : Addr} {ns : List Int} {lo hi : Option Int} (h : SqL K H a (ns.map V.int)) (q : ∀ p H', H p = none → Same H H' → H' p = some (.lst ((cutI ns lo hi).map V.int)) → Q (.ref p) H') : rSlL K (.ref a) lo hi H Q :=
 ⟨a, _, rfl, h, fun p hp => by rw [cut_map]; exact q p _ hp (Same.new hp) upd_same⟩
theorem cutI_lit (ns : List Int) (l u : Nat) : (cutI ns (some l) (some u)).length ≤ u - l := by
 unfold cutI
 rw [List.length_take]
 have e1 := HT.sIx_nat ns.length ns.length u
 have e2 := HT.sIx_nat ns.length 0 l
 rw [e1, e2, List.length_drop]
 omega
theorem r_isSeq {t u : TS} (h : tSeq t u D σ H) : tSeq t u D σ H := h
theorem r_isAnd {ta tb : TE} (h : tAndV ta tb σ H Q) : tAndV ta tb σ H Q := h
theorem r_isOr {ta tb : TE} (h : tOrV ta tb σ H Q) : tOrV ta tb σ H Q := h
end
end Stow
namespace Stow
open PySem L2 PyProof.Rows
section
variable {K : PySem.W.Frag} {σ : L2.St} {H : Hp} {Q : VK}
theorem r_gtup {a : Addr} {xs : List V} {n : Nat} {t : TGs} {R : L2.St → Hp → Prop} (h : H a = some (.tup xs)) (hl : xs.length = n) (q : t xs σ H R) : gTup K n t (.ref a) σ H R := ⟨a, xs, rfl, SqT.of h, hl, q⟩
theorem r_gcons {v : V} {r : List V} {t : TG} {u : TGs} {R : L2.St → Hp → Prop} (h : t v σ H fun σ' H' => u r σ' H' R) : gCons t u (v :: r) σ H R := ⟨v, r, rfl, h⟩
theorem r_gnil {R : L2.St → Hp → Prop} (h : R σ H) : gNil [] σ H R := ⟨rfl, h⟩
theorem r_ixLast {p : Addr} {xs : List V} {v : V} (h : SqL K H p (xs ++ [v])) (q : Q v H) : rIxL K (.ref p) (.int (-1)) H Q := r_ixL h (atI_last xs v) q
end
end Stow
namespace Stow
def fpl (a b : Int) : Int := a + (b - 1 - a % b)
def fp (a n L b : Int) : Option Int := if fpl a b + L ≤ a + n then some (fpl a b) else none
end Stow
namespace Stow
open PySem L2 PyProof.Rows
def PcsAt (H : Hp) (us : List V) (ps : List Pc) : Prop := us.length = ps.length ∧ ∀ (i : Nat) (p : Pc), ps[i]? = some p → ∃ a, us[i]? = some (.ref a) ∧ H a = some (.tup [.int p.a, .int p.l, .bl p.v])
theorem PcsAt.nil {H : Hp} : PcsAt H [] [] := ⟨rfl, fun i p h => by simp at h⟩
theorem PcsAt.mono {H H' : Hp} {us : List V} {ps : List Pc} (h : PcsAt H us ps) (k : ∀ b xs, H b = some (.tup xs) → H' b = some (.tup xs)) : PcsAt H' us ps :=
 ⟨h.1, fun i p e => let ⟨a, h1, h2⟩ := h.2 i p e; ⟨a, h1, k _ _ h2⟩⟩
theorem PcsAt.same {H H' : Hp} {us : List V} {ps : List Pc} (h : PcsAt H us ps) (k : Same H H') : PcsAt H' us ps := h.mono fun b xs e => k b _ e
theorem PcsAt.snoc {H : Hp} {us : List V} {ps : List Pc} {p : Pc} {a : Addr} (h : PcsAt H us ps) (ha : H a = some (.tup [.int p.a, .int p.l, .bl p.v])) : PcsAt H (us ++ [.ref a]) (ps ++ [p]) := by
 refine ⟨by simp [h.1], fun i q e => ?_⟩
 have hl := h.1
 by_cases hi : i < ps.length
 · rw [List.getElem?_append_left hi] at e
   obtain ⟨b, h1, h2⟩ := h.2 i q e
   exact ⟨b, by rw [List.getElem?_append_left (by omega)]; exact h1, h2⟩
 · have hlt : i < (ps ++ [p]).length := (List.getElem?_eq_some_iff.mp e).1
   have hi2 : i = ps.length := by simp at hlt; omega
   subst hi2
   rw [List.getElem?_append_right (Nat.le_refl _)] at e
   have e' : p = q := by simpa using e
   subst e'
   exact ⟨a, by rw [← hl, List.getElem?_append_right (Nat.le_refl _)]; simp, ha⟩
theorem keepT {H : Hp} {p : Addr} {o : HO} (hp : H p = none ∨ ∃ xs, H p = some (.lst xs)) : ∀ b xs, H b = some (.tup xs) → upd H p o b = some (.tup xs) := fun b xs e => by
 have hne : b ≠ p := fun z => by
   subst z
   rcases hp with h | ⟨ys, h⟩
   · rw [h] at e; cases e
   · rw [h] at e; cases e
 rw [upd_ne hne]
 exact e
theorem PcsAt.push {H : Hp} {us : List V} {ps : List Pc} {p t : Addr} {z : Pc} (h : PcsAt H us ps) (hp : H p = some (.lst us)) (ht : H t = none) :
   upd (upd H t (.tup [.int z.a, .int z.l, .bl z.v])) p (.lst (us ++ [.ref t])) p = some (.lst (us ++ [.ref t])) ∧
   PcsAt (upd (upd H t (.tup [.int z.a, .int z.l, .bl z.v])) p (.lst (us ++ [.ref t]))) (us ++ [.ref t]) (ps ++ [z]) := by
 have hpt : p ≠ t := ne_of_none hp ht
 have hp2 : upd H t (.tup [.int z.a, .int z.l, .bl z.v]) p = some (.lst us) := by rw [upd_ne hpt]; exact hp
 refine ⟨upd_same, ?_⟩
 refine PcsAt.snoc ?_ ?_
 · exact (h.mono (keepT (.inl ht))).mono (keepT (.inr ⟨_, hp2⟩))
 · exact keepT (.inr ⟨_, hp2⟩) _ _ upd_same
theorem PcsAt.at {H : Hp} {us : List V} {ps : List Pc} (h : PcsAt H us ps) {k : Int} (h0 : 0 ≤ k) (h1 : k < us.length) : ∃ t z, atI us k = some (.ref t) ∧ ps[k.toNat]? = some z ∧ H t = some (.tup [.int z.a, .int z.l, .bl z.v]) := by
 have hl := h.1
 have hk : k.toNat < ps.length := by omega
 obtain ⟨t, e1, e2⟩ := h.2 k.toNat ps[k.toNat] (by simp [hk])
 refine ⟨t, _, ?_, by simp [hk], e2⟩
 have := atI_nat e1
 rwa [Int.toNat_of_nonneg h0] at this
def TupsAt (H : Hp) (us : List V) (xs : List (List V)) : Prop := us.length = xs.length ∧ ∀ (i : Nat) (x : List V), xs[i]? = some x → ∃ a, us[i]? = some (.ref a) ∧ H a = some (.tup x)
theorem TupsAt.nil {H : Hp} : TupsAt H [] [] := ⟨rfl, fun i p h => by simp at h⟩
theorem TupsAt.mono {H H' : Hp} {us : List V} {xs : List (List V)} (h : TupsAt H us xs) (k : ∀ b ys, H b = some (.tup ys) → H' b = some (.tup ys)) : TupsAt H' us xs :=
 ⟨h.1, fun i p e => let ⟨a, h1, h2⟩ := h.2 i p e; ⟨a, h1, k _ _ h2⟩⟩
theorem TupsAt.same {H H' : Hp} {us : List V} {xs : List (List V)} (h : TupsAt H us xs) (k : Same H H') : TupsAt H' us xs := h.mono fun b ys e => k b _ e
theorem TupsAt.push {H : Hp} {us : List V} {xs : List (List V)} {p t : Addr} {z : List V} (h : TupsAt H us xs) (hp : H p = some (.lst us)) (ht : H t = none) :
   TupsAt (upd (upd H t (.tup z)) p (.lst (us ++ [.ref t]))) (us ++ [.ref t]) (xs ++ [z]) := by
 have hpt : p ≠ t := ne_of_none hp ht
 have hp2 : upd H t (.tup z) p = some (.lst us) := by rw [upd_ne hpt]; exact hp
 have h2 := (h.mono (keepT (o := .tup z) (.inl ht))).mono (keepT (o := .lst (us ++ [.ref t])) (.inr ⟨_, hp2⟩))
 have hz : upd (upd H t (.tup z)) p (.lst (us ++ [.ref t])) t = some (.tup z) := keepT (.inr ⟨_, hp2⟩) _ _ upd_same
 refine ⟨by simp [h.1], fun i q e => ?_⟩
 have hl := h.1
 by_cases hi : i < xs.length
 · rw [List.getElem?_append_left hi] at e
   obtain ⟨b, h1, h3⟩ := h2.2 i q e
   exact ⟨b, by rw [List.getElem?_append_left (by omega)]; exact h1, h3⟩
 · have hlt : i < (xs ++ [z]).length := (List.getElem?_eq_some_iff.mp e).1
   have hi2 : i = xs.length := by simp at hlt; omega
   subst hi2
   rw [List.getElem?_append_right (Nat.le_refl _)] at e
   have e' : z = q := by simpa using e
   subst e'
   exact ⟨t, by rw [← hl, List.getElem?_append_right (Nat.le_refl _)]; simp, hz⟩
theorem TupsAt.at {H : Hp} {us : List V} {xs : List (List V)} (h : TupsAt H us xs) {i : Nat} (h1 : i < us.length) : ∃ t z, atI us (0 + (i : Int)) = some (.ref t) ∧ xs[i]? = some z ∧ H t = some (.tup z) := by
 have hl := h.1
 have hk : i < xs.length := by omega
 obtain ⟨t, e1, e2⟩ := h.2 i xs[i] (by simp [hk])
 exact ⟨t, _, by rw [Int.zero_add]; exact atI_nat e1, by simp [hk], e2⟩
@[reducible] def optV : Option Int → V
 | none => .non
 | some b => .int b
def spLong : Sp := fun vs H Q _ => ∃ n : Int, vs = [.int n] ∧ Q (.int (n / 2)) H
def spLive : Sp := fun vs H Q _ => ∃ n : Int, vs = [.int n] ∧ Q (.bl (decide (n % 2 = 1))) H
def spCan (K : PySem.W.Frag) : Sp := fun vs H Q _ => ∃ (a : Addr) (ns : List Int) (k : Int), vs = [.ref a, .int k] ∧ SqL K H a (ns.map V.int) ∧ 0 ≤ k ∧ k < ns.length ∧ Q (.bl (canBegin ns k)) H
def spBad (K : PySem.W.Frag) : Sp := fun vs H Q _ => ∃ (a : Addr) (ns : List Int) (k : Int), vs = [.ref a, .int k] ∧ SqL K H a (ns.map V.int) ∧ 0 ≤ k ∧ k < ns.length ∧ Q (optV (badOf ns k)) H
def spLooked (K : PySem.W.Frag) (C : Addr) : Sp := fun vs H Q E => ∃ (a : Addr) (ns : List Int), vs = [.ref a] ∧ SqL K H a (ns.map V.int) ∧ ns.length ≤ 4000 ∧
 (∀ b, (walkF ns 0).2 = some b → ∀ (dx : Addr) (H' : Hp), Same H H' → H' dx = some (.xd [("cell", .int b)]) → E (.ref C) (some dx) H') ∧
 ((walkF ns 0).2 = none → ∀ (p : Addr) (us : List V) (H' : Hp), H p = none → Same H H' → H' p = some (.lst us) → PcsAt H' us (walkF ns 0).1 → Q (.ref p) H')
def spCell (K : PySem.W.Frag) : Sp := fun vs H Q _ => ∃ (a : Addr) (ns : List Int) (k : Int), vs = [.ref a, .int k] ∧ SqL K H a (ns.map V.int) ∧ 0 ≤ k ∧ Q (.int (ns.getD k.toNat 0)) H
def spWhole : Sp := fun vs H Q _ => ∃ n : Int, vs = [.int n] ∧ Q (.bl true) H
def spLaw (K : PySem.W.Frag) : Sp := fun vs H Q _ => ∃ (a : Addr) (ns : List Int), vs = [.ref a] ∧ SqL K H a (ns.map V.int) ∧ ns.length ≤ 63 ∧ ∀ H', Q (.bl true) H'
section
variable {K : PySem.W.Frag} {H : Hp} {Q : VK} {E : XK}
theorem i_long {n : Int} (q : Q (.int (n / 2)) H) : spLong [.int n] H Q E := ⟨n, rfl, q⟩
theorem i_live {n : Int} (q : Q (.bl (decide (n % 2 = 1))) H) : spLive [.int n] H Q E := ⟨n, rfl, q⟩
theorem i_can {a : Addr} {ns : List Int} {k : Int} (h : SqL K H a (ns.map V.int)) (h0 : 0 ≤ k) (h1 : k < ns.length) (q : Q (.bl (canBegin ns k)) H) : spCan K [.ref a, .int k] H Q E := ⟨a, ns, k, rfl, h, h0, h1, q⟩
theorem i_bad {a : Addr} {ns : List Int} {k : Int} (h : SqL K H a (ns.map V.int)) (h0 : 0 ≤ k) (h1 : k < ns.length) (q : Q (optV (badOf ns k)) H) : spBad K [.ref a, .int k] H Q E := ⟨a, ns, k, rfl, h, h0, h1, q⟩
theorem i_cell {a : Addr} {ns : List Int} {k : Int} (h : SqL K H a (ns.map V.int)) (h0 : 0 ≤ k) (q : Q (.int (ns.getD k.toNat 0)) H) : spCell K [.ref a, .int k] H Q E := ⟨a, ns, k, rfl, h, h0, q⟩
theorem i_whole {n : Int} (q : Q (.bl true) H) : spWhole [.int n] H Q E := ⟨n, rfl, q⟩
theorem live_eq2 (n : Int) : decide (Builtin.bitAnd n 1 = 1) = decide (n % 2 = 1) := by rw [← live_eq, decV]
end
end Stow
namespace Stow
def laidI (cs : List Int) (k l : Int) (v : Bool) : List Int := (cs.set k.toNat (l * 2 + if v then 1 else 0)).set (k + l - 1).toNat (l * 2 + if v then 1 else 0)
theorem laidI_len (cs : List Int) (k l : Int) (v : Bool) : (laidI cs k l v).length = cs.length := by
 unfold laidI
 rw [List.length_set, List.length_set]
theorem laidI_out {cs : List Int} {k l : Int} {v : Bool} {j : Nat} (h0 : 0 ≤ k) (h1 : 1 ≤ l) (h : (j : Int) < k ∨ k + l ≤ j) : (laidI cs k l v)[j]? = cs[j]? := by
 unfold laidI
 rw [List.getElem?_set_ne (by omega), List.getElem?_set_ne (by omega)]
theorem laidI_first {cs : List Int} {k l : Int} {v : Bool} (h0 : 0 ≤ k) (h1 : 1 ≤ l) (h : k + l ≤ cs.length) : (laidI cs k l v)[k.toNat]? = some (mkOf l v) := by
 unfold laidI mkOf
 by_cases e : (k + l - 1).toNat = k.toNat
 · rw [e, List.getElem?_set_self (by rw [List.length_set]; omega)]
 · rw [List.getElem?_set_ne e, List.getElem?_set_self (by omega)]
theorem laidI_last {cs : List Int} {k l : Int} {v : Bool} (h0 : 0 ≤ k) (h1 : 1 ≤ l) (h : k + l ≤ cs.length) : (laidI cs k l v)[(k + l - 1).toNat]? = some (mkOf l v) := by
 unfold laidI mkOf
 rw [List.getElem?_set_self (by rw [List.length_set]; omega)]
def EndBy (ds : List Pc) (k : Int) : Prop := ∀ p ∈ ds, 0 ≤ p.a ∧ 1 ≤ p.l ∧ p.a + p.l ≤ k
def FromOn (rs : List Pc) (e : Int) : Prop := ∀ p ∈ rs, e ≤ p.a ∧ 1 ≤ p.l
theorem Chain.endBy {ds : List Pc} {s e : Int} (h : Chain s ds e) (h0 : 0 ≤ s) : EndBy ds e := fun p hp => by
 obtain ⟨h1, h2, _, h3⟩ := h.mem p hp
 omega
theorem EndBy.mono {ds : List Pc} {k k' : Int} (h : EndBy ds k) (e : k ≤ k') : EndBy ds k' := fun p hp => by have := h p hp; omega
theorem EndBy.app {ds es : List Pc} {k : Int} (h : EndBy ds k) (g : EndBy es k) : EndBy (ds ++ es) k := fun p hp => (List.mem_append.mp hp).elim (h p) (g p)
theorem Marks.sub {cs : List Int} {ps qs : List Pc} (m : Marks cs ps) (h : ∀ p ∈ qs, p ∈ ps) : Marks cs qs := fun p hp => m p (h p hp)
theorem Marks.lay {cs : List Int} {ds rs : List Pc} {k l : Int} {v : Bool} (h0 : 0 ≤ k) (h1 : 1 ≤ l) (hl : k + l ≤ cs.length) (hd : EndBy ds k) (hr : FromOn rs (k + l)) (m : Marks cs (ds ++ rs)) :
   Marks (laidI cs k l v) (ds ++ ⟨k, l, v⟩ :: rs) := by
 intro p hp
 rcases List.mem_append.mp hp with h | h
 · obtain ⟨a0, a1, a2⟩ := hd p h
   obtain ⟨m1, m2⟩ := m p (List.mem_append_left _ h)
   exact ⟨by rw [laidI_out h0 h1 (by omega)]; exact m1, by rw [laidI_out h0 h1 (by omega)]; exact m2⟩
 · rcases List.mem_cons.mp h with h | h
   · subst h
     exact ⟨laidI_first h0 h1 hl, laidI_last h0 h1 hl⟩
   · obtain ⟨a0, a1⟩ := hr p h
     obtain ⟨m1, m2⟩ := m p (List.mem_append_right _ h)
     exact ⟨by rw [laidI_out h0 h1 (by omega)]; exact m1, by rw [laidI_out h0 h1 (by omega)]; exact m2⟩
def lfI (cs : List Int) (b e : Int) : List Int := if b = e then cs else laidI cs b (e - b) false
def fr (b e : Int) : List Pc := if b = e then [] else [⟨b, e - b, false⟩]
theorem lfI_len (cs : List Int) (b e : Int) : (lfI cs b e).length = cs.length := by
 unfold lfI
 split
 · rfl
 · exact laidI_len _ _ _ _
theorem lfI_out {cs : List Int} {b e : Int} {j : Nat} (h0 : 0 ≤ b) (h1 : b ≤ e) (h : (j : Int) < b ∨ e ≤ j) : (lfI cs b e)[j]? = cs[j]? := by
 unfold lfI
 split
 · rfl
 · exact laidI_out h0 (by omega) (by omega)
theorem fr_chain {b e : Int} (h : b ≤ e) : Chain b (fr b e) e := by
 unfold fr
 split
 · assumption
 · exact ⟨rfl, (by show 1 ≤ e - b; omega), (fun z => by cases z), (by show b + (e - b) = e; omega)⟩
theorem Marks.layF {cs : List Int} {ds rs : List Pc} {b e : Int} (h0 : 0 ≤ b) (h1 : b ≤ e) (hl : e ≤ cs.length) (hd : EndBy ds b) (hr : FromOn rs e) (m : Marks cs (ds ++ rs)) : Marks (lfI cs b e) (ds ++ (fr b e ++ rs)) := by
 unfold lfI fr
 split
 · exact m
 · exact Marks.lay h0 (by omega) (by omega) hd (by rw [show b + (e - b) = e by omega]; exact hr) m
def cutO (cs : List Int) (a l s L : Int) : List Int := lfI (laidI (lfI cs a s) s L true) (s + L) (a + l)
theorem cutO_len (cs : List Int) (a l s L : Int) : (cutO cs a l s L).length = cs.length := by
 unfold cutO
 rw [lfI_len, laidI_len, lfI_len]
def cutP (ds rs : List Pc) (a l s L : Int) : List Pc := ds ++ (fr a s ++ (⟨s, L, true⟩ :: (fr (s + L) (a + l) ++ rs)))
theorem cutP_marks {cs : List Int} {ds rs : List Pc} {z : Pc} {s L : Int} (h0 : 0 ≤ z.a) (hL : 1 ≤ L) (h1 : z.a ≤ s) (h2 : s + L ≤ z.a + z.l) (hl : z.a + z.l ≤ cs.length) (hd : EndBy ds z.a) (hr : FromOn rs (z.a + z.l)) (m : Marks cs (ds ++ z :: rs)) :
   Marks (cutO cs z.a z.l s L) (cutP ds rs z.a z.l s L) := by
 have m0 : Marks cs (ds ++ rs) := m.sub fun p hp => by
   rcases List.mem_append.mp hp with h | h
   · exact List.mem_append_left _ h
   · exact List.mem_append_right _ (List.mem_cons_of_mem _ h)
 have m1 := Marks.layF h0 h1 (by omega) hd (fun p hp => by have := hr p hp; omega) m0
 have d1 : EndBy (ds ++ fr z.a s) s := (hd.mono h1).app ((fr_chain h1).endBy h0)
 have m2 : Marks (laidI (lfI cs z.a s) s L true) ((ds ++ fr z.a s) ++ ⟨s, L, true⟩ :: rs) :=
   Marks.lay (by omega) hL (by rw [lfI_len]; omega) d1 (fun p hp => by have := hr p hp; omega) (by rw [List.append_assoc]; exact m1)
 have d2 : EndBy ((ds ++ fr z.a s) ++ [⟨s, L, true⟩]) (s + L) := (d1.mono (by omega)).app fun p hp => by
   have : p = ⟨s, L, true⟩ := by simpa using hp
   subst this
   exact ⟨by show 0 ≤ s; omega, hL, Int.le_refl _⟩
 have m3 := Marks.layF (cs := laidI (lfI cs z.a s) s L true) (b := s + L) (e := z.a + z.l) (by omega) h2 (by rw [laidI_len, lfI_len]; omega) d2 hr (by rw [List.append_assoc]; exact m2)
 unfold cutO cutP
 simpa only [List.append_assoc, List.singleton_append, List.cons_append, List.nil_append] using m3
theorem cutO_out {cs : List Int} {a l s L : Int} {j : Nat} (h0 : 0 ≤ a) (hL : 1 ≤ L) (h1 : a ≤ s) (h2 : s + L ≤ a + l) (h : (j : Int) < a ∨ a + l ≤ j) : (cutO cs a l s L)[j]? = cs[j]? := by
 unfold cutO
 rw [lfI_out (by omega) h2 (by omega), laidI_out (by omega) hL (by omega), lfI_out h0 h1 (by omega)]
theorem chain_split : ∀ {ps : List Pc} {s e : Int} {i : Nat} {z : Pc}, Chain s ps e → ps[i]? = some z → ∃ ds rs, ps = ds ++ z :: rs ∧ ds.length = i ∧ Chain s ds z.a ∧ Chain (z.a + z.l) rs e
 | [], s, e, i, z, _, h => by simp at h
 | p :: r, s, e, 0, z, c, h => by
   have e1 : p = z := by simpa using h
   subst e1
   obtain ⟨h0, h1, h2, h3⟩ := c
   exact ⟨[], r, rfl, rfl, h0.symm, by rw [h0]; exact h3⟩
 | p :: r, s, e, i + 1, z, c, h => by
   obtain ⟨h0, h1, h2, h3⟩ := c
   obtain ⟨ds, rs, e1, e2, c1, c2⟩ := chain_split h3 (show r[i]? = some z by simpa using h)
   exact ⟨p :: ds, rs, by rw [e1]; rfl, by rw [List.length_cons, e2], ⟨h0, h1, h2, c1⟩, c2⟩
theorem chain_apart {ps : List Pc} : ∀ {b e : Int}, Chain b ps e → ∀ (i j : Nat) (y z : Pc), ps[i]? = some y → ps[j]? = some z → y.a = z.a → y = z := by
 induction ps with
 | nil => intro b e _ i j y z hi; simp at hi
 | cons p r ih =>
   intro b e h i j y z hi hj ha
   obtain ⟨e1, h1, h3, c⟩ := h
   have up : ∀ (i : Nat) (y : Pc), r[i]? = some y → y.a > p.a := fun i y hy => by
     have := (c.mem y (List.mem_of_getElem? hy)).1
     omega
   cases i with
   | zero =>
     cases j with
     | zero => simp at hi hj; rw [← hi, ← hj]
     | succ j =>
       have e2 : p = y := by simpa using hi
       have := up j z (by simpa using hj)
       subst e2; omega
   | succ i =>
     cases j with
     | zero =>
       have e2 : p = z := by simpa using hj
       have := up i y (by simpa using hi)
       subst e2; omega
     | succ j => exact ih c i j y z (by simpa using hi) (by simpa using hj) ha
end Stow
namespace Stow
theorem chain_same {ps : List Pc} {s e : Int} {y z : Pc} (c : Chain s ps e) (hy : y ∈ ps) (hz : z ∈ ps) (h : y.a = z.a) : y = z := by
 obtain ⟨i, hi⟩ := List.getElem?_of_mem hy
 obtain ⟨j, hj⟩ := List.getElem?_of_mem hz
 exact chain_apart c i j y z hi hj h
end Stow
namespace Stow
end Stow
namespace Stow
end Stow
namespace Stow
theorem Chain.take : ∀ {ps : List Pc} {s e : Int} {i : Nat}, Chain s ps e → i ≤ ps.length → ∃ m, Chain s (ps.take i) m ∧ Chain m (ps.drop i) e
 | ps, s, e, 0, c, _ => ⟨s, rfl, c⟩
 | [], s, e, i + 1, c, h => by simp at h
 | p :: r, s, e, i + 1, c, h => by
   obtain ⟨h0, h1, h2, h3⟩ := c
   obtain ⟨m, c1, c2⟩ := h3.take (i := i) (by simpa using h)
   exact ⟨m, ⟨h0, h1, h2, c1⟩, c2⟩
theorem Chain.unsnoc {D : List Pc} {y : Pc} {s e : Int} (c : Chain s (D ++ [y]) e) : Chain s D y.a ∧ 1 ≤ y.l ∧ (y.v = true → 3 ≤ y.l) ∧ y.a + y.l = e := by
 obtain ⟨ds, rs, e1, e2, c1, c2⟩ := chain_split (i := D.length) (z := y) c (by rw [List.getElem?_append_right (Nat.le_refl _), Nat.sub_self]; rfl)
 have hl := congrArg List.length e1
 rw [List.length_append, List.length_append, List.length_singleton, List.length_cons] at hl
 have er : rs = [] := List.length_eq_zero_iff.mp (by omega)
 subst er
 have := (List.append_inj e1 (by omega)).1
 subst this
 obtain ⟨h1, h2, h3, _⟩ := c.mem y (List.mem_append_right _ List.mem_cons_self)
 exact ⟨c1, h2, h3, c2⟩
def NoAdj (ps : List Pc) : Prop := ∀ j y z, ps[j]? = some y → ps[j + 1]? = some z → y.v = true ∨ z.v = true
theorem NoAdj.snoc {D : List Pc} {w z : Pc} (h : NoAdj (D ++ [w])) (hv : w.v = true ∨ z.v = true) : NoAdj (D ++ [w] ++ [z]) := by
 intro j y x hy hx
 have hl : j + 1 < (D ++ [w] ++ [z]).length := (List.getElem?_eq_some_iff.mp hx).1
 rw [List.length_append, List.length_singleton] at hl
 rw [List.getElem?_append_left (by omega)] at hy
 by_cases e : j + 1 < (D ++ [w]).length
 · rw [List.getElem?_append_left e] at hx
   exact h j y x hy hx
 · rw [List.length_append, List.length_singleton] at e hl
   rw [List.getElem?_append_right (by rw [List.length_append, List.length_singleton]; omega), show j + 1 - (D ++ [w]).length = 0 by rw [List.length_append, List.length_singleton]; omega] at hx
   rw [show j = D.length by omega, List.getElem?_append_right (Nat.le_refl _), Nat.sub_self] at hy
   have e1 : w = y := by simpa using hy
   have e2 : z = x := by simpa using hx
   rw [← e1, ← e2]
   exact hv
end Stow
namespace Stow
end Stow
namespace Stow
end Stow
namespace Stow
open PySem L2 PyProof.Rows
theorem PcsAt.unsnoc {H : Hp} {us : List V} {ps : List Pc} {y : Pc} (h : PcsAt H us (ps ++ [y])) : ∃ ui t, us = ui ++ [.ref t] ∧ PcsAt H ui ps ∧ H t = some (.tup [.int y.a, .int y.l, .bl y.v]) := by
 have hl := h.1
 rw [List.length_append, List.length_singleton] at hl
 obtain ⟨t, e1, e2⟩ := h.2 ps.length y (by rw [List.getElem?_append_right (Nat.le_refl _), Nat.sub_self]; rfl)
 have hd : us = us.take ps.length ++ [.ref t] := by
   have := List.take_append_drop ps.length us
   have e3 : us.drop ps.length = [.ref t] := by
     apply List.ext_getElem?
     intro i
     rw [List.getElem?_drop]
     cases i with
     | zero => exact e1
     | succ i => rw [List.getElem?_eq_none (by omega)]; rfl
   rw [e3] at this
   exact this.symm
 refine ⟨us.take ps.length, t, hd, ⟨by rw [List.length_take]; omega, fun i p e => ?_⟩, e2⟩
 have hi : i < ps.length := (List.getElem?_eq_some_iff.mp e).1
 obtain ⟨a, h1, h2⟩ := h.2 i p (by rw [List.getElem?_append_left hi]; exact e)
 exact ⟨a, by rw [List.getElem?_take_of_lt hi]; exact h1, h2⟩
section
variable {X : Cx}
end
end Stow
namespace Stow
open PySem L2 PyProof.Rows
def eqVs (xs ys : List V) : Bool := (List.range (min xs.length ys.length)).all (fun j => eqV (xs.getD j .non) (ys.getD j .non)) && xs.length == ys.length
section
variable {X : Cx} {pins : List (Addr × Obj)} {σ : L2.St} {H : Hp} {s : Shared} {A : Around}
theorem items_eq {a b : Addr} {xs ys : List V} (I : Inv X pins σ H s) (ha : SqT X.K H a xs) (hb : SqT X.K H b ys) (hf : xs.all flatV = true) (hg : ys.all flatV = true) :
   ∃ its its2 : List Value, s.heap.IsTuple a its.toArray ∧ s.heap.IsTuple b its2.toArray ∧ its.length = xs.length ∧ its2.length = ys.length ∧
     ∀ j (h1 : j < its.toArray.size) (h2 : j < its2.toArray.size), SeqAt.EqAt A s its.toArray[j] its2.toArray[j] (eqV (xs.getD j .non) (ys.getD j .non)) := by
 obtain ⟨its, r1, p1, _⟩ := I.tuple ha
 obtain ⟨its2, r2, p2, _⟩ := I.tuple hb
 have l1 := r1.length
 have l2 := r2.length
 refine ⟨its, its2, p1, p2, l1.symm, l2.symm, fun j h1 h2 => ?_⟩
 rw [List.size_toArray] at h1 h2
 have hj : j < xs.length := by omega
 have hk : j < ys.length := by omega
 obtain ⟨u1, e1, q1⟩ := r1.get (i := j) (x := xs[j]) (by simp [hj])
 obtain ⟨u2, e2, q2⟩ := r2.get (i := j) (x := ys[j]) (by simp [hk])
 obtain ⟨g1, f1⟩ := List.getElem?_eq_some_iff.mp e1
 obtain ⟨g2, f2⟩ := List.getElem?_eq_some_iff.mp e2
 have fl : flatV xs[j] = true := List.all_eq_true.mp hf _ (List.getElem_mem hj)
 have gl : flatV ys[j] = true := List.all_eq_true.mp hg _ (List.getElem_mem hk)
 have z := eqAt_V (A := A) (s := s) q1 q2 fl gl
 rw [← f1, ← f2] at z
 have ex : xs.getD j .non = xs[j] := by simp [hj]
 have ey : ys.getD j .non = ys[j] := by simp [hk]
 rw [ex, ey]
 simpa using z
theorem rc_tups {a b : Addr} {xs ys : List V} (hu : A.units < cLine) (I : Inv X pins σ H s) (ha : SqT X.K H a xs) (hb : SqT X.K H b ys) (hf : xs.all flatV = true) (hg : ys.all flatV = true) : SeqAt.RcAt A s (.ref a) (.ref b) (eqVs xs ys) := by
 obtain ⟨its, its2, p1, p2, l1, l2, he⟩ := items_eq (A := A.in1) I ha hb hf hg
 have key := SeqAt.RcAt.tuples p1 p2 hu he
 simp only [List.size_toArray, l1, l2] at key
 exact key
theorem eqVs_self {xs : List V} (hf : xs.all flatV = true) : eqVs xs xs = true := by
 unfold eqVs
 rw [Bool.and_eq_true]
 refine ⟨List.all_eq_true.mpr fun j hj => ?_, by simp⟩
 have hj : j < xs.length := by simpa using hj
 have ex : xs.getD j .non = xs[j] := by simp [hj]
 rw [ex]
 exact eqV_self (List.all_eq_true.mp hf _ (List.getElem_mem hj))
theorem eq_tup_same {a b : Addr} {xs : List V} (hu : A.units < cLine) (I : Inv X pins σ H s) (ha : SqT X.K H a xs) (hb : SqT X.K H b xs) (hf : xs.all flatV = true) : SeqAt.EqAt A s (.ref a) (.ref b) true := by
 by_cases e : a = b
 · subst e; exact SeqAt.EqAt.same _
 · refine SeqAt.EqAt.of_refs e ?_
   have := rc_tups hu I ha hb hf hf
   rwa [eqVs_self hf] at this
end
section
variable {X : Cx}
theorem op_eqTG (hu : X.A.units < cLine) : OpR X (compareOp .Eq) (fun x y H Q => ∃ a b xs ys, x = .ref a ∧ y = .ref b ∧ SqT X.K H a xs ∧ SqT X.K H b ys ∧ xs.all flatV = true ∧ ys.all flatV = true ∧ Q (.bl (eqVs xs ys)) H) := by
 intro pins s σ H x y v u Q I rx ry h
 obtain ⟨a, b, xs, ys, rfl, rfl, ha, hb, hf, hg, q⟩ := h
 cases rx
 cases ry
 exact rc_tups hu I ha hb hf hg _ _ _ _ ⟨.bl _, H, I, rfl, q⟩
theorem op_neLP (hu : X.A.units + 64 < cLine) : OpR X (compareOp .NotEq) (fun x y H Q => ∃ a b us ws ps, x = .ref a ∧ y = .ref b ∧ H a = some (.lst us) ∧ H b = some (.lst ws) ∧ PcsAt H us ps ∧ PcsAt H ws ps ∧ Q (.bl false) H) := by
 intro pins s σ H x y v u Q I rx ry h
 obtain ⟨a, b, us, ws, ps, rfl, rfl, ha, hb, pu, pw, q⟩ := h
 cases rx
 cases ry
 obtain ⟨its, r1, p1, _⟩ := I.list (SqL.of ha)
 obtain ⟨its2, r2, p2, _⟩ := I.list (SqL.of hb)
 have l1 := r1.length
 have l2 := r2.length
 have m1 := pu.1
 have m2 := pw.1
 have key : SeqAt.RcNeAt X.A s (.ref a) (.ref b) (!((List.range its.toArray.size).all (fun _ => true))) := by
   refine SeqAt.RcNeAt.lists p1.isList p2.isList (by rw [List.size_toArray, List.size_toArray]; omega) (by omega) fun j h1 h2 => ?_
   rw [List.size_toArray] at h1 h2
   have hj : j < ps.length := by omega
   obtain ⟨t1, e1, f1⟩ := pu.2 j ps[j] (by simp [hj])
   obtain ⟨t2, e2, f2⟩ := pw.2 j ps[j] (by simp [hj])
   obtain ⟨u1, g1, q1⟩ := r1.get e1
   obtain ⟨u2, g2, q2⟩ := r2.get e2
   cases q1
   cases q2
   obtain ⟨_, k1⟩ := List.getElem?_eq_some_iff.mp g1
   obtain ⟨_, k2⟩ := List.getElem?_eq_some_iff.mp g2
   have z := eq_tup_same (A := X.A.in1) (by show X.A.units + 1 < cLine; omega) I (SqT.of f1) (SqT.of f2) rfl
   rw [← k1, ← k2] at z
   simpa using z
 have e : (!((List.range its.toArray.size).all (fun _ => true))) = false := by simp
 rw [e] at key
 exact key _ _ _ _ ⟨.bl false, H, I, rfl, q⟩
end
end Stow
set_option Elab.async false
set_option linter.all false
set_option maxRecDepth 100000
set_option maxHeartbeats 4000000
namespace L2
open PySem PySem.Spec PyProof.Rows
section
variable {κ : Type} [DecidableEq κ]
def valV (kvs : List (κ × V)) (k : κ) : Option V := (kvs.find? fun kv => decide (kv.1 = k)).map (·.2)
def putK (kvs : List (κ × V)) (k : κ) (v : V) : List (κ × V) :=
 if (kvs.any fun kv => decide (kv.1 = k)) = true then kvs.map (fun kv => if kv.1 = k then (kv.1, v) else kv) else kvs ++ [(k, v)]
def dropK (kvs : List (κ × V)) (k : κ) : List (κ × V) := kvs.filter fun kv => decide (kv.1 ≠ k)
theorem valV_pos {p : κ × V} {r : List (κ × V)} {k : κ} (e : p.1 = k) : valV (p :: r) k = some p.2 := by simp [valV, List.find?_cons, e]
theorem valV_neg {p : κ × V} {r : List (κ × V)} {k : κ} (e : ¬ p.1 = k) : valV (p :: r) k = valV r k := by simp [valV, List.find?_cons, e]
theorem valV_any (k : κ) : ∀ kvs : List (κ × V), (kvs.any fun kv => decide (kv.1 = k)) = (valV kvs k).isSome
 | [] => rfl
 | p :: r => by
   rw [List.any_cons]
   by_cases e : p.1 = k
   · simp only [valV_pos e, decide_eq_true e, Bool.true_or, Option.isSome_some]
   · rw [valV_neg e, decide_eq_false e, Bool.false_or]; exact valV_any k r
theorem valV_map (k j : κ) (y : V) : ∀ kvs : List (κ × V), valV (kvs.map fun kv => if kv.1 = k then (kv.1, y) else kv) j = (valV kvs j).map fun x => if j = k then y else x
 | [] => rfl
 | p :: r => by
   have ih := valV_map k j y r
   rw [List.map_cons]
   by_cases h : p.1 = k
   · rw [if_pos h]
     by_cases e : p.1 = j
     · rw [valV_pos (p := (p.1, y)) e, valV_pos e, Option.map_some, if_pos (e.symm.trans h)]
     · rw [valV_neg (p := (p.1, y)) e, valV_neg e, ih]
   · rw [if_neg h]
     by_cases e : p.1 = j
     · rw [valV_pos (p := p) e, valV_pos e, Option.map_some, if_neg (fun z => h (e.trans z))]
     · rw [valV_neg (p := p) e, valV_neg e, ih]
theorem valV_snoc (k j : κ) (y : V) : ∀ kvs : List (κ × V), valV kvs k = none → valV (kvs ++ [(k, y)]) j = if j = k then some y else valV kvs j
 | [], _ => by
   by_cases e : k = j
   · rw [if_pos e.symm]; exact valV_pos (p := (k, y)) e
   · rw [if_neg (fun z => e z.symm)]; exact valV_neg (p := (k, y)) e
 | p :: r, hn => by
   rw [List.cons_append]
   have hk : ¬ p.1 = k := fun z => by rw [valV_pos z] at hn; cases hn
   rw [valV_neg hk] at hn
   have ih := valV_snoc k j y r hn
   by_cases e : p.1 = j
   · rw [valV_pos e, valV_pos e, if_neg (fun z => hk (e.trans z))]
   · rw [valV_neg e, valV_neg e, ih]
theorem valV_put (kvs : List (κ × V)) (k j : κ) (y : V) : valV (putK kvs k y) j = if j = k then some y else valV kvs j := by
 unfold putK
 by_cases a : (kvs.any fun kv => decide (kv.1 = k)) = true
 · rw [if_pos a, valV_map]
   rw [valV_any] at a
   by_cases e : j = k
   · obtain ⟨x, hx⟩ := Option.isSome_iff_exists.mp a
     rw [if_pos e, e, hx, Option.map_some, if_pos rfl]
   · rw [if_neg e]
     cases valV kvs j with
     | none => rfl
     | some x => rw [Option.map_some, if_neg e]
 · rw [if_neg a]
   refine valV_snoc k j y kvs ?_
   rw [valV_any] at a
   cases q : valV kvs k with
   | none => rfl
   | some x => rw [q] at a; exact (a rfl).elim
theorem length_putK (kvs : List (κ × V)) (k : κ) (v : V) : (putK kvs k v).length ≤ kvs.length + 1 := by
 unfold putK
 split
 · rw [List.length_map]; omega
 · rw [List.length_append, List.length_cons, List.length_nil]; omega
theorem RelO.isSome_eq {o : Option V} {u : Option Value} (r : RelO o u) : o.isSome = u.isSome := by
 cases o with
 | none => cases u with
   | none => rfl
   | some _ => exact (show False from r).elim
 | some _ => cases u with
   | none => exact (show False from r).elim
   | some _ => rfl
theorem RelO.getD {o : Option V} {u : Option Value} {d : V} {d' : Value} (r : RelO o u) (rd : RelV d d') : RelV (o.getD d) (u.getD d') := by
 cases o with
 | none => cases u with
   | none => exact rd
   | some _ => exact (show False from r).elim
 | some _ => cases u with
   | none => exact (show False from r).elim
   | some _ => exact r
theorem KV.val {kvs : List (κ × V)} {vs : List (κ × Value)} (r : KV kvs vs) (k : κ) : RelO (valV kvs k) (valueAt vs k) := by
 unfold KV at r
 induction r with
 | nil => exact True.intro
 | @cons p q ps qs h t ih =>
   obtain ⟨h1, h2⟩ := h
   by_cases e : p.1 = k
   · have e' : q.1 = k := h1.symm.trans e
     have b : valueAt (q :: qs) k = some q.2 := by simp [valueAt, List.find?_cons, e']
     rw [valV_pos e, b]; exact h2
   · have e' : ¬ q.1 = k := fun z => e (h1.trans z)
     have b : valueAt (q :: qs) k = valueAt qs k := by simp [valueAt, List.find?_cons, e']
     rw [valV_neg e, b]; exact ih
theorem KV.any {kvs : List (κ × V)} {vs : List (κ × Value)} (r : KV kvs vs) (k : κ) : (kvs.any fun kv => decide (kv.1 = k)) = vs.any fun kv => decide (kv.1 = k) := by
 unfold KV at r
 induction r with
 | nil => rfl
 | cons h t ih => rw [List.any_cons, List.any_cons, ih, h.1]
theorem KV.repl {kvs : List (κ × V)} {vs : List (κ × Value)} (r : KV kvs vs) (k : κ) {y : V} {u : Value} (ry : RelV y u) :
   KV (kvs.map fun kv => if kv.1 = k then (kv.1, y) else kv) (vs.map fun kv => if kv.1 = k then (kv.1, u) else kv) := by
 unfold KV at r ⊢
 induction r with
 | nil => exact .nil
 | @cons p q ps qs h t ih =>
   rw [List.map_cons, List.map_cons]
   refine .cons ?_ ih
   obtain ⟨h1, h2⟩ := h
   by_cases e : p.1 = k
   · rw [if_pos e, if_pos (h1.symm.trans e)]; exact ⟨h1, ry⟩
   · rw [if_neg e, if_neg (fun z => e (h1.trans z))]; exact ⟨h1, h2⟩
theorem KV.put {kvs : List (κ × V)} {vs : List (κ × Value)} (r : KV kvs vs) (k : κ) {y : V} {u : Value} (ry : RelV y u) : KV (putK kvs k y) (stored vs k u) := by
 unfold putK stored
 rw [r.any k]
 by_cases e : (vs.any fun kv => decide (kv.1 = k)) = true
 · rw [if_pos e, if_pos e]; exact r.repl k ry
 · rw [if_neg e, if_neg e]; exact Paired.snoc r ⟨rfl, ry⟩
theorem KV.drop {kvs : List (κ × V)} {vs : List (κ × Value)} (r : KV kvs vs) (k : κ) : KV (dropK kvs k) (without vs k) := by
 unfold KV at r ⊢
 unfold dropK without
 induction r with
 | nil => exact .nil
 | @cons p q ps qs h t ih =>
   obtain ⟨h1, h2⟩ := h
   rw [List.filter_cons, List.filter_cons]
   by_cases e : p.1 = k
   · have a : ¬ decide (p.1 ≠ k) = true := by simp [e]
     have b : ¬ decide (q.1 ≠ k) = true := by simp [h1.symm.trans e]
     rw [if_neg a, if_neg b]; exact ih
   · have e' : ¬ q.1 = k := fun z => e (h1.trans z)
     have a : decide (p.1 ≠ k) = true := by simp [e]
     have b : decide (q.1 ≠ k) = true := by simp [e']
     rw [if_pos a, if_pos b]; exact .cons ⟨h1, h2⟩ ih
theorem KV.length {kvs : List (κ × V)} {vs : List (κ × Value)} (r : KV kvs vs) : kvs.length = vs.length := Paired.length r
end
theorem kV_is {P : Program} {w : World} {k : Key} {u : Value} (r : RelV (kV k) u) : (mixKind P w).is k u = true := by
 cases k with
 | inl i => obtain ⟨t, e⟩ := (show ∃ t, u = Value.int i t from r); subst e; exact mixKind_int P w i t
 | inr x => obtain ⟨t, e⟩ := (show ∃ t, u = Value.str x t from r); subst e; exact mixKind_str P w x t
theorem items_are {P : Program} {w : World} : ∀ {ks : List Key} {us : List Value}, Vals (ks.map kV) us → ItemsAre (mixKind P w) ks us
 | [], _, r => by rw [List.map_nil] at r; cases r; exact .nil
 | k :: ks, _, r => by
   rw [List.map_cons] at r
   cases r with
   | cons h t => exact .cons (kV_is h) (items_are t)
abbrev KT (H : Hp) : List (List Key × V) → List (List Key × Addr × Value) → Prop := Paired fun p q => p.1 = q.1 ∧ H q.2.1 = some (.tup (p.1.map kV)) ∧ RelV p.2 q.2.2
theorem KT.val {H : Hp} {kvs : List (List Key × V)} {xs : List (List Key × Addr × Value)} (r : KT H kvs xs) (k : List Key) : RelO (valV kvs k) ((atKey xs k).map (·.2)) := by
 induction r with
 | nil => exact True.intro
 | @cons p q ps qs h t ih =>
   obtain ⟨h1, _, h2⟩ := h
   by_cases e : p.1 = k
   · have e' : q.1 = k := h1.symm.trans e
     have b : atKey (q :: qs) k = some q.2 := by simp [atKey, List.find?_cons, e']
     rw [valV_pos e, b]; exact h2
   · have e' : ¬ q.1 = k := fun z => e (h1.trans z)
     have b : atKey (q :: qs) k = atKey qs k := by simp [atKey, List.find?_cons, e']
     rw [valV_neg e, b]; exact ih
theorem KT.repl {H : Hp} {kvs : List (List Key × V)} {xs : List (List Key × Addr × Value)} (r : KT H kvs xs) (k : List Key) {y : V} {u : Value} (ry : RelV y u) :
   KT H (kvs.map fun kv => if kv.1 = k then (kv.1, y) else kv) (xs.map (putAt k u)) := by
 induction r with
 | nil => exact .nil
 | @cons p q ps qs h t ih =>
   rw [List.map_cons, List.map_cons]
   refine .cons ?_ ih
   obtain ⟨h1, h2, h3⟩ := h
   unfold putAt
   by_cases e : p.1 = k
   · rw [if_pos e, if_pos (h1.symm.trans e)]; exact ⟨h1, h2, ry⟩
   · rw [if_neg e, if_neg (fun z => e (h1.trans z))]; exact ⟨h1, h2, h3⟩
theorem KT.put {H : Hp} {kvs : List (List Key × V)} {xs : List (List Key × Addr × Value)} (r : KT H kvs xs) (k : List Key) {b : Addr} {y : V} {u : Value} (hb : H b = some (.tup (k.map kV))) (ry : RelV y u) :
   KT H (putK kvs k y) (storedH xs k b u) := by
 have e : (kvs.any fun kv => decide (kv.1 = k)) = (atKey xs k).isSome := by
   rw [valV_any, (r.val k).isSome_eq, Option.isSome_map]
 unfold putK storedH
 rw [e]
 by_cases q : (atKey xs k).isSome = true
 · rw [if_pos q, if_pos q]; exact r.repl k ry
 · rw [if_neg q, if_neg q]; exact Paired.snoc r ⟨rfl, hb, ry⟩
theorem KT.keeps {H H' : Hp} {kvs : List (List Key × V)} {xs : List (List Key × Addr × Value)} (r : KT H kvs xs) (ht : ∀ b ys, H b = some (.tup ys) → H' b = some (.tup ys)) : KT H' kvs xs :=
 Paired.mapP r fun _ _ z => ⟨z.1, ht _ _ z.2.1, z.2.2⟩
section
variable {P : Program} {w : World} {H : Hp} {h : Heap} {a : Addr}
theorem rd_of {u : HO} (ok : HOk P w H h) (e : Rd H a u) : ObjOk P w H h a u := e.ok ok
theorem dk_rd {kvs : List (Key × V)} (ok : HOk P w H h) (e : Rd H a (.dK kvs)) : kvs.length ≤ sizeLine ∧ (a == sysModules) = false ∧ ∃ vs, KV kvs vs ∧ h.DictOf (mixKind P w) a vs :=
 show ObjOk P w H h a (.dK kvs) from rd_of ok e
theorem dk_of {kvs : List (Key × V)} (ok : HOk P w H h) (e : H a = some (.dK kvs)) : kvs.length ≤ sizeLine ∧ (a == sysModules) = false ∧ ∃ vs, KV kvs vs ∧ h.DictOf (mixKind P w) a vs := dk_rd ok (.inl e)
theorem key_of {ks : List Key} (ok : HOk P w H h) (e : H a = some (.tup (ks.map kV))) : (tupleKind (mixKind P w)).is h ks a := by
 obtain ⟨_, its, r, o, h1, h2, n, h3⟩ := (show ObjOk P w H h a (.tup (ks.map kV)) from ok a _ e)
 exact ⟨o, its.toArray, n, h1, h2, h3, by simpa using items_are r⟩
theorem dt_rd {kvs : List (List Key × V)} (ok : HOk P w H h) (e : Rd H a (.dT kvs)) : kvs.length ≤ sizeLine ∧ (a == sysModules) = false ∧
   ∃ xs, KT H kvs xs ∧ h.DictOfH (tupleKind (mixKind P w)) a xs := by
 obtain ⟨z, y, xs, r, o, es, ep, h1, h2, h3, h4, h5⟩ := (show ObjOk P w H h a (.dT kvs) from rd_of ok e)
 refine ⟨z, y, xs, r, o, es, ep, h1, h2, h3, h4, fun x hx => ?_, h5⟩
 have all : ∀ {l : List (List Key × V)} {m : List (List Key × Addr × Value)}, KT H l m → ∀ x ∈ m, (tupleKind (mixKind P w)).is h x.1 x.2.1 := by
   intro l m q
   induction q with
   | nil => intro x hx; exact nomatch hx
   | @cons p q ps qs hq t ih =>
     intro x hx
     rcases List.mem_cons.mp hx with e | hx
     · subst e
       exact key_of ok (by rw [← hq.1]; exact hq.2.1)
     · exact ih x hx
 exact all r x hx
theorem dt_of {kvs : List (List Key × V)} (ok : HOk P w H h) (e : H a = some (.dT kvs)) : kvs.length ≤ sizeLine ∧ (a == sysModules) = false ∧
   ∃ xs, KT H kvs xs ∧ h.DictOfH (tupleKind (mixKind P w)) a xs := dt_rd ok (.inl e)
end
def DGet (H : Hp) (a : Addr) (y : V) (r : Option V) : Prop :=
 (∃ kvs k, Rd H a (.dK kvs) ∧ y = kV k ∧ r = valV kvs k) ∨ ∃ kvs k b, Rd H a (.dT kvs) ∧ y = .ref b ∧ H b = some (.tup (k.map kV)) ∧ r = valV kvs k
def DPut (H : Hp) (a : Addr) (y v : V) (H' : Hp) : Prop :=
 (∃ kvs k, H a = some (.dK kvs) ∧ y = kV k ∧ kvs.length < sizeLine ∧ H' = upd H a (.dK (putK kvs k v))) ∨
 ∃ kvs k b, H a = some (.dT kvs) ∧ y = .ref b ∧ H b = some (.tup (k.map kV)) ∧ kvs.length < sizeLine ∧ H' = upd H a (.dT (putK kvs k v))
theorem DGet.k {H : Hp} {a : Addr} {kvs : List (Key × V)} {k : Key} (e : H a = some (.dK kvs)) : DGet H a (kV k) (valV kvs k) := .inl ⟨kvs, k, .inl e, rfl, rfl⟩
theorem DGet.t {H : Hp} {a b : Addr} {kvs : List (List Key × V)} {k : List Key} (e : H a = some (.dT kvs)) (eb : H b = some (.tup (k.map kV))) : DGet H a (.ref b) (valV kvs k) := .inr ⟨kvs, k, b, .inl e, rfl, eb, rfl⟩
theorem DPut.k {H : Hp} {a : Addr} {kvs : List (Key × V)} {k : Key} {v : V} (e : H a = some (.dK kvs)) (hl : kvs.length < sizeLine) : DPut H a (kV k) v (upd H a (.dK (putK kvs k v))) := .inl ⟨kvs, k, e, rfl, hl, rfl⟩
theorem DPut.t {H : Hp} {a b : Addr} {kvs : List (List Key × V)} {k : List Key} {v : V} (e : H a = some (.dT kvs)) (eb : H b = some (.tup (k.map kV))) (hl : kvs.length < sizeLine) :
   DPut H a (.ref b) v (upd H a (.dT (putK kvs k v))) := .inr ⟨kvs, k, b, e, rfl, eb, hl, rfl⟩
section
variable {X : Cx} {pins : List (Addr × Obj)} {σ : St} {H : Hp} {s : Shared} {a : Addr} {y v : V} {u r : Value} {o : Option V} {A : Around} {E : Value → Shared → Prop}
theorem Inv.big (I : Inv X pins σ H s) : sysModules < s.heap.objs.size := by
 have h : mainGlobals < s.heap.objs.size := (I.mod.glob.keeps I.bk).lt
 exact Nat.lt_trans (by decide) h
theorem d_getItem {Q : Value → Shared → Prop} (hu : A.units + 1 < cLine) (I : Inv X pins σ H s) (g : DGet H a y (some v)) (ry : RelV y u) (h : ∀ w' s', Inv X pins σ H s' → RelV v w' → Q w' s') :
   wpAny (model X.prog X.w) A (getItem (.ref a) u) Q E s := by
 rcases g with ⟨kvs, k, e, ey, l⟩ | ⟨kvs, k, b, e, ey, eb, l⟩
 · subst ey
   obtain ⟨z, hd, vs, rel, dd⟩ := dk_rd I.hok e
   obtain ⟨w', hw, rw'⟩ := RelO.some_of (v := v) (o := valueAt vs k) (by rw [l]; exact rel.val k)
   exact wpAny_getItem_of (kV_is ry) dd.mapOf hw (h w' _ (I.tok _) rw')
 · subst ey
   cases (show u = Value.ref b from ry)
   obtain ⟨z, hd, xs, rel, dd⟩ := dt_rd I.hok e
   obtain ⟨w', hw, rw'⟩ := RelO.some_of (v := v) (o := (atKey xs k).map (·.2)) (by rw [l]; exact rel.val k)
   obtain ⟨p, hp, hp2⟩ := Option.map_eq_some_iff.mp hw
   refine wpAny_getItem_heap (tupleKind_room_in1 hu) (key_of I.hok eb) dd hp ?_
   rw [hp2]
   exact h w' _ (I.tok _) rw'
theorem d_write {h' : Heap} {t' : Nat} {ob : HO} (I : Inv X pins σ H s) (mu : Mut (H a)) (hs : Heap.SameBut a s.heap h') (he : ∃ q, h'.get? a = some q) (new : ObjOk X.prog X.w (upd H a ob) h' a ob) :
   Inv X pins σ (upd H a ob) { s with heap := h', toks := t' } :=
 I.write (x := a) (e := a) mu (.inl rfl) (fun b q hb z => (hs.2 b hb).trans z) he new
theorem dk_new {P : Program} {w : World} {H' : Hp} {h' : Heap} {kvs : List (Key × V)} {vs : List (Key × Value)} (z : kvs.length ≤ sizeLine) (hd : (a == sysModules) = false) (rel : KV kvs vs) (dd : h'.DictOf (mixKind P w) a vs) :
   ObjOk P w H' h' a (.dK kvs) := ⟨z, hd, vs, rel, dd⟩
theorem d_setItem {H' : Hp} {Q : Unit → Shared → Prop} (hu : A.units + 1 < cLine) (I : Inv X pins σ H s) (g : DPut H a y v H') (ry : RelV y u) (rv : RelV v r) (h : ∀ s', Inv X pins σ H' s' → Q () s') :
   wpAny (model X.prog X.w) A (setItem (.ref a) u r) Q E s := by
 rcases g with ⟨kvs, k, e, ey, l, eH⟩ | ⟨kvs, k, b, e, ey, eb, l, eH⟩
 · subst ey eH
   obtain ⟨z, hd, vs, rel, dd⟩ := dk_of I.hok e
   have hz : vs.length ≤ sizeLine := by rw [← rel.length]; exact z
   have hl : (putK kvs k v).length ≤ sizeLine := by have := length_putK kvs k v; omega
   refine wpAny_setItem_pairs (hsz := hz) (kV_is ry) dd fun h' dd' hs => h _ ?_
   have he : ∃ q, h'.get? a = some q := let ⟨q, _, _, hq, _⟩ := dd'; ⟨q, hq⟩
   exact d_write I (by rw [e]; exact True.intro) hs he (dk_new hl hd (rel.put k rv) dd')
 · subst ey eH
   cases (show u = Value.ref b from ry)
   obtain ⟨z, hd, xs, rel, dd⟩ := dt_of I.hok e
   have hz : xs.length ≤ sizeLine := by rw [← Paired.length rel]; exact z
   have hl : (putK kvs k v).length ≤ sizeLine := by have := length_putK kvs k v; omega
   refine wpAny_setItem_heap (hsz := hz) (tupleKind_room_in1 hu) (key_of I.hok eb) dd fun h' dd' hs => h _ ?_
   obtain ⟨q, es, ep, hq, h2, h3, h4, _, h5⟩ := dd'
   refine d_write I (by rw [e]; exact True.intro) hs ⟨q, hq⟩ ⟨hl, hd, _, (rel.put k eb rv).keeps fun c ys ec => ?_, q, es, ep, hq, h2, h3, h4, h5⟩
   rw [upd_ne (ne_of ec e (fun z => nomatch z))]
   exact ec
end
section
variable {X : Cx} {pins : List (Addr × Obj)} {σ : St} {H : Hp} {s : Shared} {a : Addr} {kvs : List (Key × V)} {k : Key} {u : Value} {A : Around} {E : Value → Shared → Prop}
theorem d_clear {Q : Value → Shared → Prop} (I : Inv X pins σ H s) (e : H a = some (.dK kvs)) (h : ∀ s', Inv X pins σ (upd H a (.dK [])) s' → Q .none s') : wpAny (model X.prog X.w) A (call (.builtin "dict.clear") [.ref a]) Q E s := by
 obtain ⟨z, hd, vs, rel, dd⟩ := dk_of I.hok e
 refine call_meetsIn PySem.F.slot_dict_clear dd.typeIs PySem.F.entry_dict_clear (PySem.F.args_dict_clear_1 _) (meets_dict_clear (mixKind X.prog X.w) a) ⟨vs, dd, by rw [← rel.length]; exact z, fun h' dd' hs => h _ ?_⟩
 have he : ∃ q, h'.get? a = some q := let ⟨q, _, _, hq, _⟩ := dd'; ⟨q, hq⟩
 exact d_write (t' := s.toks) I (by rw [e]; exact True.intro) hs he (dk_new (Nat.zero_le _) hd .nil dd')
end
def NoSl (i : Expr) : Prop := ∀ ov iv, subscripted i false ov iv = operate [ov, iv] (getItem ov iv)
theorem subD_of {prog : Program} {w : World} {A : Around} {E : Value → Shared → Prop} {s : Shared} {env : Env} {value slice : Expr} {pos : Pos} {T id : String} {Q : Value → Shared → Prop}
   (hl : typeLookup (.type T) "__getitem__" = pure (some (.builtin id))) (hs : NoSl slice)
   (h : wpAny (model prog w) A (eval value env) (fun o s₁ => wpAny (model prog w) A (eval slice env) (fun i s₂ => s₂.TypeIs o T ∧ wpAny (model prog w) A (getItem o i) Q E s₂) E s₁) E s) :
   wpAny (model prog w) A (eval (.Subscript value slice pos) env) Q E s := by
 refine Subscript_ (wpAny_mono h (fun o s₁ h₁ => wpAny_mono h₁ (fun i s₂ h₂ => ?_) fun _ _ x => x) fun _ _ x => x)
 obtain ⟨hT, h₂⟩ := h₂
 unfold subscriptTail
 refine wpAny_bind ?_
 rw [getitemInPython_of_ne hT.not_modules]
 refine wpAny_bind (wpAny_specialOf hT hl ?_)
 have fin : wpAny (model prog w) A (subscripted slice false o i) (fun r s₃ => wpAny (model prog w) A (letTemporaryGo value o r >>= fun _ => pure r) Q E s₃) E s₂ := by
   rw [hs o i]
   exact wpAny_operating (wpAny_mono h₂ (fun r s₃ h₃ => wpAny_bind (wpAny_letTemporaryGo (wpAny_pure h₃))) fun _ _ x => x)
 first
   | exact wpAny_pure (wpAny_bind fin)
   | exact wpAny_bind (wpAny_pure (wpAny_bind fin))
   | exact wpAny_bind fin
theorem dict_typeIs {X : Cx} {pins : List (Addr × Obj)} {σ : St} {H : Hp} {s : Shared} {a : Addr} {y : V} {o : Option V} (I : Inv X pins σ H s) (g : DGet H a y o) : s.TypeIs (.ref a) "dict" := by
 rcases g with ⟨kvs, k, e, _, _⟩ | ⟨kvs, k, b, e, _, _, _⟩
 · obtain ⟨_, _, vs, _, dd⟩ := dk_rd I.hok e
   exact dd.typeIs
 · obtain ⟨_, _, xs, _, dd⟩ := dt_rd I.hok e
   exact dd.typeIs
def tDGet (td ty : TE) : TE := fun σ H Q => td σ H fun x H1 => ty σ H1 fun y H2 => ∃ a v, x = .ref a ∧ DGet H2 a y (some v) ∧ Q v H2
def sDPut (td ty tv : TE) : TS := fun D σ H => tv σ H fun v H1 => td σ H1 fun x H2 => ty σ H2 fun y H3 => ∃ a H4, x = .ref a ∧ DPut H3 a y v H4 ∧ D.nx σ H4
section
variable {X : Cx} {o i e value : Expr} {pos pos' tpos : Pos} {td ty tv : TE}
theorem pe_dget (hu : X.A.units + 1 < cLine) (ho : PE X o td) (hi : PE X i ty) (hs : NoSl i) : PE X (.Subscript o i pos) (tDGet td ty) := by
 intro pins s σ H Q I h
 refine subD_of PySem.F.slot_dict_getitem.lookup hs (thn (ho pins s σ H _ I h) fun u s1 ⟨x, H1, I1, rx, q1⟩ => thn (hi pins s1 σ H1 _ I1 q1) fun iv s2 ⟨y, H2, I2, ry, a, v, ex, g, q2⟩ => ?_)
 subst ex
 obtain rfl : u = Value.ref a := rx
 exact ⟨dict_typeIs I2 g, d_getItem hu I2 g ry fun w' s3 I3 rw' => ⟨v, H2, I3, rw', q2⟩⟩
theorem ps_dput (hu : X.A.units + 1 < cLine) (ho : PE X o td) (hi : PE X i ty) (hv : PE X value tv) (hs : swapsWith value (some (.Subscript o i pos')) pos.line X.env = pure false) :
   PS X (.Assign [.Subscript o i pos'] value pos) (sDPut td ty tv) := by
 intro pins s σ H D I h
 refine wpAny_Assign_Subscript (thn (hv pins s σ H _ I h) fun r s1 ⟨v, H1, I1, rv, q1⟩ => thn (ho pins s1 σ H1 _ I1 q1) fun u s2 ⟨x, H2, I2, rx, q2⟩ => thn (hi pins s2 σ H2 _ I2 q2) fun iv s3 ⟨y, H3, I3, ry, a, H4, ex, g, q3⟩ => ?_) hs
 subst ex
 obtain rfl : u = Value.ref a := rx
 exact d_setItem hu I3 g ry rv fun s4 I4 => ⟨σ, H4, I4, q3⟩
end
theorem dk_empty {P : Program} {w : World} {H : Hp} (h : Heap) (hb : sysModules < h.objs.size) : ObjOk P w H (h.push { cls := .type "dict", data := .dict #[] }) h.objs.size (.dK []) :=
 ⟨Nat.zero_le _, beq_eq_false_iff_ne.mpr (Ne.symm (Nat.ne_of_lt hb)), [], .nil, Heap.DictOf.new h⟩
def tDNewK : TE := fun _ H Q => ∀ p, H p = none → Q (.ref p) (upd H p (.dK []))
section
variable {X : Cx} {pos : Pos}
theorem pe_dnewK : PE X (.Dict [] [] pos) tDNewK := fun pins s σ H Q I h =>
 wpAny_Dict_empty ⟨.ref s.heap.objs.size, _, I.laid (a := s.heap.objs.size) (o := .dK []) (t' := s.toks) (fun _ _ q => Heap.get?_push_of_some _ q) (Nat.le_refl _) (dk_empty s.heap I.big), rfl, h _ (I.hok.fresh (Nat.le_refl _))⟩
end
structure M1 (X : Cx) (o : Expr) (m : Str) (apos : Pos) (e : Expr) (cpos : Pos) : Prop where
 base : attributeBase o m X.env (eval o X.env) = eval o X.env
 few : ((backTo cpos (starEach [e] X.env)).all (fun x => !x.1) && (backToKw cpos (keywordEach [] X.env)).all (fun x => x.1.isSome)
   && decide (([e] : List Expr).length + ([] : List Keyword).length + (if ([] : List Keyword).isEmpty then 0 else 1) < 30)) = true
 line : (apos.endLine == cpos.line) = true
 trees : backTo cpos (starEach [e] X.env) = [(false, eval e X.env)]
structure M2 (X : Cx) (o : Expr) (m : Str) (apos : Pos) (e f : Expr) (cpos : Pos) : Prop where
 base : attributeBase o m X.env (eval o X.env) = eval o X.env
 few : ((backTo cpos (starEach [e, f] X.env)).all (fun x => !x.1) && (backToKw cpos (keywordEach [] X.env)).all (fun x => x.1.isSome)
   && decide (([e, f] : List Expr).length + ([] : List Keyword).length + (if ([] : List Keyword).isEmpty then 0 else 1) < 30)) = true
 line : (apos.endLine == cpos.line) = true
 trees : backTo cpos (starEach [e, f] X.env) = [(false, eval e X.env), (false, eval f X.env)]
section
variable {X : Cx} {pins : List (Addr × Obj)} {σ : St} {H : Hp} {s : Shared} {a : Addr} {y d : V} {u r : Value} {o : Option V} {A : Around} {E : Value → Shared → Prop}
end
section
variable {X : Cx} {o e f : Expr} {apos cpos : Pos} {td ty tx : TE}
end
section
variable {X : Cx} {pins : List (Addr × Obj)} {σ : St} {H : Hp} {s : Shared} {a : Addr} {kvs : List (Key × V)} {A : Around} {E : Value → Shared → Prop}
end
section
variable {X : Cx} {pins : List (Addr × Obj)} {σ : St} {H : Hp} {s : Shared} {a : Addr} {y : V} {u : Value} {A : Around} {E : Value → Shared → Prop}
end
end L2
namespace L2
open PySem PySem.Spec PyProof.Rows
section
variable {X : Cx}
end
section
variable {κ : Type} [DecidableEq κ]
end
end L2
set_option Elab.async false
set_option linter.all false
set_option maxRecDepth 100000
set_option maxHeartbeats 4000000
namespace Stow
open PySem L2 PyProof.Rows
def CShl (i j : Int) : Prop := 0 ≤ j ∧ j ≤ 1000 ∧ i.natAbs < 2 ^ 220
section
variable {X : Cx}
theorem op_shlB : OpR X (binaryOp .LShift) (rI CShl fun i j => .int (i * 2 ^ j.toNat)) := opI fun i j _ _ _ _ _ hc q =>
 lshift_int hc.1 (by
   obtain ⟨h0, h1, h2⟩ := hc
   have := PyProof.Rows.intBits_le h2
   omega) q
end
theorem bitOr_one (n : Int) : Builtin.bitOr (n * 2) 1 = n * 2 + 1 := by
 rw [PyProof.Rows.bitOr_and]
 have e : Builtin.bitAnd (n * 2) 1 = (n * 2) % 2 := by rw [bitAnd_m1]
 rw [e]
 omega
end Stow
set_option Elab.async false
set_option linter.all false
set_option maxRecDepth 100000
set_option maxHeartbeats 4000000
namespace Stow
open PySem L2 PyProof.Rows
section
variable {prog : Program} {w : World} {A : Around} {R : Result → Shared → Prop} {s : Shared}
end
section
variable {X : Cx}
end
section
variable {K : PySem.W.Frag} {σ : L2.St} {H : Hp} {Q : VK}
end
end Stow
namespace Stow
open PySem L2 PyProof.Rows
section
variable {prog : Program} {w : World} {A : Around} {R : Result → Shared → Prop} {I : Addr} {fp wr : List Addr} {n : Nat} {P : Nat → Value → Prop} {St : Nat → Heap → Prop}
end
section
variable {prog : Program} {w : World} {A : Around} {E : Value → Shared → Prop} {s : Shared}
end
section
variable {X : Cx}
end
end Stow
namespace Stow
open PySem L2 PyProof.Rows
structure InsK (K : PySem.W.Frag) (C : Addr) : Prop where
 cl : Cls K C
 ha : PySem.W.findIn K (.ref C) "__class__" = some (some (.builtin "object.__class__"))
 hn : PySem.W.specialIn K (.builtin "object.__class__") "__get__" = some (some (.builtin "getset_descriptor.__get__"))
 htk : PySem.W.takesIn K (.builtin "object.__class__") = some true
 hm : PySem.W.mroIn K C (.type "object") = some true
section
variable {X : Cx}
end
section
variable {K : PySem.W.Frag} {σ : L2.St} {H : Hp} {Q : VK} {D : Ends}
theorem r_sat {a C dx : Addr} {fs : List (Str × V)} {f : Str} {R : Addr → Addr → Addr → List (Str × V) → Prop} (h : H a = some (.ins C dx fs)) (c : Cls K C) (n : NoAttr K C f) (l : fs.length < 1000) (q : R a C dx fs) :
   ∃ a' C' dx' fs', V.ref a = V.ref a' ∧ H a' = some (.ins C' dx' fs') ∧ Cls K C' ∧ NoAttr K C' f ∧ fs'.length < 1000 ∧ R a' C' dx' fs' := ⟨a, C, dx, fs, rfl, h, c, n, l, q⟩
theorem r_mat {a C dx : Addr} {fs : List (Str × V)} {m : Str} {P : Prop} (h : H a = some (.ins C dx fs)) (l : fs.lookup m = none) (q : P) :
   ∃ a' dx' fs', V.ref a = V.ref a' ∧ H a' = some (.ins C dx' fs') ∧ fs'.lookup m = none ∧ P := ⟨a, dx, fs, rfl, h, l, q⟩
theorem r_make {C : Addr} {sp : Sp} {E : XK} {t : TA} (h : t σ H fun vs H1 => ∀ x dx, H1 x = none → H1 dx = none → dx ≠ x → sp (.ref x :: vs) (upd (upd H1 dx (.own x)) x (.ins C dx [])) (fun v H2 => v = .non ∧ Q (.ref x) H2) E) : tMake C sp [] E t σ H Q := by
 unfold tMake
 simp only [List.append_nil]
 exact h
end
section
variable {X : Cx}
theorem op_eqLP (hu : X.A.units + 64 < cLine) : OpR X (compareOp .Eq) (fun x y H Q => ∃ a b us ws ps, x = .ref a ∧ y = .ref b ∧ H a = some (.lst us) ∧ H b = some (.lst ws) ∧ PcsAt H us ps ∧ PcsAt H ws ps ∧ Q (.bl true) H) := by
 intro pins s σ H x y v u Q I rx ry h
 obtain ⟨a, b, us, ws, ps, rfl, rfl, ha, hb, pu, pw, q⟩ := h
 cases rx
 cases ry
 obtain ⟨its, r1, p1, _⟩ := I.list (SqL.of ha)
 obtain ⟨its2, r2, p2, _⟩ := I.list (SqL.of hb)
 have l1 := r1.length
 have l2 := r2.length
 have m1 := pu.1
 have m2 := pw.1
 have key : SeqAt.RcAt X.A s (.ref a) (.ref b) ((List.range its.toArray.size).all (fun _ => true)) := by
   refine SeqAt.RcAt.lists p1.isList p2.isList (by rw [List.size_toArray, List.size_toArray]; omega) (by omega) fun j h1 h2 => ?_
   rw [List.size_toArray] at h1 h2
   have hj : j < ps.length := by omega
   obtain ⟨t1, e1, f1⟩ := pu.2 j ps[j] (by simp [hj])
   obtain ⟨t2, e2, f2⟩ := pw.2 j ps[j] (by simp [hj])
   obtain ⟨u1, g1, q1⟩ := r1.get e1
   obtain ⟨u2, g2, q2⟩ := r2.get e2
   cases q1
   cases q2
   obtain ⟨_, k1⟩ := List.getElem?_eq_some_iff.mp g1
   obtain ⟨_, k2⟩ := List.getElem?_eq_some_iff.mp g2
   have z := eq_tup_same (A := X.A.in1) (by show X.A.units + 1 < cLine; omega) I (SqT.of f1) (SqT.of f2) rfl
   rw [← k1, ← k2] at z
   simpa using z
 have e : ((List.range its.toArray.size).all (fun _ => true)) = true := by simp
 rw [e] at key
 exact key _ _ _ _ ⟨.bl true, H, I, rfl, q⟩
end
def KeepX (x : Addr) (H H' : Hp) : Prop := ∀ b o, b ≠ x → H b = some o → H' b = some o
theorem KeepX.refl {x : Addr} {H : Hp} : KeepX x H H := fun _ _ _ h => h
theorem KeepX.of {x : Addr} {H H' : Hp} (s : Same H H') : KeepX x H H' := fun b o _ h => s b o h
theorem KeepX.trans {x : Addr} {H H' H'' : Hp} (s : KeepX x H H') (t : KeepX x H' H'') : KeepX x H H'' := fun b o n h => t b o n (s b o n h)
theorem KeepX.put {x : Addr} {H H' : Hp} {o : HO} (s : KeepX x H H') : KeepX x H (upd H' x o) := fun b o' n h => look_ne n (s b o' n h)
end Stow
set_option Elab.async false
set_option linter.all false
set_option maxRecDepth 100000
set_option maxHeartbeats 4000000
namespace Stow
end Stow
namespace Stow
open PySem L2 PyProof.Rows
structure MethD (P : Program) (w : World) (K : PySem.W.Frag) (mg : Str → Option Value) (base : Heap) (C : Addr) (m : Str) (j : Nat) (ps : List Str) (dvs : List V) (sp : Sp) : Prop where
 all : Methx P w K mg base C m j ps [] sp
 less : Methx P w K mg base C m j ps dvs sp
theorem MethD.made {P : Program} {w : World} {K : PySem.W.Frag} {mg : Str → Option Value} {base : Heap} {C : Addr} {m : Str} {j : Nat} {ps : List Str} {dvs : List V} {sp : Sp} {f : Addr} {fd : FuncData} {ds : List Value}
   (F : FnOk P w K mg base (CXe P w) j f fd ps sp) (M : Meth K C m f) (b : Binds K fd ps []) (b' : Binds K fd ps ds) (v : Vals dvs ds) (c : Cls K C) : MethD P w K mg base C m j ps dvs sp :=
 ⟨⟨⟨f, fd, [], F, M, b, .nil⟩, c⟩, ⟨⟨f, fd, ds, F, M, b', v⟩, c⟩⟩
theorem FunD.bindsA {K : PySem.W.Frag} {x qual : Str} {st : Stmt} {T : Addr} {f : Addr} {fd : FuncData} {ps : List Str} {ds : List Value} {tc : Value} {td : Option Addr} {tn : Nat} {tsl : Array (Option Value)} (F : FunD K x qual st (.ref T) f fd)
   (lt : K.lookup T = some ⟨tc, td, .seq ds.toArray tn, tsl⟩)
   (h : ∀ (kV doc pm : Value) (an : Option Addr) (cdv ct : Value) (us : List Value), us.length = ps.length → ∃ k : Option (Array Value) → Sem (List (Str × Value)),
     bindArgs (PySem.W.fnOf x qual (defArgs st) (defBody st) (defScope st) (.ref T) kV doc pm an cdv ct) ⟨us, []⟩ = seqItems? (.ref T) >>= k ∧ k (some ds.toArray) = pure (ps.zip us)) : Binds K fd ps [] := by
 obtain ⟨oc, od, kV, doc, pm, an, cdv, ct, osl, rfl, lk, hcd⟩ := F.ex
 intro s us X hl
 rw [List.append_nil] at hl ⊢
 obtain ⟨k, h1, h2⟩ := h kV doc pm an cdv ct us hl
 exact .of_defaults rfl (X _ _ lt) rfl h1 h2
abbrev TXS := Ends → XK → L2.St → Hp → Prop
def PXS (X : Cx) (ss : List Stmt) (t : TXS) : Prop := ∀ (pins : List (Addr × Obj)) (s : Shared) (σ : L2.St) (H : Hp) (D : Ends) (EX : XK) (Qp : Flow → Shared → Prop) (W : Value → Shared → Prop), Inv X pins σ H s → t D EX σ H → (∀ f s', SP X pins D f s' → Qp f s') →
 (∀ H1 s1 y s', Inv X pins σ H1 s1 → CXe X.prog X.w X.stack H1 s1 EX y s' → W y s') → wpAny (model X.prog X.w) X.A (execs ss X.env) Qp W s
def xSet (i : Nat) (t : TX) : TXS := fun D EX σ H => t σ H (fun v H2 => D.nx (σ.set i (some v)) H2) EX
def xIf (c : TT) (t u : TXS) : TXS := fun D EX σ H => c σ H fun b H1 => if b = true then t D EX σ H1 else u D EX σ H1
def tTryS (t : TXS) (th : TH) : TS := fun D σ H => t D (fun c od H2 => ∃ C, c = .ref C ∧ ∀ x, H2 x = none → th x C D σ (upd H2 x (ExcO x C od))) σ H
section
variable {X : Cx} {e c : Expr} {t : TX} {tc : TT} {ta tb ts : TXS} {a b ss : List Stmt} {pos epos : Pos} {hs : List ExceptHandler} {th : TH}
theorem pxs_set {i : Nat} {y : Str} {py : Pos} (hN : X.N.Nodup) (hi : X.N[i]? = some y) (hy : Loc X.env.scope y) (he : PX X e t) (hsw : swapsWith e (some (.Name y py)) epos.line X.env = pure false := by rfl)
   (hf : X.fn y = true ∨ X.env.scope.names.lookup y = some .local := by first | exact .inl rfl | exact .inr rfl | assumption) : PXS X [.Assign [.Name y py] e epos] (xSet i t) := by
 intro pins s σ H D EX Qp W I h hv hx
 exact wpAny_execs_cons (wpAny_Assign_Name (he pins s σ H _ _ _ _ I h (fun u s' ⟨v, H2, I2, r2, q2⟩ => store_ok I2 hN hi hy r2 (fun s3 I3 => wpAny_execs_nil (hv .next s3 ⟨_, H2, I3, q2⟩)) hf) hx) hsw)
theorem pxs_if (hc : PT X.nox c tc) (ha : PXS X a ta) (hb : PXS X b tb) : PXS X [.If c a b pos] (xIf tc ta tb) := by
 intro pins s σ H D EX Qp W I h hv hx
 refine wpAny_execs_cons (wpAny_If (wpAny_mono (hc pins s σ H _ (I.wish _) h) (fun d s1 ⟨H1, I1', q1⟩ => ?_) (fun _ _ z => z.elim)))
 have I1 := I1'.unwish
 have hv' : ∀ f s', SP X pins D f s' → (match f with | .next => wpAny (model X.prog X.w) X.A (execs [] X.env) Qp W s' | f => Qp f s') := fun f s' z => by
   cases f with
   | next => exact wpAny_execs_nil (hv .next s' z)
   | brk => exact hv .brk s' z
   | cont => exact hv .cont s' z
   | ret u => exact hv (.ret u) s' z
 cases d with
 | true => exact ha pins s1 σ H1 D EX _ W I1 q1 hv' hx
 | false => exact hb pins s1 σ H1 D EX _ W I1 q1 hv' hx
theorem ps_tryS {h₀ : ExceptHandler} (he : PXS X ss ts) (hst : X.stack = X.env :: X.outer ∧ X.env.frame = some X.env.locals) (hh : PH X (h₀ :: hs) th) : PS X (.Try ss (h₀ :: hs) [] [] pos) (tTryS ts th) := by
 intro pins s σ H D I h
 refine wpAny_Try_except (he pins s σ H D _ _ _ I h (fun f s' z => ?_) (fun H1 s1 y s' I1 hq => ?_))
 · cases f with
   | next => exact wpAny_execs_nil z
   | brk => exact z
   | cont => exact z
   | ret u => exact z
 · refine held_x I1 hst hq fun x C od T h2 H2 ex ⟨C', ec, q⟩ t2 J2 again => ?_
   subst ex
   cases ec
   exact hh pins _ σ _ D x C T od I.ok J2 t2 (fun h3 u3 t3 => (again h3 u3 t3).2) (q x (again h2 (Upto.refl _ _ _) t2).1)
end
section
variable {K : PySem.W.Frag} {σ : L2.St} {H : Hp} {Q : VK} {D : Ends} {EX : XK}
theorem r_tryS {t : TXS} {th : TH} (h : t D (fun c od H2 => ∃ C, c = .ref C ∧ ∀ x, H2 x = none → th x C D σ (upd H2 x (ExcO x C od))) σ H) : tTryS t th D σ H := h
theorem r_xSet {i : Nat} {t : TX} (h : t σ H (fun v H2 => D.nx (σ.set i (some v)) H2) EX) : xSet i t D EX σ H := h
theorem r_xIf {c : TT} {t u : TXS} (h : c σ H fun b H1 => if b = true then t D EX σ H1 else u D EX σ H1) : xIf c t u D EX σ H := h
theorem r_xMethD {C : Addr} {m : Str} {sp : Sp} {ta : TE} {t : TA} {dvs : List V} (h : ta σ H fun x H1 => ∃ a dx fs, x = .ref a ∧ H1 a = some (.ins C dx fs) ∧ fs.lookup m = none ∧ t σ H1 fun vs H2 => sp (x :: (vs ++ dvs)) H2 Q EX) : xMeth C m sp dvs ta t σ H Q EX := h
end
end Stow
set_option Elab.async false
set_option linter.all false
set_option maxRecDepth 100000
set_option maxHeartbeats 4000000
namespace Stow
theorem Marks.app {cs ds : List Int} {ps qs : List Pc} (h0 : EndBy ps cs.length) (m : Marks cs ps) (h1 : FromOn qs 0) (k : Marks ds qs) :
   Marks (cs ++ ds) (ps ++ qs.map fun q => ⟨q.a + cs.length, q.l, q.v⟩) := by
 intro p hp
 rcases List.mem_append.mp hp with h | h
 · obtain ⟨a0, a1, a2⟩ := h0 p h
   obtain ⟨m1, m2⟩ := m p h
   exact ⟨by rw [List.getElem?_append_left (by omega)]; exact m1, by rw [List.getElem?_append_left (by omega)]; exact m2⟩
 · obtain ⟨q, hq, rfl⟩ := List.mem_map.mp h
   obtain ⟨b0, b1⟩ := h1 q hq
   obtain ⟨m1, m2⟩ := k q hq
   constructor
   · show (cs ++ ds)[(q.a + cs.length).toNat]? = some (mkOf q.l q.v)
     rw [List.getElem?_append_right (by omega), show (q.a + cs.length).toNat - cs.length = q.a.toNat by omega]
     exact m1
   · show (cs ++ ds)[(q.a + cs.length + q.l - 1).toNat]? = some (mkOf q.l q.v)
     rw [List.getElem?_append_right (by omega), show (q.a + cs.length + q.l - 1).toNat - cs.length = (q.a + q.l - 1).toNat by omega]
     exact m2
end Stow
namespace Stow
open PySem L2 PyProof.Rows
section
variable {X : Cx}
end
section
variable {X : Cx} {tg : Expr}
end
end Stow
set_option Elab.async false
set_option linter.all false
set_option maxRecDepth 100000
set_option maxHeartbeats 4000000
namespace Stow
open PySem L2 PyProof.Rows
def sumI (ns : List Int) : Int := ns.foldl (· + ·) 0
theorem preSum_take (ns : List Int) : ∀ n, n ≤ ns.length → preSum (fun i => ns.getD i 0) n = sumI (ns.take n)
 | 0, _ => rfl
 | n + 1, h => by
   have ih := preSum_take ns n (by omega)
   have e : ns.take (n + 1) = ns.take n ++ [ns[n]] := by rw [List.take_add_one, List.getElem?_eq_getElem (by omega)]; rfl
   have ex : ns.getD n 0 = ns[n] := by simp [show n < ns.length by omega]
   show preSum (fun i => ns.getD i 0) n + ns.getD n 0 = _
   rw [ih, e, ex]
   unfold sumI
   rw [List.foldl_append]
   rfl
theorem call_sumL {X : Cx} (hc : X.calm = true) : CallR X (.builtin "sum") (fun vs H Q => ∃ p ns, vs = [.ref p] ∧ H p = some (.lst (ns.map V.int)) ∧ Q (.int (sumI ns)) H) := by
 intro pins s σ H vs us' Q I r h
 obtain ⟨p, ns, rfl, hp, q⟩ := h
 obtain ⟨u, rfl, rx⟩ : ∃ u, us' = [u] ∧ RelV (.ref p) u := by
   cases r with
   | cons a b => cases b; exact ⟨_, rfl, a⟩
 cases rx
 obtain ⟨its, r1, p1, _⟩ := I.list (SqL.of hp)
 have l1 := r1.length
 rw [List.length_map] at l1
 have ii := intsAre_of r1
 have lt : p < s.heap.objs.size := by obtain ⟨_, e, _⟩ := p1.isList; exact Heap.lt_size e
 refine call_sum_walkG (wpAny_pyIter_list p1.isList ?_)
 refine ⟨s.heap.objs.size, [s.heap.objs.size, p], [s.heap.objs.size], its.toArray.size, fun i v => its.toArray[i]? = some v, _, fun i => ns.getD i 0, rfl, Walks.list (A := X.A.in1) (I.ok.hd hc) _ p (Nat.ne_of_lt lt) its.toArray,
   ⟨⟨_, Heap.get?_push_size _ rfl, rfl, rfl⟩, p1.isList.push _⟩, ?_, ?_, ?_⟩
 · intro b hb
   show b < (s.heap.push _).objs.size
   rw [Heap.size_push]
   rcases List.mem_cons.mp hb with z | z
   · rw [z]; exact Nat.lt_succ_self _
   · have : b = p := by simpa using z
     rw [this]; exact Nat.lt_succ_of_lt lt
 · intro i v hv
   rw [List.getElem?_toArray] at hv
   have hi : i < ns.length := by have := (List.getElem?_eq_some_iff.mp hv).1; omega
   obtain ⟨u1, e1, q1⟩ := r1.get (i := i) (x := V.int (ns[i])) (by simp [hi])
   have ev : v = u1 := Option.some.inj (hv.symm.trans e1)
   subst ev
   have ex : ns.getD i 0 = ns[i] := by simp [hi]
   show ∃ t, v = Value.int (ns.getD i 0) t
   rw [ex]
   obtain ⟨tk, e2⟩ := q1
   exact ⟨tk, e2⟩
 · intro h' tk t' kk
   refine ⟨.int _, H, ?_, ⟨t', rfl⟩, ?_⟩
   · refine I.kept (t' := tk) fun b o e => kk b o (fun z => ?_) (Heap.get?_push_of_some _ e)
     have := Heap.lt_size e
     have z' : b = s.heap.objs.size := by simpa using z
     rw [z'] at this
     exact Nat.lt_irrefl _ this
   · rw [List.size_toArray, ← l1, preSum_take ns ns.length (Nat.le_refl _), List.take_of_length_le (Nat.le_refl _)]
     exact q
section
variable {prog : Program} {w : World} {A : Around} {R : Result → Shared → Prop} {I : Addr} {fp wr : List Addr} {n : Nat} {P : Nat → Value → Prop} {St : Nat → Heap → Prop} {kw : List (Str × Value)}
end
section
variable {prog : Program} {w : World} {A : Around} {E : Value → Shared → Prop} {s : Shared}
end
section
variable {X : Cx}
end
end Stow
namespace Stow
open PySem L2 PyProof.Rows
section
variable {K : PySem.W.Frag} {σ : L2.St} {H : Hp} {Q : VK}
end
def planV (H : Hp) (v : V) (o : Option (List Int)) : Prop := match o with
 | none => v = .non
 | some x => ∃ t, v = .ref t ∧ H t = some (.tup (x.map V.int))
theorem planV.same {H H' : Hp} {v : V} {o : Option (List Int)} (h : planV H v o) (s : Same H H') : planV H' v o := by
 cases o with
 | none => exact h
 | some x => obtain ⟨t, e1, e2⟩ := h; exact ⟨t, e1, s t _ e2⟩
theorem planV.mono {H H' : Hp} {v : V} {o : Option (List Int)} (h : planV H v o) (k : ∀ b xs, H b = some (.tup xs) → H' b = some (.tup xs)) : planV H' v o := by
 cases o with
 | none => exact h
 | some x => obtain ⟨t, e1, e2⟩ := h; exact ⟨t, e1, k t _ e2⟩
end Stow
namespace Stow
open PySem L2 PyProof.Rows
theorem KeepX.new {x t : Addr} {H H' : Hp} {o : HO} (s : KeepX x H H') (ht : H' t = none) : KeepX x H (upd H' t o) := fun b o' n h => look_put ht (s b o' n h)
theorem KeepX.tups {x : Addr} {H H' : Hp} {l us : List V} {xs : List (List V)} (s : KeepX x H H') (hx : H x = some (.lst l)) (h : TupsAt H us xs) : TupsAt H' us xs := h.mono fun b ys e => s b _ (fun z => by rw [z, hx] at e; cases e) e
end Stow
set_option Elab.async false
set_option linter.all false
set_option maxRecDepth 100000
set_option maxHeartbeats 4000000
namespace Stow
open PySem L2 PyProof.Rows
end Stow
namespace Stow
open PySem L2 PyProof.Rows
theorem NoAdj.app {X Y : List Pc} (hX : NoAdj X) (hY : NoAdj Y) (hj : ∀ x y, X.getLast? = some x → Y[0]? = some y → x.v = true ∨ y.v = true) : NoAdj (X ++ Y) := fun j y z h1 h2 => by
 by_cases e1 : j + 1 < X.length
 · rw [List.getElem?_append_left (by omega)] at h1
   rw [List.getElem?_append_left e1] at h2
   exact hX j y z h1 h2
 · by_cases e2 : j + 1 = X.length
   · rw [List.getElem?_append_left (by omega)] at h1
     rw [List.getElem?_append_right (by omega), show j + 1 - X.length = 0 by omega] at h2
     refine hj y z ?_ h2
     rw [List.getLast?_eq_getElem?, show X.length - 1 = j by omega]
     exact h1
   · rw [List.getElem?_append_right (by omega)] at h1 h2
     rw [show j + 1 - X.length = (j - X.length) + 1 by omega] at h2
     exact hY _ y z h1 h2
theorem NoAdj.left {X Y : List Pc} (h : NoAdj (X ++ Y)) : NoAdj X := fun j y z h1 h2 => by
 have l1 := (List.getElem?_eq_some_iff.mp h1).1
 have l2 := (List.getElem?_eq_some_iff.mp h2).1
 exact h j y z (by rw [List.getElem?_append_left l1]; exact h1) (by rw [List.getElem?_append_left l2]; exact h2)
end Stow
set_option Elab.async false
set_option linter.all false
set_option maxRecDepth 100000
set_option maxHeartbeats 4000000
namespace Stow
open PySem L2 PyProof.Rows
theorem chain_meet {ps : List Pc} {s e p : Int} {y z : Pc} (c : Chain s ps e) (hy : y ∈ ps) (hz : z ∈ ps) (h1 : y.a ≤ p) (h2 : p < y.a + y.l) (h3 : z.a ≤ p) (h4 : p < z.a + z.l) : y = z := by
 obtain ⟨i, hi⟩ := List.getElem?_of_mem hy
 obtain ⟨j, hj⟩ := List.getElem?_of_mem hz
 rcases Nat.lt_trichotomy i j with g | g | g
 · exfalso
   obtain ⟨ds, rs, e1, e2, c1, c2⟩ := chain_split c hj
   subst e1 e2
   rw [List.getElem?_append_left (by omega)] at hi
   have := (c1.mem y (List.mem_of_getElem? hi)).2.2.2
   omega
 · subst g
   exact Option.some.inj (hi.symm.trans hj)
 · exfalso
   obtain ⟨ds, rs, e1, e2, c1, c2⟩ := chain_split c hi
   subst e1 e2
   rw [List.getElem?_append_left (by omega)] at hj
   have := (c1.mem z (List.mem_of_getElem? hj)).2.2.2
   omega
theorem sIx_at {n d : Nat} {k : Int} (h0 : 0 ≤ k) (h : k ≤ n) : HT.sIx n d (some k) = k.toNat := by
 have := HT.sIx_nat n d k.toNat
 rw [Int.toNat_of_nonneg h0] at this
 rw [this]
 omega
theorem cutI_to {ns : List Int} {k : Int} (h0 : 0 ≤ k) (h : k ≤ ns.length) : cutI ns none (some k) = ns.take k.toNat := by
 unfold cutI
 rw [sIx_at h0 h, HT.sIx_none]
 rfl
def xExp (t : TX) : TXS := fun D EX σ H => t σ H (fun _ H2 => D.nx σ H2) EX
section
variable {X : Cx} {e : Expr} {t : TX} {epos : Pos}
theorem pxs_exp (he : PX X e t) (hsw : swapsWith e none epos.line X.env = pure false := by rfl) : PXS X [.Expr e epos] (xExp t) := by
 intro pins s σ H D EX Qp W I h hv hx
 exact wpAny_execs_cons (wpAny_Expr_any (he pins s σ H _ _ _ _ I h (fun u s' ⟨v, H2, I2, _, q2⟩ => wpAny_execs_nil (hv .next s' ⟨σ, H2, I2, q2⟩)) hx) I.quiet hsw)
end
theorem r_xExp {σ : L2.St} {H : Hp} {D : Ends} {EX : XK} {t : TX} (h : t σ H (fun _ H2 => D.nx σ H2) EX) : xExp t D EX σ H := h
end Stow
set_option Elab.async false
set_option linter.all false
set_option maxRecDepth 100000
set_option maxHeartbeats 4000000
namespace Stow
open PySem L2 PyProof.Rows
theorem units1 {n m : Nat} (h : n + 64 < m) : n + 1 < m := by omega
theorem dget_f {H : Hp} {a : Addr} {o : Obj} {kvs : List (Key × V)} {k : Key} (e : H a = some (.frz o (.dK kvs))) : DGet H a (kV k) (valV kvs k) := .inl ⟨kvs, k, .inr ⟨o, e⟩, rfl, rfl⟩
def Itd (d : Addr) (o : Obj) (kvs : List (Key × V)) : It :=
 ⟨fun i H => H d = some (.frz o (.dK kvs)) ∧ ∃ k v, kvs[i]? = some (k, v), fun i H x H' => H' = H ∧ ∃ k v, kvs[i]? = some (k, v) ∧ x = kV k, fun i H => H d = some (.frz o (.dK kvs)) ∧ kvs.length ≤ i⟩
theorem frz_at {P : Program} {w : World} {H : Hp} {h : Heap} {d : Addr} {o : Obj} {kvs : List (Key × V)} {es : Array DictEntry} {ep : Nat} (ok : HOk P w H h) (e : H d = some (.frz o (.dK kvs))) (ho : o.data = .dict es ep) :
   ∃ vs, KV kvs vs ∧ h.DictAt (mixKind P w) d vs ep := by
 obtain ⟨h1, _, _, vs, r, o', es', ep', g1, g2, g3, g4⟩ := (show ObjOk P w H h d (.frz o (.dK kvs)) from ok d _ e)
 rw [h1] at g1
 cases g1
 rw [ho] at g3
 cases g3
 exact ⟨vs, r, o, es, h1, g2, ho, g4⟩
theorem paired_get {α β : Type} {F : α → β → Prop} : ∀ {xs : List α} {us : List β} {i : Nat} {x : α}, Paired F xs us → xs[i]? = some x → ∃ u, us[i]? = some u ∧ F x u
 | _, _, _, _, .nil, e => by simp at e
 | _, _, 0, _, .cons r _, e => by simp at e; subst e; exact ⟨_, rfl, r⟩
 | _, _, i + 1, x, .cons _ t, e => by
   obtain ⟨u, h1, h2⟩ := paired_get (i := i) (x := x) t (by simpa using e)
   exact ⟨u, by simpa using h1, h2⟩
theorem kv_get {kvs : List (Key × V)} {vs : List (Key × Value)} (r : KV kvs vs) {i : Nat} {k : Key} {v : V} (e : kvs[i]? = some (k, v)) : ∃ u, vs[i]? = some (k, u) := by
 obtain ⟨⟨k', u⟩, hq, h1, _⟩ := paired_get (show Paired _ kvs vs from r) e
 have h1 : k = k' := h1
 subst h1
 exact ⟨u, hq⟩
theorem rel_key {P : Program} {w : World} {k : Key} {u : Value} (h : (mixKind P w).is k u = true) : RelV (kV k) u := by
 rcases keyIs_shape (show keyIs k u = true from h) with ⟨i, t, rfl, rfl⟩ | ⟨x, t, rfl, rfl⟩
 · exact ⟨t, rfl⟩
 · exact ⟨t, rfl⟩
theorem turn_dict {P : Program} {w : World} {K : PySem.W.Frag} {tg : Expr} (d it : Addr) (o : Obj) (kvs : List (Key × V)) {es : Array DictEntry} {ep : Nat} (ho : o.data = .dict es ep) :
   Turn P w K tg (Itd d o kvs) [it] it (fun i h => h.IsKeyIter it d i kvs.length ep) where
 mem := by simp
 obj := fun i h st b hb => by
   have e : b = it := by simpa using hb
   subst e
   obtain ⟨o, e, c, d⟩ := st
   exact ⟨o, e, fun v z => by rw [d] at z; cases z⟩
 keep := fun i h h' st k => st.at fun o e => k it (by simp) o e
 item := by
   intro X hP hw hK hc i pins s σ H E I hf st hg
   subst hP hw hK
   obtain ⟨hd, k, v, hx⟩ := hg
   obtain ⟨vs, r, m⟩ := frz_at I.hok hd ho
   obtain ⟨u, hu⟩ := kv_get r hx
   have hl := KV.length r
   obtain ⟨f0, f1, f2, f3, f4, f5⟩ := hf it (by simp)
   have st : s.heap.IsKeyIter it d i vs.length ep := hl ▸ st
   refine wpAny_pyNext_dict_item st m hu fun key h' hkey st' sb => ?_
   have I1 : Inv X pins σ H { s with heap := h' } := I.turned (t' := s.toks) (fun b o hb e => (sb.2 b hb).trans e) f0 f1 f3 f4 f5
   have st' : h'.IsKeyIter it d (i + 1) kvs.length ep := hl ▸ st'
   obtain ⟨o2, e2, c2, d2⟩ := id st'
   exact ⟨key, rfl, go_of (s := { s with heap := h' }) e2 c2 d2 (by decide) ⟨kV k, H, I1, rel_key hkey, ⟨rfl, k, v, hx, rfl⟩, st', fun b hb => (hf b hb).1⟩⟩
 done := by
   intro X hP hw hK hc i pins s σ H E I hf st hg
   subst hP hw hK
   obtain ⟨hd, hx⟩ := hg
   obtain ⟨vs, r, m⟩ := frz_at I.hok hd ho
   have hl := KV.length r
   have st : s.heap.IsKeyIter it d i vs.length ep := hl ▸ st
   obtain ⟨f0, f1, f2, f3, f4, f5⟩ := hf it (by simp)
   exact wpAny_pyNext_dict_end (I.ok.hd hc) st m (List.getElem?_eq_none (by omega)) fun h' eb => ⟨rfl, I.turned (t' := s.toks) (fun b o hb e => eb b o hb e) f0 f1 f3 f4 f5⟩
 self := fun _ _ _ _ _ st h => wpAny_pyIter_keyiter st h
section
variable {X : Cx} {pins : List (Addr × Obj)} {σ : L2.St} {H : Hp} {s : Shared} {d : Addr} {kvs : List (Key × V)} {o : Obj}
theorem freeze (I : Inv X pins σ H s) (e : H d = some (.dK kvs)) : ∃ (o : Obj) (es : Array DictEntry) (ep : Nat) (vs : List (Key × Value)), o.data = .dict es ep ∧ (d == sysModules) = false ∧ KV kvs vs ∧ s.heap.DictAt (mixKind X.prog X.w) d vs ep ∧ Inv X pins σ (upd H d (.frz o (.dK kvs))) s := by
 obtain ⟨z, y, vs, r, o, es, ep, g1, g2, g3, g4⟩ := (show ObjOk X.prog X.w H s.heap d (.dK kvs) from I.hok d _ e)
 refine ⟨o, es, ep, vs, g3, y, r, ⟨o, es, g1, g2, g3, g4⟩, ?_⟩
 exact I.write (x := d) (e := d) (h' := s.heap) (t' := s.toks) (by rw [e]; exact trivial) (.inl rfl) (fun _ _ _ q => q) ⟨o, g1⟩ ⟨g1, z, y, vs, r, o, es, ep, g1, g2, g3, g4⟩
theorem thaw (I : Inv X pins σ H s) (nf : ∀ ob u, X.H₀ d ≠ some (.frz ob u)) (e : H d = some (.frz o (.dK kvs))) : Inv X pins σ (upd H d (.dK kvs)) s := by
 have nn : ∀ b, H b = none → b ≠ d := fun b n z => by rw [z, e] at n; cases n
 have nu : ∀ b u, H b = some u → (∀ ob w, u ≠ .frz ob w) → b ≠ d := fun b u q hn z => by
   rw [z, e] at q
   exact hn _ _ (Option.some.inj q).symm
 refine ⟨I.ok, I.os, I.bare, ⟨I.base.keep, I.base.slot, fun b o q n hx => ?_, I.base.there, fun b xs q => ?_, fun b ob u q => ?_, fun b ps q => ?_⟩, I.loc, I.cell, ?_, fun x c q => ?_, fun p hp => ?_, fun b u q => ?_, I.len⟩
 · have := I.base.free b o q n hx
   rw [upd_ne (nn b this)]
   exact this
 · have := I.base.tups b xs q
   rw [upd_ne (nu b _ this fun _ _ z => by cases z)]
   exact this
 · rw [upd_ne (fun z => nf ob u (by rw [← z]; exact q))]
   exact I.base.frzs b ob u q
 · obtain ⟨more, this⟩ := I.base.tbls b ps q
   rw [upd_ne (nu b _ this fun _ _ z => by cases z)]
   exact ⟨more, this⟩
 · rw [upd_ne (nn _ I.free)]
   exact I.free
 · have := I.freeC x c q
   rw [upd_ne (nn c this)]
   exact this
 · obtain ⟨h1, h2, h3⟩ := I.pin p hp
   exact ⟨h1, by rw [upd_ne (nn _ h2)]; exact h2, h3⟩
 · by_cases hb : b = d
   · subst hb
     rw [upd_same] at q
     cases q
     exact (show ObjOk X.prog X.w H s.heap b (.frz o (.dK kvs)) from I.hok b _ e).2
   · rw [upd_ne hb] at q
     refine (I.hok b u q).stay (fun _ _ _ g => g) (fun c g => ?_) fun c xs g => ?_
     · rw [upd_ne (nu c _ g fun _ _ z => by cases z)]
       exact g
     · rw [upd_ne (nu c _ g fun _ _ z => by cases z)]
       exact g
end
section
variable {X : Cx} {tg : Expr}
def iDict (NF : Addr → Prop) (tl : TE) : TI := fun σ H R => tl σ H fun x H1 => ∃ d kvs, x = .ref d ∧ H1 d = some (.dK kvs) ∧ ∀ o, NF d → R (Itd d o kvs) (upd H1 d (.frz o (.dK kvs)))
theorem pi_dict {l : Expr} {tl : TE} (hl : PE X l tl) : PI X tg l (iDict (fun d => ∀ ob u, X.H₀ d ≠ some (.frz ob u)) tl) := by
 intro pins s σ H R I h
 refine thn (hl pins s σ H _ I h) fun v s1 ⟨x, H1, I1, r1, q1⟩ => ?_
 obtain ⟨d, kvs, e, hd, q⟩ := q1
 subst e
 cases r1
 obtain ⟨o, es, ep, vs, g2, y, kvl, m, I2⟩ := freeze I1 hd
 have nf : ∀ ob u, X.H₀ d ≠ some (.frz ob u) := fun ob u z => by
   have := I1.base.frzs d ob u z
   rw [hd] at this
   cases this
 refine wpAny_pyIter_dict y m ?_
 refine ⟨s1.heap.objs.size, [s1.heap.objs.size], _, _, _, rfl, I2.kept (t' := s1.toks) fun b o e => Heap.get?_push_of_some _ e, turn_dict d _ o kvs g2, ?_, fun b hb => ?_, q o nf⟩
 · refine ⟨_, Heap.get?_push_size _ rfl, rfl, ?_⟩
   rw [KV.length kvl]
   rfl
 have e : b = s1.heap.objs.size := by simpa using hb
 subst e
 exact I2.fpOk (Nat.le_refl _) (I2.hok.fresh (Nat.le_refl _))
def tForD (tl : TE) (g : TG) (tb : TS) : TS := fun D σ H => ∀ NF : Addr → Prop, tFor (iDict NF tl) g tb { D with nx := fun σ' H' => ∃ d o kvs, NF d ∧ H' d = some (.frz o (.dK kvs)) ∧ D.nx σ' (upd H' d (.dK kvs)) } σ H
theorem ps_forD {iter : Expr} {body : List Stmt} {tl : TE} {g : TG} {tb : TS} {pos : Pos} (hp : PassesOwn (model X.prog X.w) X.A X.env X.xe) (hc : X.calm = true) (hl : PE X iter tl) (hg : PG X tg g) (hb : PSs X body tb)
   (hs : ∀ x, foldedSetIterable iter X.env x = pure x := by intro _; rfl) : PS X (.For tg iter body [] pos) (tForD tl g tb) := by
 intro pins s σ H D I h
 refine thn (ps_for hp hc (pi_dict hl) hg hb hs pins s σ H _ I (h _)) fun f s' q => ?_
 cases f with
 | next =>
   obtain ⟨σ', H', I', d, o, kvs, nf, e, q⟩ := q
   exact ⟨σ', _, thaw I' nf e, q⟩
 | brk => exact q
 | cont => exact q
 | ret v => exact q
end
section
variable {K : PySem.W.Frag} {σ : L2.St} {H : Hp} {Q : VK} {D : Ends}
theorem r_forD {tl : TE} {g : TG} {tb : TS} (h : ∀ NF : Addr → Prop, tl σ H fun x H1 => ∃ d kvs, x = .ref d ∧ H1 d = some (.dK kvs) ∧ ∀ o, NF d → ∃ W : Nat → Nat → L2.St → Hp → Prop, (∃ m, W 0 m σ (upd H1 d (.frz o (.dK kvs)))) ∧ ∀ i m σ H, W i m σ H →
   ((Itd d o kvs).stop i H ∧ (∃ d o kvs, NF d ∧ H d = some (.frz o (.dK kvs)) ∧ D.nx σ (upd H d (.dK kvs)))) ∨ ((Itd d o kvs).go i H ∧ ∃ N : L2.St → Hp → Prop, (∀ σ' H', N σ' H' → ∃ m', m' < m ∧ W (i + 1) m' σ' H') ∧ ∀ x H', (Itd d o kvs).yld i H x H' → g x σ H' fun σ2 H2 => tb { D with nx := N, ct := N, bk := fun σ' H' => ∃ d o kvs, NF d ∧ H' d = some (.frz o (.dK kvs)) ∧ D.nx σ' (upd H' d (.dK kvs)) } σ2 H2)) : tForD tl g tb D σ H := h
theorem for_dict {d : Addr} {o : Obj} {kvs : List (Key × V)} {NF : Addr → Prop} {g : TG} {tb : TS} (nf : NF d) (Pv : Nat → L2.St → Hp → Prop) (h0 : Pv 0 σ H) (hl : ∀ i σ H, Pv i σ H → H d = some (.frz o (.dK kvs)))
   (hs : ∀ i k v σ H, kvs[i]? = some (k, v) → Pv i σ H → g (kV k) σ H fun σ2 H2 => tb { D with nx := Pv (i + 1), ct := Pv (i + 1), bk := fun σ' H' => ∃ d o kvs, NF d ∧ H' d = some (.frz o (.dK kvs)) ∧ D.nx σ' (upd H' d (.dK kvs)) } σ2 H2)
   (hd : ∀ σ H, Pv kvs.length σ H → D.nx σ (upd H d (.dK kvs))) :
   ∃ W : Nat → Nat → L2.St → Hp → Prop, (∃ m, W 0 m σ H) ∧ ∀ i m σ H, W i m σ H →
   ((Itd d o kvs).stop i H ∧ (∃ d o kvs, NF d ∧ H d = some (.frz o (.dK kvs)) ∧ D.nx σ (upd H d (.dK kvs)))) ∨ ((Itd d o kvs).go i H ∧ ∃ N : L2.St → Hp → Prop, (∀ σ' H', N σ' H' → ∃ m', m' < m ∧ W (i + 1) m' σ' H') ∧ ∀ x H', (Itd d o kvs).yld i H x H' → g x σ H' fun σ2 H2 => tb { D with nx := N, ct := N, bk := fun σ' H' => ∃ d o kvs, NF d ∧ H' d = some (.frz o (.dK kvs)) ∧ D.nx σ' (upd H' d (.dK kvs)) } σ2 H2) := by
 refine ⟨fun i m σ H => m = kvs.length - i ∧ i ≤ kvs.length ∧ Pv i σ H, ⟨kvs.length, by simp, Nat.zero_le _, h0⟩, ?_⟩
 rintro i m σ H ⟨rfl, hi, p⟩
 have q := hl i σ H p
 by_cases hlt : i < kvs.length
 · obtain ⟨k, v, ekv⟩ : ∃ k v, kvs[i]? = some (k, v) := ⟨kvs[i].1, kvs[i].2, by simp [hlt]⟩
   refine .inr ⟨⟨q, k, v, ekv⟩, Pv (i + 1), fun σ' H' p' => ⟨kvs.length - (i + 1), by omega, rfl, hlt, p'⟩, fun x H' y => ?_⟩
   obtain ⟨e, k', v', e', ex⟩ := y
   subst e ex
   exact hs i k' v' σ _ e' p
 · have e : i = kvs.length := by omega
   subst e
   exact .inl ⟨⟨q, Nat.le_refl _⟩, d, o, kvs, nf, q, hd σ H p⟩
theorem r_dget {td ty : TE} (h : td σ H fun x H1 => ty σ H1 fun y H2 => ∃ a v, x = .ref a ∧ DGet H2 a y (some v) ∧ Q v H2) : tDGet td ty σ H Q := h
theorem r_dput {td ty tv : TE} (h : tv σ H fun v H1 => td σ H1 fun x H2 => ty σ H2 fun y H3 => ∃ a H4, x = .ref a ∧ DPut H3 a y v H4 ∧ D.nx σ H4) : sDPut td ty tv D σ H := h
theorem r_dnew (h : ∀ p, H p = none → Q (.ref p) (upd H p (.dK []))) : tDNewK σ H Q := h
theorem r_tyD {p : Addr} {kvs : List (Key × V)} {P : Prop} (h : H p = some (.dK kvs)) (q : P) : tyV K "dict" (.ref p) H ∧ P := ⟨.inr (.inr (.inl ⟨rfl, .inl ⟨_, h⟩⟩)), q⟩
end
def rDClear : V → List V → Hp → VK → Prop := fun x vs H Q => ∃ a kvs, x = .ref a ∧ vs = [] ∧ H a = some (.dK kvs) ∧ Q .non (upd H a (.dK []))
theorem mt_dclear {X : Cx} : MtM X "dict.clear" rDClear := by
 intro pins s σ H x vs v us Q I rx rv h
 obtain ⟨a, kvs, rfl, rfl, hH, q⟩ := h
 cases rx
 have hus := rv.zero
 subst hus
 exact d_clear I hH fun s' I' => ⟨.non, _, I', rfl, q⟩
theorem r_dclear {H : Hp} {Q : VK} {a : Addr} {kvs : List (Key × V)} (h : H a = some (.dK kvs)) (q : Q .non (upd H a (.dK []))) : rDClear (.ref a) [] H Q := ⟨a, kvs, rfl, rfl, h, q⟩
theorem r_clearL {H : Hp} {Q : VK} {l : Addr} {xs : List V} (h : H l = some (.lst xs)) (q : Q .non (upd H l (.lst []))) : rClear (.ref l) [] H Q := ⟨l, xs, rfl, rfl, h, q⟩
theorem mem_putK {kvs : List (Key × V)} {k : Key} {v : V} {p : Key × V} (h : p ∈ putK kvs k v) : p = (k, v) ∨ (p ∈ kvs ∧ p.1 ≠ k) := by
 unfold putK at h
 split at h
 · obtain ⟨q, hq, e⟩ := List.mem_map.mp h
   by_cases hk : q.1 = k
   · rw [if_pos hk] at e
     left
     rw [← e, hk]
   · rw [if_neg hk] at e
     subst e
     exact .inr ⟨hq, hk⟩
 · rename_i hn
   rcases List.mem_append.mp h with g | g
   · refine .inr ⟨g, fun z => hn ?_⟩
     exact List.any_eq_true.mpr ⟨p, g, decide_eq_true z⟩
   · exact .inl (List.mem_singleton.mp g)
end Stow
namespace Stow
def rowL (k : Int) : List Int → List Pc
 | [] => []
 | l :: r => ⟨k, l, true⟩ :: rowL (k + l) r
theorem foldl_addI : ∀ (ls : List Int) (k : Int), ls.foldl (· + ·) k = k + ls.foldl (· + ·) 0
 | [], k => by simp
 | l :: r, k => by
   rw [List.foldl_cons, List.foldl_cons, foldl_addI r (k + l), foldl_addI r (0 + l)]
   omega
theorem sumI_cons (l : Int) (r : List Int) : sumI (l :: r) = l + sumI r := by
 unfold sumI
 rw [List.foldl_cons, foldl_addI]
 omega
theorem sumI_snoc (ls : List Int) (l : Int) : sumI (ls ++ [l]) = sumI ls + l := by
 unfold sumI
 rw [List.foldl_append]
 rfl
theorem rowL_len : ∀ (ls : List Int) (k : Int), (rowL k ls).length = ls.length
 | [], _ => rfl
 | l :: r, k => by rw [rowL, List.length_cons, List.length_cons, rowL_len r]
theorem rowL_snoc : ∀ (ls : List Int) (k l : Int), rowL k (ls ++ [l]) = rowL k ls ++ [⟨k + sumI ls, l, true⟩]
 | [], k, l => by
   show [(⟨k, l, true⟩ : Pc)] = [⟨k + sumI [], l, true⟩]
   rw [show sumI [] = 0 from rfl, Int.add_zero]
 | m :: r, k, l => by
   show (⟨k, m, true⟩ : Pc) :: rowL (k + m) (r ++ [l]) = ⟨k, m, true⟩ :: (rowL (k + m) r ++ [⟨k + sumI (m :: r), l, true⟩])
   rw [rowL_snoc r, sumI_cons, Int.add_assoc]
theorem rowL_chain : ∀ (ls : List Int) (k : Int), (∀ l ∈ ls, 3 ≤ l) → Chain k (rowL k ls) (k + sumI ls)
 | [], k, _ => by
   show k = k + sumI []
   rw [show sumI [] = 0 from rfl, Int.add_zero]
 | m :: r, k, h => by
   have h3 := h m List.mem_cons_self
   refine ⟨rfl, (show 1 ≤ m by omega), fun _ => h3, ?_⟩
   have := rowL_chain r (k + m) fun l hl => h l (List.mem_cons_of_mem _ hl)
   rw [sumI_cons, ← Int.add_assoc]
   exact this
theorem rowL_get : ∀ {ls : List Int} {i : Nat} {l : Int} (k : Int), ls[i]? = some l → (rowL k ls)[i]? = some ⟨k + sumI (ls.take i), l, true⟩
 | [], i, l, k, h => by simp at h
 | m :: r, 0, l, k, h => by
   have : m = l := by simpa using h
   subst this
   show some (⟨k, m, true⟩ : Pc) = some ⟨k + sumI [], m, true⟩
   rw [show sumI [] = 0 from rfl, Int.add_zero]
 | m :: r, i + 1, l, k, h => by
   have h : r[i]? = some l := by simpa using h
   show (rowL (k + m) r)[i]? = _
   rw [rowL_get (k + m) h, List.take_succ_cons, sumI_cons, Int.add_assoc]
theorem take_snocI {ls : List Int} {i : Nat} {l : Int} (h : ls[i]? = some l) : ls.take (i + 1) = ls.take i ++ [l] := by
 rw [List.take_add_one, h]
 rfl
def rwP (ls : List Int) (n : Int) : List Pc := rowL 0 ls ++ fr (sumI ls) n
theorem rowP_chain {ls : List Int} {n : Int} (h3 : ∀ l ∈ ls, 3 ≤ l) (hn : sumI ls ≤ n) : Chain 0 (rwP ls n) n := by
 have := rowL_chain ls 0 h3
 rw [Int.zero_add] at this
 exact this.app (fr_chain hn)
theorem rowP_cut (ls : List Int) (n L : Int) : cutP (rowL 0 ls) [] (sumI ls) (n - sumI ls) (sumI ls) L = rwP (ls ++ [L]) n := by
 unfold cutP rwP
 rw [rowL_snoc, sumI_snoc, Int.zero_add, show fr (sumI ls) (sumI ls) = [] from if_pos rfl, List.append_nil, List.nil_append, List.append_assoc, show sumI ls + (n - sumI ls) = n by omega]
 rfl
theorem rowP_free {ls : List Int} {n : Int} (h : sumI ls < n) : rwP ls n = rowL 0 ls ++ [⟨sumI ls, n - sumI ls, false⟩] := by
 unfold rwP fr
 rw [if_neg (by omega)]
theorem rowP_full {ls : List Int} {n : Int} (h : sumI ls = n) : rwP ls n = rowL 0 ls := by
 unfold rwP fr
 rw [if_pos h, List.append_nil]
theorem row_marks {cs ls : List Int} {n L : Int} (h3 : ∀ l ∈ ls, 3 ≤ l) (hl : (cs.length : Int) = n) (h0 : 0 ≤ sumI ls) (hL : 1 ≤ L) (hn : sumI ls + L ≤ n) (m : Marks cs (rwP ls n)) :
   Marks (cutO cs (sumI ls) (n - sumI ls) (sumI ls) L) (rwP (ls ++ [L]) n) := by
 rw [rowP_free (by omega)] at m
 have c := rowL_chain ls 0 h3
 rw [Int.zero_add] at c
 have := cutP_marks (z := ⟨sumI ls, n - sumI ls, false⟩) (s := sumI ls) (L := L) (rs := []) h0 hL (Int.le_refl _) (show sumI ls + L ≤ sumI ls + (n - sumI ls) by omega) (show sumI ls + (n - sumI ls) ≤ (cs.length : Int) by omega) (c.endBy (Int.le_refl 0)) (fun p hp => by cases hp) m
 have e := rowP_cut ls n L
 rw [← e]
 exact this
theorem sumI_nonneg {ls : List Int} (h3 : ∀ l ∈ ls, 3 ≤ l) : 0 ≤ sumI ls := by
 have := (rowL_chain ls 0 h3).le
 omega
theorem sumI_take {ls : List Int} {i : Nat} {l : Int} (h3 : ∀ l ∈ ls, 3 ≤ l) (h : ls[i]? = some l) : 0 ≤ sumI (ls.take i) ∧ sumI (ls.take i) + l ≤ sumI ls := by
 have c := rowL_chain ls 0 h3
 have hm := c.mem _ (List.mem_of_getElem? (rowL_get 0 h))
 have h1 : 0 ≤ 0 + sumI (ls.take i) := hm.1
 have h2 : 0 + sumI (ls.take i) + l ≤ 0 + sumI ls := hm.2.2.2
 omega
theorem rowP_mem {ls : List Int} {i : Nat} {l n : Int} (h : ls[i]? = some l) : (⟨sumI (ls.take i), l, true⟩ : Pc) ∈ rwP ls n := by
 have := List.mem_of_getElem? (rowL_get 0 h)
 rw [Int.zero_add] at this
 exact List.mem_append_left _ this
end Stow
namespace Stow
open PySem L2 PyProof.Rows
theorem nil_or_snocI (l : List Int) : l = [] ∨ ∃ D y, l = D ++ [y] := by
 rcases List.eq_nil_or_concat l with h | ⟨D, y, h⟩
 · exact .inl h
 · exact .inr ⟨D, y, by simpa using h⟩
def KnW (kvs : List (Key × V)) (cs : List Int) (s : Int) : Prop := ∀ p ∈ kvs, ∃ (i : Nat) (m : Int), p = (Sum.inl (i : Int), V.int m) ∧ cs[i]? = some m ∧ (i : Int) < s
theorem KnW.val {kvs : List (Key × V)} {cs : List Int} {s : Int} (h : KnW kvs cs s) {i : Nat} {k : Key} {v : V} (e : kvs[i]? = some (k, v)) : ∃ (j : Nat) (m : Int), k = Sum.inl (j : Int) ∧ cs[j]? = some m ∧ valV kvs k = some (.int m) := by
 obtain ⟨j, m, e1, e2, _⟩ := h _ (List.mem_of_getElem? e)
 cases e1
 refine ⟨j, m, rfl, e2, ?_⟩
 unfold valV
 cases hf : kvs.find? fun kv => decide (kv.1 = Sum.inl (j : Int)) with
 | none =>
   have := List.find?_eq_none.mp hf _ (List.mem_of_getElem? e)
   simp at this
 | some p =>
   have hp := List.find?_some hf
   have hm := List.mem_of_find?_eq_some hf
   obtain ⟨j', m', e3, e4, _⟩ := h p hm
   subst e3
   have hp : (Sum.inl (j' : Int) : Key) = Sum.inl (j : Int) := of_decide_eq_true hp
   have hj := Int.ofNat.inj (Sum.inl.inj hp)
   subst hj
   rw [e2] at e4
   cases e4
   rfl
theorem KnW.put {kvs : List (Key × V)} {cs : List Int} {s : Int} (h : KnW kvs cs s) {j : Nat} {m : Int} (hj : (j : Int) < s) (hl : j < cs.length) : KnW (putK kvs (Sum.inl (j : Int)) (.int m)) (cs.set j m) s := fun p hp => by
 rcases mem_putK hp with e | ⟨hm, hk⟩
 · exact ⟨j, m, e, by rw [List.getElem?_set_self hl], hj⟩
 · obtain ⟨i, m', e, hi, hs⟩ := h p hm
   subst e
   refine ⟨i, m', rfl, ?_, hs⟩
   rw [List.getElem?_set_ne (fun z => hk (by rw [z]))]
   exact hi
theorem KnW.keep {kvs : List (Key × V)} {cs cs' : List Int} {s s' : Int} (h : KnW kvs cs s) (hs : s ≤ s') (out : ∀ i : Nat, (i : Int) < s → cs'[i]? = cs[i]?) : KnW kvs cs' s' := fun p hp => by
 obtain ⟨i, m, e, hi, hl⟩ := h p hp
 exact ⟨i, m, e, by rw [out i hl]; exact hi, by omega⟩
theorem KnW.nil (cs : List Int) (s : Int) : KnW [] cs s := fun p hp => by cases hp
end Stow
local macro_rules
 | `(tactic| walk_at "set") => `(tactic| first
   | exact Stow.set0_c
   | exact Stow.set0_1
   | exact Stow.set0_0
   | ((refine Stow.setS_c (r := ?r) ?h); (case h => walk_at "set"))
   | ((refine Stow.setS_1 (r := ?r) ?h); (case h => walk_at "set"))
   | ((refine Stow.setS_0 (r := ?r) ?h); (case h => walk_at "set")))
local macro_rules
 | `(tactic| walk_at "look") => `(tactic| first
   | with_reducible assumption
   | exact L2.upd_same
   | ((with_reducible refine Stow.look_ne ?a ?b); (case a => (first | assumption | exact Ne.symm (by assumption))); (case b => walk_at "look"))
   | ((with_reducible refine Stow.look_put ?a ?b); (case a => (first | assumption | walk_at "look")); (case b => walk_at "look"))
   | ((with_reducible refine Stow.look_tup (ys := ?ys) ?a ?b); (case a => walk_at "look"); (case b => walk_at "look"))
   | assumption)
local macro_rules
 | `(tactic| walk_at "seq") => `(tactic| first
   | with_reducible assumption
   | exact L2.SqL.of (by walk_at "look")
   | ((with_reducible refine Stow.seq_put ?a ?b); (case a => assumption); (case b => walk_at "seq"))
   | assumption)
local macro_rules
 | `(tactic| walk_at "num") => `(tactic| first | assumption | omega | (simp only [List.length_map, List.length_set, List.length_append, List.length_cons, List.length_nil] <;> omega))
local macro_rules
 | `(tactic| walk_at "size") => `(tactic| first | exact Stow.small4000 (by first | omega | (simp only [List.length_map, List.length_set, List.length_append, List.length_cons, List.length_nil] <;> omega)))
local macro_rules
 | `(tactic| walk_at "side") => `(tactic| first
   | (show (0 : Int) < _; first | decide | omega)
   | (show (0 : Int) ≤ _; first | decide | omega)
   | exact Or.inr ⟨by decide, by decide⟩
   | exact Or.inl ⟨by decide, by decide⟩
   | exact ⟨by decide, by decide⟩
   | exact ⟨by decide, by decide, by decide⟩
   | exact ⟨by decide, by decide, by assumption⟩
   | exact ⟨by decide, by decide, by omega⟩
   | exact ⟨by omega, by omega, by decide⟩
   | exact Or.inr ⟨by omega, by omega⟩
   | exact Or.inl ⟨by omega, by omega⟩
   | exact ⟨by omega, by omega⟩)
local macro_rules
 | `(tactic| walk_at "ty") => `(tactic| first | exact L2.TyOf.int _ | exact L2.TyOf.bl _ | exact L2.TyOf.non | ((refine L2.TyOf.lst (xs := ?xs) ?h); (case h => walk_at "look")) | ((refine L2.TyOf.tup (xs := ?xs) ?h); (case h => walk_at "look")) | exact L2.TyOf.str _)
local macro_rules
 | `(tactic| walk_at "kit") => `(tactic| first | exact Stow.kit_ii | exact Stow.kit_ib | exact Stow.kit_bb | exact Stow.kit_ll | exact Stow.kit_tt)
local macro_rules
 | `(tactic| walk_at "sp") => `(tactic| fail "no promise")
local macro_rules
 | `(tactic| walk_at "st") => `(tactic| first
   | ((with_reducible refine Stow.r_var (v := ?v) ?e ?_); (case e => exact rfl))
   | (with_reducible refine Stow.r_seq ?_)
   | (with_reducible refine Stow.r_nx ?_)
   | (with_reducible refine Stow.r_asg ?_)
   | ((with_reducible refine Stow.r_gnameN (σ' := ?s) ?e ?_); (case e => with_reducible (walk_at "set")))
   | (with_reducible refine Stow.r_gname ?_)
   | (with_reducible refine Stow.r_op ?_)
   | (with_reducible refine Stow.r_cons ?_)
   | (with_reducible refine Stow.r_nil ?_)
   | (with_reducible refine Stow.r_c ?_)
   | (with_reducible refine Stow.r_rI0 ?_)
   | (with_reducible refine Stow.r_call ?_)
   | (with_reducible refine Stow.r_cb ?_)
   | (with_reducible refine Stow.r_test ?_)
   | (with_reducible refine Stow.r_tB ?_)
   | (with_reducible refine Stow.r_bl ?_)
   | (with_reducible refine Stow.r_ifS ?_)
   | (with_reducible refine Stow.r_ret ?_)
   | (with_reducible refine Stow.r_rt ?_)
   | (with_reducible refine Stow.r_drop ?_)
   | (with_reducible refine Stow.r_next ?_)
   | (with_reducible refine Stow.r_not ?_)
   | (with_reducible refine Stow.r_and ?_)
   | (with_reducible refine Stow.r_or ?_)
   | (with_reducible refine Stow.r_andV ?_)
   | (with_reducible refine Stow.r_orV ?_)
   | (with_reducible refine Stow.r_notV ?_)
   | (with_reducible refine Stow.r_ifE ?_)
   | (with_reducible refine Stow.r_ifN ?_)
   | (with_reducible refine Stow.r_eqI ?_)
   | (with_reducible refine Stow.r_neI ?_)
   | (with_reducible refine Stow.r_isN ?_)
   | (with_reducible refine Stow.r_int ?_)
   | (with_reducible refine Stow.r_eqB ?_)
   | (with_reducible refine Stow.r_neB ?_)
   | (with_reducible refine Stow.r_tup ?_)
   | (with_reducible refine Stow.r_lst ?_)
   | (with_reducible refine Stow.r_bm ?_)
   | (with_reducible refine Stow.r_bm0 ?_)
   | (with_reducible refine Stow.r_sl ?_)
   | (with_reducible refine Stow.r_part ?_)
   | (with_reducible refine Stow.r_nopart ?_)
   | (with_reducible refine Stow.r_un ?_)
   | (with_reducible refine Stow.r_rU ?_)
   | (with_reducible refine Stow.r_intB ?_)
   | (with_reducible refine Stow.r_intI ?_)
   | (with_reducible refine Stow.r_truB ?_)
   | (with_reducible refine Stow.r_gsub ?_)
   | (with_reducible refine Stow.r_retN ?_)
   | (with_reducible refine Stow.r_ct ?_)
   | (with_reducible refine Stow.r_bk ?_)
   | (with_reducible refine Stow.r_break ?_)
   | (with_reducible refine Stow.r_cont ?_)
   | (with_reducible refine L2.iteT ?_)
   | (with_reducible refine L2.iteF ?_)
   | ((with_reducible refine Stow.r_rI ?c ?_); (case c => walk_at "side"))
   | ((with_reducible refine Stow.r_tyL (xs := ?xs) ?h ?_); (case h => walk_at "look"))
   | ((with_reducible refine Stow.r_appendI (ns := ?ns) ?h ?z ?_); (case h => walk_at "look"); (case z => walk_at "size"))
   | ((with_reducible refine Stow.r_append (xs := ?xs) ?h ?z ?_); (case h => walk_at "look"); (case z => walk_at "size"))
   | ((with_reducible refine Stow.r_gtup (xs := ?xs) ?h ?l ?_); (case h => walk_at "look"); (case l => exact rfl))
   | (with_reducible refine Stow.r_gcons ?_)
   | (with_reducible refine Stow.r_gnil ?_)
   | ((with_reducible refine Stow.r_ixI (ns := ?ns) ?h ?a ?b ?_); (case h => walk_at "seq"); (case a => walk_at "num"); (case b => walk_at "num"))
   | ((with_reducible refine Stow.r_ixT (xs := ?xs) (v := ?v) ?h ?e ?_); (case h => walk_at "look"); (case e => exact rfl))
   | ((with_reducible refine Stow.r_setI (ns := ?ns) ?h ?a ?b ?_); (case h => walk_at "look"); (case a => walk_at "num"); (case b => walk_at "num"))
   | ((with_reducible refine Stow.r_sllG (ns := ?ns) ?h ?_); (case h => walk_at "seq"))
   | ((with_reducible refine Stow.r_sll (xs := ?xs) ?h ?_); (case h => walk_at "seq"))
   | ((with_reducible refine Stow.r_lenI (ns := ?ns) ?h ?_); (case h => walk_at "seq"); (try rw [List.length_map]))
   | ((with_reducible refine Stow.r_lenL (xs := ?xs) ?h ?_); (case h => walk_at "look"))
   | ((with_reducible refine Stow.r_lenT (xs := ?xs) ?h ?_); (case h => walk_at "look"))
   | ((with_reducible refine Stow.r_listI (xs := ?xs) ?h ?_); (case h => walk_at "seq"))
   | ((with_reducible refine Stow.r_isi (t := ?t) (b := ?b) ?y ?e ?_); (case y => walk_at "ty"); (case e => walk_at "kit"))
   | ((with_reducible refine Stow.r_new ?h ?_); (case h => (first | exact Nat.zero_le _ | simp)))
   | ((with_reducible refine Stow.r_truL (xs := ?xs) ?h ?_); (case h => walk_at "seq"))
   | ((with_reducible refine Stow.r_ifdT ?c ?_); (case c => (first | omega | exact rfl)))
   | ((with_reducible refine Stow.r_ifdF ?c ?_); (case c => (first | omega | (intro h; cases h; done))))
   | (with_reducible refine Stow.r_raise ?_)
   | (with_reducible refine Stow.r_raiseI ?_)
   | (with_reducible refine Stow.r_tryAs ?_)
   | (with_reducible refine Stow.r_try ?_)
   | (with_reducible refine Stow.r_fldX ?_)
   | (with_reducible refine Stow.r_for ?_)
   | (with_reducible refine Stow.r_iL ?_)
   | (with_reducible refine Stow.r_iR1 ?_)
   | (with_reducible refine Stow.r_iR2 ?_)
   | (with_reducible refine Stow.r_comp ?_)
   | ((with_reducible refine Stow.r_isiX (C := ?C) (od := ?od) (b := ?b) ?h ?z ?e ?_); (case h => walk_at "look"); (case z => assumption); (case e => assumption))
   | ((with_reducible refine Stow.r_isiN (C := ?C) (od := ?od) (b := ?b) ?h ?z ?n ?e ?_); (case h => walk_at "look"); (case z => assumption); (case n => exact fun z => nomatch z); (case e => assumption))
   | (with_reducible refine Stow.r_makeX ?_)
   | (with_reducible refine Stow.r_makeI ?_)
   | (with_reducible refine Stow.r_fldN ?_)
   | ((with_reducible refine Stow.r_catG (xs := ?xs) (zs := ?zs) ?h ?g ?z ?_); (case h => walk_at "look"); (case g => walk_at "look"); (case z => walk_at "num"))
   | ((with_reducible refine Stow.r_cat (xs := ?xs) (zs := ?zs) ?h ?g ?z ?_); (case h => walk_at "look"); (case g => walk_at "look"); (case z => (refine Nat.le_of_lt (L2.small1000 ?_); first | omega | simp)))
   | ((with_reducible refine Stow.r_slS ?h ?_); (case h => decide))
   | (with_reducible refine Stow.r_max ?_)
   | (with_reducible refine Stow.r_fld ?_)
   | ((with_reducible refine Stow.r_at (C := ?C) (dx := ?dx) (fs := ?fs) (v := ?v) ?h ?c ?n ?l ?_); (case h => walk_at "look"); (case c => assumption); (case n => assumption); (case l => exact rfl))
   | (with_reducible refine Stow.r_sfld ?_)
   | ((with_reducible refine Stow.r_sat (C := ?C) (dx := ?dx) (fs := ?fs) ?h ?c ?n ?l ?_); (case h => walk_at "look"); (case c => assumption); (case n => assumption); (case l => (first | decide | simp)))
   | (with_reducible refine Stow.r_meth ?_)
   | ((with_reducible refine Stow.r_mat (dx := ?dx) (fs := ?fs) ?h ?l ?_); (case h => walk_at "look"); (case l => exact rfl))
   | (with_reducible refine Stow.r_make ?_)
   | (with_reducible refine Stow.r_compG ?_)
   | ((with_reducible refine Stow.r_isiO (C := ?C) (dx := ?dx) (fs := ?fs) (b := ?b) ?h ?z ?e ?_); (case h => walk_at "look"); (case z => assumption); (case e => assumption))
   | (with_reducible refine Stow.r_tryE ?_)
   | (with_reducible refine Stow.r_tryA ?_)
   | (with_reducible refine Stow.r_xCall ?_)
   | (with_reducible refine Stow.r_tryS ?_)
   | (with_reducible refine Stow.r_xSet ?_)
   | (with_reducible refine Stow.r_xIf ?_)
   | (with_reducible refine Stow.r_xMeth ?_)
   | (with_reducible refine Stow.r_xMethD ?_)
   | (with_reducible refine Stow.r_xMake ?_)
   | (with_reducible refine Stow.r_methD ?_)
   | (with_reducible refine Stow.r_isB ?_)
   | ((with_reducible refine Stow.r_notIn (xs := ?xs) ?h ?f ?g ?_); (case h => walk_at "look"); (case f => exact rfl); (case g => exact rfl))
   | walk_at "sp")
local macro_rules
 | `(tactic| walk_at "go") => `(tactic| repeat walk_at "st")
local macro_rules
 | `(tactic| walk_at "len") => `(tactic| first
   | (rintro ⟨e, _⟩; exact congrArg List.length e)
   | (rintro ⟨_, e, _⟩; exact congrArg List.length e)
   | (rintro ⟨_, _, e, _⟩; exact congrArg List.length e)
   | (rintro ⟨_, _, _, e, _⟩; exact congrArg List.length e)
   | (rintro ⟨_, _, _, _, e, _⟩; exact congrArg List.length e)
   | (rintro ⟨_, _, _, _, _, e, _⟩; exact congrArg List.length e)
   | (rintro ⟨_, _, _, _, _, _, e, _⟩; exact congrArg List.length e)
   | (rintro ⟨_, _, _, _, _, _, _, e, _⟩; exact congrArg List.length e)
   | (rintro ⟨_, _, _, _, _, _, _, _, e, _⟩; exact congrArg List.length e)
   | (rintro ⟨_, _, _, _, _, _, _, _, _, e, _⟩; exact congrArg List.length e)
   | (rintro ⟨_, _, _, _, _, _, _, _, _, _, e, _⟩; exact congrArg List.length e)
   | (rintro ⟨_, _, _, _, _, _, _, _, _, _, _, e, _⟩; exact congrArg List.length e)
   | (rintro ⟨_, _, _, _, _, _, _, _, _, _, _, _, e, _⟩; exact congrArg List.length e)
   | (rintro ⟨_, _, _, _, _, _, _, _, _, _, _, _, _, e, _⟩; exact congrArg List.length e)
   | (rintro ⟨_, _, _, _, _, _, _, _, _, _, _, _, _, _, e, _⟩; exact congrArg List.length e)
   | (rintro ⟨_, _, _, _, _, _, _, _, _, _, _, _, _, _, _, e, _⟩; exact congrArg List.length e)
   | (rintro ⟨_, _, _, _, _, _, _, _, _, _, _, _, _, _, _, _, e, _⟩; exact congrArg List.length e)
   | (rintro ⟨_, _, _, _, _, _, _, _, _, _, _, _, _, _, _, _, _, e, _⟩; exact congrArg List.length e))
local macro_rules
 | `(tactic| walk_at "gs") => `(tactic| repeat (first | (with_reducible refine Stow.r_nx ?_) | ((fail_if_success (with_reducible refine Stow.r_isIf ?_)); walk_at "st")))
local macro_rules
 | `(tactic| walk_at "ga") => `(tactic| repeat ((fail_if_success (with_reducible refine Stow.r_isAnd ?_)); (fail_if_success (with_reducible refine Stow.r_isOr ?_)); walk_at "st"))
local macro_rules
 | `(tactic| walk_at "ge") => `(tactic| repeat (first | (with_reducible refine Stow.r_nx ?_) | ((fail_if_success (with_reducible refine Stow.r_isSeq ?_)); walk_at "st")))
local macro_rules
 | `(tactic| walk_at "g1") => `(tactic| ((with_reducible refine Stow.r_seq ?_); walk_at "ge"))
local macro_rules
 | `(tactic| walk_at "st") => `(tactic| first
   | (with_reducible refine Stow.r_dget ?_)
   | (with_reducible refine Stow.r_dput ?_)
   | (with_reducible refine Stow.r_forD ?_)
   | (with_reducible refine Stow.r_dnew ?_)
   | (with_reducible refine Stow.r_xExp ?_)
   | ((with_reducible refine Stow.r_tyD (kvs := ?kvs) ?h ?_); (case h => walk_at "look")))
local macro_rules
 | `(tactic| walk_at "sp") => `(tactic| first
   | (with_reducible refine Stow.i_long ?_)
   | (with_reducible refine Stow.i_live ?_)
   | (with_reducible refine Stow.i_whole ?_)
   | ((with_reducible refine Stow.i_cell (ns := ?ns) ?h ?a ?_); (case h => walk_at "seq"); (case a => walk_at "nn"))
   | ((with_reducible refine Stow.i_can (ns := ?ns) ?h ?a ?b ?_); (case h => walk_at "seq"); (case a => walk_at "num"); (case b => walk_at "num"))
   | ((with_reducible refine Stow.i_bad (ns := ?ns) ?h ?a ?b ?_); (case h => walk_at "seq"); (case a => walk_at "num"); (case b => walk_at "num")))
local macro_rules
 | `(tactic| walk_at "nn") => `(tactic| first | decide | omega | exact Int.emod_nonneg _ (by decide) | exact Int.emod_nonneg _ (by omega))
--GEN
namespace Stow
open PySem L2 PyProof.Rows
abbrev s_Z18 : Stmt := top 17
theorem sc_Z18 : FnScope ["count", "bound"] ["count", "bound"] (defScope s_Z18) := ⟨rfl, rfl, rfl, by decide +kernel, rfl, by decide +kernel, by decide +kernel⟩
theorem bi_Z18 (kV doc pm : Value) (an : Option Addr) (cdv ct : Value) (us : List Value) (hl : us.length = ["count", "bound"].length) : bindArgs (PySem.W.fnOf "check_ask" "check_ask" (defArgs s_Z18) (defBody s_Z18) (defScope s_Z18) .none kV doc pm an cdv ct) ⟨us, []⟩ = pure ((["count", "bound"] : List Str).zip us) := match us, hl with | [_, _], _ => rfl
abbrev s_Z2 : Stmt := top 18
theorem sc_Z2 : FnScope ["count", "bound"] ["count", "bound"] (defScope s_Z2) := ⟨rfl, rfl, rfl, by decide +kernel, rfl, by decide +kernel, by decide +kernel⟩
theorem bi_Z2 (kV doc pm : Value) (an : Option Addr) (cdv ct : Value) (us : List Value) (hl : us.length = ["count", "bound"].length) : bindArgs (PySem.W.fnOf "check_plain_ask" "check_plain_ask" (defArgs s_Z2) (defBody s_Z2) (defScope s_Z2) .none kV doc pm an cdv ct) ⟨us, []⟩ = pure ((["count", "bound"] : List Str).zip us) := match us, hl with | [_, _], _ => rfl
abbrev s_Z30 : Stmt := top 20
theorem sc_Z30 : FnScope ["long", "live"] ["long", "live"] (defScope s_Z30) := ⟨rfl, rfl, rfl, by decide +kernel, rfl, by decide +kernel, by decide +kernel⟩
theorem bi_Z30 (kV doc pm : Value) (an : Option Addr) (cdv ct : Value) (us : List Value) (hl : us.length = ["long", "live"].length) : bindArgs (PySem.W.fnOf "mark_of" "mark_of" (defArgs s_Z30) (defBody s_Z30) (defScope s_Z30) .none kV doc pm an cdv ct) ⟨us, []⟩ = pure ((["long", "live"] : List Str).zip us) := match us, hl with | [_, _], _ => rfl
abbrev s_Z32 : Stmt := top 21
theorem sc_Z32 : FnScope ["number"] ["number"] (defScope s_Z32) := ⟨rfl, rfl, rfl, by decide +kernel, rfl, by decide +kernel, by decide +kernel⟩
theorem bi_Z32 (kV doc pm : Value) (an : Option Addr) (cdv ct : Value) (us : List Value) (hl : us.length = ["number"].length) : bindArgs (PySem.W.fnOf "long_of" "long_of" (defArgs s_Z32) (defBody s_Z32) (defScope s_Z32) .none kV doc pm an cdv ct) ⟨us, []⟩ = pure ((["number"] : List Str).zip us) := match us, hl with | [_], _ => rfl
abbrev s_Z31 : Stmt := top 22
theorem sc_Z31 : FnScope ["number"] ["number"] (defScope s_Z31) := ⟨rfl, rfl, rfl, by decide +kernel, rfl, by decide +kernel, by decide +kernel⟩
theorem bi_Z31 (kV doc pm : Value) (an : Option Addr) (cdv ct : Value) (us : List Value) (hl : us.length = ["number"].length) : bindArgs (PySem.W.fnOf "live_of" "live_of" (defArgs s_Z31) (defBody s_Z31) (defScope s_Z31) .none kV doc pm an cdv ct) ⟨us, []⟩ = pure ((["number"] : List Str).zip us) := match us, hl with | [_], _ => rfl
abbrev s_Z19 : Stmt := top 25
theorem sc_Z19 : FnScope ["cells", "at", "long"] ["cells", "at"] (defScope s_Z19) := ⟨rfl, rfl, rfl, by decide +kernel, rfl, by decide +kernel, by decide +kernel⟩
theorem bi_Z19 (kV doc pm : Value) (an : Option Addr) (cdv ct : Value) (us : List Value) (hl : us.length = ["cells", "at"].length) : bindArgs (PySem.W.fnOf "can_begin" "can_begin" (defArgs s_Z19) (defBody s_Z19) (defScope s_Z19) .none kV doc pm an cdv ct) ⟨us, []⟩ = pure ((["cells", "at"] : List Str).zip us) := match us, hl with | [_, _], _ => rfl
abbrev s_Z7 : Stmt := top 26
theorem sc_Z7 : FnScope ["cells", "at", "last"] ["cells", "at"] (defScope s_Z7) := ⟨rfl, rfl, rfl, by decide +kernel, rfl, by decide +kernel, by decide +kernel⟩
theorem bi_Z7 (kV doc pm : Value) (an : Option Addr) (cdv ct : Value) (us : List Value) (hl : us.length = ["cells", "at"].length) : bindArgs (PySem.W.fnOf "bad_of_piece" "bad_of_piece" (defArgs s_Z7) (defBody s_Z7) (defScope s_Z7) .none kV doc pm an cdv ct) ⟨us, []⟩ = pure ((["cells", "at"] : List Str).zip us) := match us, hl with | [_, _], _ => rfl
abbrev s_Z35 : Stmt := top 27
theorem sc_Z35 : FnScope ["cells", "pieces", "at", "bad", "long"] ["cells"] (defScope s_Z35) := ⟨rfl, rfl, rfl, by decide +kernel, rfl, by decide +kernel, by decide +kernel⟩
theorem bi_Z35 (kV doc pm : Value) (an : Option Addr) (cdv ct : Value) (us : List Value) (hl : us.length = ["cells"].length) : bindArgs (PySem.W.fnOf "looked" "looked" (defArgs s_Z35) (defBody s_Z35) (defScope s_Z35) .none kV doc pm an cdv ct) ⟨us, []⟩ = pure ((["cells"] : List Str).zip us) := match us, hl with | [_], _ => rfl
abbrev s_Z14 : Stmt := top 28
theorem sc_Z14 : FnScope ["count", "cells"] ["count"] (defScope s_Z14) := ⟨rfl, rfl, rfl, by decide +kernel, rfl, by decide +kernel, by decide +kernel⟩
theorem bi_Z14 (kV doc pm : Value) (an : Option Addr) (cdv ct : Value) (us : List Value) (hl : us.length = ["count"].length) : bindArgs (PySem.W.fnOf "fresh_room" "fresh_room" (defArgs s_Z14) (defBody s_Z14) (defScope s_Z14) .none kV doc pm an cdv ct) ⟨us, []⟩ = pure ((["count"] : List Str).zip us) := match us, hl with | [_], _ => rfl
abbrev s_Z44 : Stmt := top 30
theorem sc_Z44 : FnScope ["cells", "at", "long", "live", "row"] ["cells", "at", "long", "live"] (defScope s_Z44) := ⟨rfl, rfl, rfl, by decide +kernel, rfl, by decide +kernel, by decide +kernel⟩
theorem bi_Z44 (kV doc pm : Value) (an : Option Addr) (cdv ct : Value) (us : List Value) (hl : us.length = ["cells", "at", "long", "live"].length) : bindArgs (PySem.W.fnOf "laid" "laid" (defArgs s_Z44) (defBody s_Z44) (defScope s_Z44) .none kV doc pm an cdv ct) ⟨us, []⟩ = pure ((["cells", "at", "long", "live"] : List Str).zip us) := match us, hl with | [_, _, _, _], _ => rfl
abbrev s_Z17 : Stmt := top 31
theorem sc_Z17 : FnScope ["cells", "begin", "end"] ["cells", "begin", "end"] (defScope s_Z17) := ⟨rfl, rfl, rfl, by decide +kernel, rfl, by decide +kernel, by decide +kernel⟩
theorem bi_Z17 (kV doc pm : Value) (an : Option Addr) (cdv ct : Value) (us : List Value) (hl : us.length = ["cells", "begin", "end"].length) : bindArgs (PySem.W.fnOf "laid_free" "laid_free" (defArgs s_Z17) (defBody s_Z17) (defScope s_Z17) .none kV doc pm an cdv ct) ⟨us, []⟩ = pure ((["cells", "begin", "end"] : List Str).zip us) := match us, hl with | [_, _, _], _ => rfl
abbrev s_Z20 : Stmt := top 32
theorem sc_Z20 : FnScope ["cells", "at", "piece"] ["cells", "at"] (defScope s_Z20) := ⟨rfl, rfl, rfl, by decide +kernel, rfl, by decide +kernel, by decide +kernel⟩
theorem bi_Z20 (kV doc pm : Value) (an : Option Addr) (cdv ct : Value) (us : List Value) (hl : us.length = ["cells", "at"].length) : bindArgs (PySem.W.fnOf "piece_at" "piece_at" (defArgs s_Z20) (defBody s_Z20) (defScope s_Z20) .none kV doc pm an cdv ct) ⟨us, []⟩ = pure ((["cells", "at"] : List Str).zip us) := match us, hl with | [_, _], _ => rfl
abbrev s_Z26 : Stmt := top 33
theorem sc_Z26 : FnScope ["cells", "at", "piece"] ["cells", "at"] (defScope s_Z26) := ⟨rfl, rfl, rfl, by decide +kernel, rfl, by decide +kernel, by decide +kernel⟩
theorem bi_Z26 (kV doc pm : Value) (an : Option Addr) (cdv ct : Value) (us : List Value) (hl : us.length = ["cells", "at"].length) : bindArgs (PySem.W.fnOf "live_at" "live_at" (defArgs s_Z26) (defBody s_Z26) (defScope s_Z26) .none kV doc pm an cdv ct) ⟨us, []⟩ = pure ((["cells", "at"] : List Str).zip us) := match us, hl with | [_, _], _ => rfl
abbrev s_Z28 : Stmt := top 34
theorem sc_Z28 : FnScope ["cells", "at", "piece"] ["cells", "at"] (defScope s_Z28) := ⟨rfl, rfl, rfl, by decide +kernel, rfl, by decide +kernel, by decide +kernel⟩
theorem bi_Z28 (kV doc pm : Value) (an : Option Addr) (cdv ct : Value) (us : List Value) (hl : us.length = ["cells", "at"].length) : bindArgs (PySem.W.fnOf "free_at" "free_at" (defArgs s_Z28) (defBody s_Z28) (defScope s_Z28) .none kV doc pm an cdv ct) ⟨us, []⟩ = pure ((["cells", "at"] : List Str).zip us) := match us, hl with | [_, _], _ => rfl
abbrev s_Z25 : Stmt := top 35
theorem sc_Z25 : FnScope ["cells", "at", "place", "long", "begin", "free_long", "live", "end", "row"] ["cells", "at", "place", "long"] (defScope s_Z25) := ⟨rfl, rfl, rfl, by decide +kernel, rfl, by decide +kernel, by decide +kernel⟩
theorem bi_Z25 (kV doc pm : Value) (an : Option Addr) (cdv ct : Value) (us : List Value) (hl : us.length = ["cells", "at", "place", "long"].length) : bindArgs (PySem.W.fnOf "cut_out" "cut_out" (defArgs s_Z25) (defBody s_Z25) (defScope s_Z25) .none kV doc pm an cdv ct) ⟨us, []⟩ = pure ((["cells", "at", "place", "long"] : List Str).zip us) := match us, hl with | [_, _, _, _], _ => rfl
abbrev s_Z27 : Stmt := top 36
theorem sc_Z27 : FnScope ["cells", "source", "goal", "count", "row"] ["cells", "source", "goal", "count"] (defScope s_Z27) := ⟨rfl, rfl, rfl, by decide +kernel, rfl, by decide +kernel, by decide +kernel⟩
theorem bi_Z27 (kV doc pm : Value) (an : Option Addr) (cdv ct : Value) (us : List Value) (hl : us.length = ["cells", "source", "goal", "count"].length) : bindArgs (PySem.W.fnOf "carried" "carried" (defArgs s_Z27) (defBody s_Z27) (defScope s_Z27) .none kV doc pm an cdv ct) ⟨us, []⟩ = pure ((["cells", "source", "goal", "count"] : List Str).zip us) := match us, hl with | [_, _, _, _], _ => rfl
abbrev s_Z15 : Stmt := top 42
theorem sc_Z15 : FnScope ["_law_script", "_law_k"] ["_law_script", "_law_k"] (defScope s_Z15) := ⟨rfl, rfl, rfl, by decide +kernel, rfl, by decide +kernel, by decide +kernel⟩
theorem bi_Z15 (kV doc pm : Value) (an : Option Addr) (cdv ct : Value) (us : List Value) (hl : us.length = ["_law_script", "_law_k"].length) : bindArgs (PySem.W.fnOf "_law_cell_at" "_law_cell_at" (defArgs s_Z15) (defBody s_Z15) (defScope s_Z15) .none kV doc pm an cdv ct) ⟨us, []⟩ = pure ((["_law_script", "_law_k"] : List Str).zip us) := match us, hl with | [_, _], _ => rfl
abbrev s_Z34 : Stmt := top 43
theorem sc_Z34 : FnScope ["_law_found"] ["_law_found"] (defScope s_Z34) := ⟨rfl, rfl, rfl, by decide +kernel, rfl, by decide +kernel, by decide +kernel⟩
theorem bi_Z34 (kV doc pm : Value) (an : Option Addr) (cdv ct : Value) (us : List Value) (hl : us.length = ["_law_found"].length) : bindArgs (PySem.W.fnOf "_law_whole" "_law_whole" (defArgs s_Z34) (defBody s_Z34) (defScope s_Z34) .none kV doc pm an cdv ct) ⟨us, []⟩ = pure ((["_law_found"] : List Str).zip us) := match us, hl with | [_], _ => rfl
abbrev s_Z29 : Stmt := top 44
theorem sc_Z29 : FnScope ["_law_found", "_law_due", "_law_piece"] ["_law_found", "_law_due"] (defScope s_Z29) := ⟨rfl, rfl, rfl, by decide +kernel, rfl, by decide +kernel, by decide +kernel⟩
theorem bi_Z29 (kV doc pm : Value) (an : Option Addr) (cdv ct : Value) (us : List Value) (hl : us.length = ["_law_found", "_law_due"].length) : bindArgs (PySem.W.fnOf "_law_alike" "_law_alike" (defArgs s_Z29) (defBody s_Z29) (defScope s_Z29) .none kV doc pm an cdv ct) ⟨us, []⟩ = pure ((["_law_found", "_law_due"] : List Str).zip us) := match us, hl with | [_, _], _ => rfl
abbrev s_Z37 : Stmt := top 45
theorem sc_Z37 : FnScope ["_law_cells", "_law_told", "_law_at", "_law_long", "_law_live"] ["_law_cells"] (defScope s_Z37) := ⟨rfl, rfl, rfl, by decide +kernel, rfl, by decide +kernel, by decide +kernel⟩
theorem bi_Z37 (kV doc pm : Value) (an : Option Addr) (cdv ct : Value) (us : List Value) (hl : us.length = ["_law_cells"].length) : bindArgs (PySem.W.fnOf "_law_walk" "_law_walk" (defArgs s_Z37) (defBody s_Z37) (defScope s_Z37) .none kV doc pm an cdv ct) ⟨us, []⟩ = pure ((["_law_cells"] : List Str).zip us) := match us, hl with | [_], _ => rfl
abbrev s_Z21 : Stmt := top 46
theorem sc_Z21 : FnScope ["_law_cell"] ["_law_cell"] (defScope s_Z21) := ⟨rfl, rfl, rfl, by decide +kernel, rfl, by decide +kernel, by decide +kernel⟩
theorem bi_Z21 (kV doc pm : Value) (an : Option Addr) (cdv ct : Value) (us : List Value) (hl : us.length = ["_law_cell"].length) : bindArgs (PySem.W.fnOf "_law_number" "_law_number" (defArgs s_Z21) (defBody s_Z21) (defScope s_Z21) .none kV doc pm an cdv ct) ⟨us, []⟩ = pure ((["_law_cell"] : List Str).zip us) := match us, hl with | [_], _ => rfl
abbrev s_Z23 : Stmt := top 47
theorem sc_Z23 : FnScope ["_law_longs", "_law_size", "_law_told", "_law_at", "_law_long"] ["_law_longs", "_law_size"] (defScope s_Z23) := ⟨rfl, rfl, rfl, by decide +kernel, rfl, by decide +kernel, by decide +kernel⟩
theorem bi_Z23 (kV doc pm : Value) (an : Option Addr) (cdv ct : Value) (us : List Value) (hl : us.length = ["_law_longs", "_law_size"].length) : bindArgs (PySem.W.fnOf "_law_pieces" "_law_pieces" (defArgs s_Z23) (defBody s_Z23) (defScope s_Z23) .none kV doc pm an cdv ct) ⟨us, []⟩ = pure ((["_law_longs", "_law_size"] : List Str).zip us) := match us, hl with | [_, _], _ => rfl
abbrev s_Z10 : Stmt := top 48
theorem sc_Z10 : FnScope ["_law_keeper", "_law_count", "_law_bare", "_law_word", "_law_place"] ["_law_keeper", "_law_count", "_law_bare"] (defScope s_Z10) := ⟨rfl, rfl, rfl, by decide +kernel, rfl, by decide +kernel, by decide +kernel⟩
theorem bi_Z10 (kV doc pm : Value) (an : Option Addr) (cdv ct : Value) (us : List Value) (hl : us.length = ["_law_keeper", "_law_count", "_law_bare"].length) : bindArgs (PySem.W.fnOf "_law_ask_told" "_law_ask_told" (defArgs s_Z10) (defBody s_Z10) (defScope s_Z10) .none kV doc pm an cdv ct) ⟨us, []⟩ = pure ((["_law_keeper", "_law_count", "_law_bare"] : List Str).zip us) := match us, hl with | [_, _, _], _ => rfl
abbrev s_Z16 : Stmt := top 49
theorem sc_Z16 : FnScope ["_law_keeper", "_law_place", "_law_cell", "_law_right", "_law_numbers", "e", "_law_others"] ["_law_keeper", "_law_place", "_law_cell"] (defScope s_Z16) := ⟨rfl, rfl, rfl, by decide +kernel, rfl, by decide +kernel, by decide +kernel⟩
theorem bi_Z16 (kV doc pm : Value) (an : Option Addr) (cdv ct : Value) (us : List Value) (hl : us.length = ["_law_keeper", "_law_place", "_law_cell"].length) : bindArgs (PySem.W.fnOf "_law_refused" "_law_refused" (defArgs s_Z16) (defBody s_Z16) (defScope s_Z16) .none kV doc pm an cdv ct) ⟨us, []⟩ = pure ((["_law_keeper", "_law_place", "_law_cell"] : List Str).zip us) := match us, hl with | [_, _, _], _ => rfl
abbrev s_Z36 : Stmt := top 50
theorem sc_Z36 : FnScope ["_law_keeper", "_law_longs", "_law_known", "_law_cell", "_law_size", "_law_count", "_law_way", "_law_due", "_law_told", "_law_number_here", "_law_place", "_law_k"] ["_law_keeper", "_law_longs", "_law_known", "_law_cell", "_law_size"] (defScope s_Z36) := ⟨rfl, rfl, rfl, by decide +kernel, rfl, by decide +kernel, by decide +kernel⟩
theorem bi_Z36 (kV doc pm : Value) (an : Option Addr) (cdv ct : Value) (us : List Value) (hl : us.length = ["_law_keeper", "_law_longs", "_law_known", "_law_cell", "_law_size"].length) : bindArgs (PySem.W.fnOf "_law_step" "_law_step" (defArgs s_Z36) (defBody s_Z36) (defScope s_Z36) .none kV doc pm an cdv ct) ⟨us, []⟩ = pure ((["_law_keeper", "_law_longs", "_law_known", "_law_cell", "_law_size"] : List Str).zip us) := match us, hl with | [_, _, _, _, _], _ => rfl
abbrev s_Z38 : Stmt := top 51
theorem sc_Z38 : FnScope ["_law_keeper", "_law_longs", "_law_known", "_law_size", "_law_due", "_law_cells", "_law_at"] ["_law_keeper", "_law_longs", "_law_known", "_law_size"] (defScope s_Z38) := ⟨rfl, rfl, rfl, by decide +kernel, rfl, by decide +kernel, by decide +kernel⟩
theorem bi_Z38 (kV doc pm : Value) (an : Option Addr) (cdv ct : Value) (us : List Value) (hl : us.length = ["_law_keeper", "_law_longs", "_law_known", "_law_size"].length) : bindArgs (PySem.W.fnOf "_law_seen" "_law_seen" (defArgs s_Z38) (defBody s_Z38) (defScope s_Z38) .none kV doc pm an cdv ct) ⟨us, []⟩ = pure ((["_law_keeper", "_law_longs", "_law_known", "_law_size"] : List Str).zip us) := match us, hl with | [_, _, _, _], _ => rfl
abbrev s_law : Stmt := top 52
theorem sc_law : FnScope ["_law_script", "_law_size", "_law_keeper", "_law_longs", "_law_known", "_law_cell"] ["_law_script"] (defScope s_law) := ⟨rfl, rfl, rfl, by decide +kernel, rfl, by decide +kernel, by decide +kernel⟩
theorem bi_law (kV doc pm : Value) (an : Option Addr) (cdv ct : Value) (us : List Value) (hl : us.length = ["_law_script"].length) : bindArgs (PySem.W.fnOf "law" "law" (defArgs s_law) (defBody s_law) (defScope s_law) .none kV doc pm an cdv ct) ⟨us, []⟩ = pure ((["_law_script"] : List Str).zip us) := match us, hl with | [_], _ => rfl
abbrev s_Broken_init : Stmt := inClass (top 4) 0
theorem sc_Broken_init : FnScope ["self", "cell"] ["self", "cell"] (defScope s_Broken_init) := ⟨rfl, rfl, rfl, by decide +kernel, rfl, by decide +kernel, by decide +kernel⟩
theorem bi_Broken_init (kV doc pm : Value) (an : Option Addr) (cdv ct : Value) (us : List Value) (hl : us.length = ["self", "cell"].length) : bindArgs (PySem.W.fnOf "__init__" "Broken.__init__" (defArgs s_Broken_init) (defBody s_Broken_init) (defScope s_Broken_init) .none kV doc pm an cdv ct) ⟨us, []⟩ = pure ((["self", "cell"] : List Str).zip us) := match us, hl with | [_, _], _ => rfl
abbrev s_BadLine_init : Stmt := inClass (top 12) 0
theorem sc_BadLine_init : FnScope ["self", "line"] ["self", "line"] (defScope s_BadLine_init) := ⟨rfl, rfl, rfl, by decide +kernel, rfl, by decide +kernel, by decide +kernel⟩
theorem bi_BadLine_init (kV doc pm : Value) (an : Option Addr) (cdv ct : Value) (us : List Value) (hl : us.length = ["self", "line"].length) : bindArgs (PySem.W.fnOf "__init__" "BadLine.__init__" (defArgs s_BadLine_init) (defBody s_BadLine_init) (defScope s_BadLine_init) .none kV doc pm an cdv ct) ⟨us, []⟩ = pure ((["self", "line"] : List Str).zip us) := match us, hl with | [_, _], _ => rfl
abbrev s_Keeper_init : Stmt := inClass (top 38) 0
theorem sc_Keeper_init : FnScope ["self", "size"] ["self", "size"] (defScope s_Keeper_init) := ⟨rfl, rfl, rfl, by decide +kernel, rfl, by decide +kernel, by decide +kernel⟩
theorem bi_Keeper_init (kV doc pm : Value) (an : Option Addr) (cdv ct : Value) (us : List Value) (hl : us.length = ["self", "size"].length) : bindArgs (PySem.W.fnOf "__init__" "Keeper.__init__" (defArgs s_Keeper_init) (defBody s_Keeper_init) (defScope s_Keeper_init) .none kV doc pm an cdv ct) ⟨us, []⟩ = pure ((["self", "size"] : List Str).zip us) := match us, hl with | [_, _], _ => rfl
abbrev s_Z1 : Stmt := inClass (top 38) 11
theorem sc_Z1 : FnScope ["self", "cells"] ["self", "cells"] (defScope s_Z1) := ⟨rfl, rfl, rfl, by decide +kernel, rfl, by decide +kernel, by decide +kernel⟩
theorem bi_Z1 (kV doc pm : Value) (an : Option Addr) (cdv ct : Value) (us : List Value) (hl : us.length = ["self", "cells"].length) : bindArgs (PySem.W.fnOf "room_begin" "Keeper.room_begin" (defArgs s_Z1) (defBody s_Z1) (defScope s_Z1) .none kV doc pm an cdv ct) ⟨us, []⟩ = pure ((["self", "cells"] : List Str).zip us) := match us, hl with | [_, _], _ => rfl
abbrev s_Z13 : Stmt := inClass (top 38) 3
theorem sc_Z13 : FnScope ["self", "cells"] ["self", "cells"] (defScope s_Z13) := ⟨rfl, rfl, rfl, by decide +kernel, rfl, by decide +kernel, by decide +kernel⟩
theorem bi_Z13 (kV doc pm : Value) (an : Option Addr) (cdv ct : Value) (us : List Value) (hl : us.length = ["self", "cells"].length) : bindArgs (PySem.W.fnOf "lay" "Keeper.lay" (defArgs s_Z13) (defBody s_Z13) (defScope s_Z13) .none kV doc pm an cdv ct) ⟨us, []⟩ = pure ((["self", "cells"] : List Str).zip us) := match us, hl with | [_, _], _ => rfl
abbrev s_Z3 : Stmt := inClass (top 38) 2
theorem sc_Z3 : FnScope ["self"] ["self"] (defScope s_Z3) := ⟨rfl, rfl, rfl, by decide +kernel, rfl, by decide +kernel, by decide +kernel⟩
theorem bi_Z3 (kV doc pm : Value) (an : Option Addr) (cdv ct : Value) (us : List Value) (hl : us.length = ["self"].length) : bindArgs (PySem.W.fnOf "pieces" "Keeper.pieces" (defArgs s_Z3) (defBody s_Z3) (defScope s_Z3) .none kV doc pm an cdv ct) ⟨us, []⟩ = pure ((["self"] : List Str).zip us) := match us, hl with | [_], _ => rfl
abbrev s_Z4 : Stmt := inClass (top 38) 1
theorem sc_Z4 : FnScope ["self"] ["self"] (defScope s_Z4) := ⟨rfl, rfl, rfl, by decide +kernel, rfl, by decide +kernel, by decide +kernel⟩
theorem bi_Z4 (kV doc pm : Value) (an : Option Addr) (cdv ct : Value) (us : List Value) (hl : us.length = ["self"].length) : bindArgs (PySem.W.fnOf "cells" "Keeper.cells" (defArgs s_Z4) (defBody s_Z4) (defScope s_Z4) .none kV doc pm an cdv ct) ⟨us, []⟩ = pure ((["self"] : List Str).zip us) := match us, hl with | [_], _ => rfl
abbrev s_Z5 : Stmt := inClass (top 38) 4
theorem sc_Z5 : FnScope ["self"] ["self"] (defScope s_Z5) := ⟨rfl, rfl, rfl, by decide +kernel, rfl, by decide +kernel, by decide +kernel⟩
theorem bi_Z5 (kV doc pm : Value) (an : Option Addr) (cdv ct : Value) (us : List Value) (hl : us.length = ["self"].length) : bindArgs (PySem.W.fnOf "clear" "Keeper.clear" (defArgs s_Z5) (defBody s_Z5) (defScope s_Z5) .none kV doc pm an cdv ct) ⟨us, []⟩ = pure ((["self"] : List Str).zip us) := match us, hl with | [_], _ => rfl
abbrev s_Z8 : Stmt := inClass (top 38) 5
theorem sc_Z8 : FnScope ["self", "place", "at", "long", "live"] ["self", "place"] (defScope s_Z8) := ⟨rfl, rfl, rfl, by decide +kernel, rfl, by decide +kernel, by decide +kernel⟩
theorem bi_Z8 (kV doc pm : Value) (an : Option Addr) (cdv ct : Value) (us : List Value) (hl : us.length = ["self", "place"].length) : bindArgs (PySem.W.fnOf "many" "Keeper.many" (defArgs s_Z8) (defBody s_Z8) (defScope s_Z8) .none kV doc pm an cdv ct) ⟨us, []⟩ = pure ((["self", "place"] : List Str).zip us) := match us, hl with | [_, _], _ => rfl
abbrev s_Z0 : Stmt := inClass (top 38) 12
theorem sc_Z0 : FnScope ["self", "place", "k", "many"] ["self", "place", "k"] (defScope s_Z0) := ⟨rfl, rfl, rfl, by decide +kernel, rfl, by decide +kernel, by decide +kernel⟩
theorem bi_Z0 (kV doc pm : Value) (an : Option Addr) (cdv ct : Value) (us : List Value) (hl : us.length = ["self", "place", "k"].length) : bindArgs (PySem.W.fnOf "room_cell_of" "Keeper.room_cell_of" (defArgs s_Z0) (defBody s_Z0) (defScope s_Z0) .none kV doc pm an cdv ct) ⟨us, []⟩ = pure ((["self", "place", "k"] : List Str).zip us) := match us, hl with | [_, _, _], _ => rfl
abbrev s_Z11 : Stmt := inClass (top 38) 7
theorem sc_Z11 : FnScope ["self", "place", "k", "number", "cell"] ["self", "place", "k", "number"] (defScope s_Z11) := ⟨rfl, rfl, rfl, by decide +kernel, rfl, by decide +kernel, by decide +kernel⟩
theorem bi_Z11 (kV doc pm : Value) (an : Option Addr) (cdv ct : Value) (us : List Value) (hl : us.length = ["self", "place", "k", "number"].length) : bindArgs (PySem.W.fnOf "put" "Keeper.put" (defArgs s_Z11) (defBody s_Z11) (defScope s_Z11) .none kV doc pm an cdv ct) ⟨us, []⟩ = pure ((["self", "place", "k", "number"] : List Str).zip us) := match us, hl with | [_, _, _, _], _ => rfl
abbrev s_Z9 : Stmt := inClass (top 38) 6
theorem sc_Z9 : FnScope ["self", "place", "k"] ["self", "place", "k"] (defScope s_Z9) := ⟨rfl, rfl, rfl, by decide +kernel, rfl, by decide +kernel, by decide +kernel⟩
theorem bi_Z9 (kV doc pm : Value) (an : Option Addr) (cdv ct : Value) (us : List Value) (hl : us.length = ["self", "place", "k"].length) : bindArgs (PySem.W.fnOf "get" "Keeper.get" (defArgs s_Z9) (defBody s_Z9) (defScope s_Z9) .none kV doc pm an cdv ct) ⟨us, []⟩ = pure ((["self", "place", "k"] : List Str).zip us) := match us, hl with | [_, _, _], _ => rfl
abbrev s_Z33 : Stmt := inClass (top 40) 0
theorem sc_Z33 : FnScope ["self", "count", "bound", "at", "long", "live"] ["self", "count", "bound"] (defScope s_Z33) := ⟨rfl, rfl, rfl, by decide +kernel, rfl, by decide +kernel, by decide +kernel⟩
theorem bi_Z33 (T : Addr) (d1 : Value) (kV doc pm : Value) (an : Option Addr) (cdv ct : Value) (us : List Value) (hl : us.length = ["self", "count", "bound"].length) : ∃ k : Option (Array Value) → Sem (List (Str × Value)), bindArgs (PySem.W.fnOf "ask" "Row.ask" (defArgs s_Z33) (defBody s_Z33) (defScope s_Z33) (.ref T) kV doc pm an cdv ct) ⟨us, []⟩ = seqItems? (.ref T) >>= k ∧ k (some [d1].toArray) = pure ((["self", "count", "bound"] : List Str).zip us) := match us, hl with | [_, _, _], _ => ⟨_, rfl, rfl⟩
theorem bd_Z33 (T : Addr) (d1 : Value) (kV doc pm : Value) (an : Option Addr) (cdv ct : Value) (us : List Value) (hl : (us ++ [d1]).length = ["self", "count", "bound"].length) : ∃ k : Option (Array Value) → Sem (List (Str × Value)), bindArgs (PySem.W.fnOf "ask" "Row.ask" (defArgs s_Z33) (defBody s_Z33) (defScope s_Z33) (.ref T) kV doc pm an cdv ct) ⟨us, []⟩ = seqItems? (.ref T) >>= k ∧ k (some [d1].toArray) = pure ((["self", "count", "bound"] : List Str).zip (us ++ [d1])) := match us, (show us.length = 2 by simpa using hl) with | [_, _], _ => ⟨_, rfl, rfl⟩
abbrev s_Z24 : Stmt := inClass (top 40) 1
theorem sc_Z24 : FnScope ["self", "place"] ["self", "place"] (defScope s_Z24) := ⟨rfl, rfl, rfl, by decide +kernel, rfl, by decide +kernel, by decide +kernel⟩
theorem bi_Z24 (kV doc pm : Value) (an : Option Addr) (cdv ct : Value) (us : List Value) (hl : us.length = ["self", "place"].length) : bindArgs (PySem.W.fnOf "give" "Row.give" (defArgs s_Z24) (defBody s_Z24) (defScope s_Z24) .none kV doc pm an cdv ct) ⟨us, []⟩ = pure ((["self", "place"] : List Str).zip us) := match us, hl with | [_, _], _ => rfl
abbrev s_Z22 : Stmt := inClass (top 40) 2
theorem sc_Z22 : FnScope ["self", "place", "count", "bound"] ["self", "place", "count", "bound"] (defScope s_Z22) := ⟨rfl, rfl, rfl, by decide +kernel, rfl, by decide +kernel, by decide +kernel⟩
theorem bi_Z22 (T : Addr) (d1 : Value) (kV doc pm : Value) (an : Option Addr) (cdv ct : Value) (us : List Value) (hl : us.length = ["self", "place", "count", "bound"].length) : ∃ k : Option (Array Value) → Sem (List (Str × Value)), bindArgs (PySem.W.fnOf "grow" "Row.grow" (defArgs s_Z22) (defBody s_Z22) (defScope s_Z22) (.ref T) kV doc pm an cdv ct) ⟨us, []⟩ = seqItems? (.ref T) >>= k ∧ k (some [d1].toArray) = pure ((["self", "place", "count", "bound"] : List Str).zip us) := match us, hl with | [_, _, _, _], _ => ⟨_, rfl, rfl⟩
theorem bd_Z22 (T : Addr) (d1 : Value) (kV doc pm : Value) (an : Option Addr) (cdv ct : Value) (us : List Value) (hl : (us ++ [d1]).length = ["self", "place", "count", "bound"].length) : ∃ k : Option (Array Value) → Sem (List (Str × Value)), bindArgs (PySem.W.fnOf "grow" "Row.grow" (defArgs s_Z22) (defBody s_Z22) (defScope s_Z22) (.ref T) kV doc pm an cdv ct) ⟨us, []⟩ = seqItems? (.ref T) >>= k ∧ k (some [d1].toArray) = pure ((["self", "place", "count", "bound"] : List Str).zip (us ++ [d1])) := match us, (show us.length = 3 by simpa using hl) with | [_, _, _], _ => ⟨_, rfl, rfl⟩
structure Txt (K : PySem.W.Frag) (mg : Str → Option Value) (Y0 Y10 Y12 Y5 Y8 Y1 Y4 Y7 Y14 Y3 Y11 Y2 Y9 Y13 Y6 Y15 : Addr) (W0_ : Tok) (W1_ : Tok) : Prop where
 n_ValueError : mg "ValueError" = none
 n_bool : mg "bool" = none
 n_int : mg "int" = none
 n_isinstance : mg "isinstance" = none
 n_len : mg "len" = none
 n_list : mg "list" = none
 n_sum : mg "sum" = none
 n_tuple : mg "tuple" = none
 g_LEAST_LIVE : mg "LEAST_LIVE" = some (.int 3 W0_)
 g_MARKS : mg "MARKS" = some (.int 2 W1_)
 c_StowError : mg "StowError" = some (.ref Y0)
 c_NoName : mg "NoName" = some (.ref Y10)
 c_NoSize : mg "NoSize" = some (.ref Y12)
 c_Broken : mg "Broken" = some (.ref Y5)
 c_NoGive : mg "NoGive" = some (.ref Y8)
 c_NoHandle : mg "NoHandle" = some (.ref Y1)
 c_NoPiece : mg "NoPiece" = some (.ref Y4)
 c_NoCell : mg "NoCell" = some (.ref Y7)
 c_NoAsk : mg "NoAsk" = some (.ref Y14)
 c_NoBound : mg "NoBound" = some (.ref Y3)
 c_NoRoom : mg "NoRoom" = some (.ref Y11)
 c_BadLine : mg "BadLine" = some (.ref Y2)
 c_NoLine : mg "NoLine" = some (.ref Y9)
 c_NoTurn : mg "NoTurn" = some (.ref Y13)
 c_Keeper : mg "Keeper" = some (.ref Y6)
 c_Row : mg "Row" = some (.ref Y15)
 s_Broken : XSet K Y5 "cell"
 x_NoSize : XCls K mg "NoSize" Y12
 x_NoPiece : XCls K mg "NoPiece" Y4
 x_NoRoom : XCls K mg "NoRoom" Y11
 x_NoGive : XCls K mg "NoGive" Y8
 cl_Row : Cls K Y15
 na_Row_room_cells : NoAttr K Y15 "room_cells"
 f_NoRoom_NoRoom : Fits K Y11 Y11 true
 f_NoGive_StowError : Fits K Y8 Y0 true
 z_NoGive : XK0 K Y8
 i_NoGive_NoGive : PySem.W.kitOne K (.ref Y8) (.ref Y8) = some true
 i_NoGive_ValueError : PySem.W.kitOne K (.ref Y8) (.type "ValueError") = some true
 i_NoGive_NoAsk : PySem.W.kitOne K (.ref Y8) (.ref Y14) = some false
 i_NoGive_NoBound : PySem.W.kitOne K (.ref Y8) (.ref Y3) = some false
 i_NoGive_NoCell : PySem.W.kitOne K (.ref Y8) (.ref Y7) = some false
 i_NoGive_NoRoom : PySem.W.kitOne K (.ref Y8) (.ref Y11) = some false
 i_NoGive_NoHandle : PySem.W.kitOne K (.ref Y8) (.ref Y1) = some false
 i_NoGive_NoName : PySem.W.kitOne K (.ref Y8) (.ref Y10) = some false
 i_NoGive_NoPiece : PySem.W.kitOne K (.ref Y8) (.ref Y4) = some false
 i_NoGive_NoSize : PySem.W.kitOne K (.ref Y8) (.ref Y12) = some false
 i_NoGive_Broken : PySem.W.kitOne K (.ref Y8) (.ref Y5) = some false
 i_NoGive_BadLine : PySem.W.kitOne K (.ref Y8) (.ref Y2) = some false
 i_NoGive_NoLine : PySem.W.kitOne K (.ref Y8) (.ref Y9) = some false
 i_NoGive_NoTurn : PySem.W.kitOne K (.ref Y8) (.ref Y13) = some false
def spMark : Sp := fun vs H Q _ => ∃ (n : Int) (v : Bool), vs = [.int n, .bl v] ∧ n.natAbs < 2 ^ 220 ∧ Q (.int (n * 2 + if v then 1 else 0)) H
section
variable {P : Program} {w : World} {base : Heap} {K : PySem.W.Frag} {mg : Str → Option Value} {Y0 Y10 Y12 Y5 Y8 Y1 Y4 Y7 Y14 Y3 Y11 Y2 Y9 Y13 Y6 Y15 : Addr} {W0_ : Tok} {W1_ : Tok}
theorem d_Z30 (S : Src K mg "mark_of" s_Z30) (T : Txt K mg Y0 Y10 Y12 Y5 Y8 Y1 Y4 Y7 Y14 Y3 Y11 Y2 Y9 Y13 Y6 Y15 W0_ W1_)  : Defx P w K mg base "mark_of" 1 ["long", "live"] (spMark) := by
 refine S.okx sc_Z30 bi_Z30 (fun vs H Q E h => by revert h; walk_at "len") (fun f cdv A outer s H vs Q E hr h => ?_)
 refine ⟨_, PSs.nox (pss_cons (ps_if (pt_truth (pv 1) (fun _ => rfl)) (pss_one (ps_ret (pe_op op_or (pe_op op_shlB (pv 0) pe_int) pe_int))) pss_nil) (pss_one (ps_ret (pe_op op_shlB (pv 0) pe_int)))), ?_⟩
 obtain ⟨n, v, rfl, hn, q⟩ := h
 walk_at "go"
 refine r_ifb (fun hv => ?_) (fun hv => ?_)
 · walk_at "go"
   rw [two1, bitOr_one]
   subst hv
   exact q
 · walk_at "go"
   rw [two1]
   subst hv
   rw [if_neg Bool.false_ne_true, Int.add_zero] at q
   exact q
theorem d_Z32 (S : Src K mg "long_of" s_Z32) (T : Txt K mg Y0 Y10 Y12 Y5 Y8 Y1 Y4 Y7 Y14 Y3 Y11 Y2 Y9 Y13 Y6 Y15 W0_ W1_)  : Defx P w K mg base "long_of" 1 ["number"] (spLong) := by
 refine S.okx sc_Z32 bi_Z32 (fun vs H Q E h => by revert h; walk_at "len") (fun f cdv A outer s H vs Q E hr h => ?_)
 refine ⟨_, PSs.nox (pss_one (ps_ret (pe_op op_shr (pv 0) pe_int))), ?_⟩
 obtain ⟨n, rfl, q⟩ := h
 walk_at "go"
 rw [two1]
 exact q
theorem d_Z31 (S : Src K mg "live_of" s_Z31) (T : Txt K mg Y0 Y10 Y12 Y5 Y8 Y1 Y4 Y7 Y14 Y3 Y11 Y2 Y9 Y13 Y6 Y15 W0_ W1_)  : Defx P w K mg base "live_of" 1 ["number"] (spLive) := by
 refine S.okx sc_Z31 bi_Z31 (fun vs H Q E h => by revert h; walk_at "len") (fun f cdv A outer s H vs Q E hr h => ?_)
 refine ⟨_, PSs.nox (pss_one (ps_ret (pe_cmpR op_eq (pe_op op_and (pv 0) pe_int) pe_int (nomark _)))), ?_⟩
 obtain ⟨n, rfl, q⟩ := h
 walk_at "go"
 rw [live_eq2]
 exact q
theorem d_Z19 (S : Src K mg "can_begin" s_Z19) (T : Txt K mg Y0 Y10 Y12 Y5 Y8 Y1 Y4 Y7 Y14 Y3 Y11 Y2 Y9 Y13 Y6 Y15 W0_ W1_) (D_Z32 : Defx P w K mg base "long_of" 1 ["number"] (spLong)) (D_Z31 : Defx P w K mg base "live_of" 1 ["number"] (spLive)) : Defx P w K mg base "can_begin" 2 ["cells", "at"] (spCan K) := by
 refine S.okx sc_Z19 bi_Z19 (fun vs H Q E h => by revert h; walk_at "len") (fun f cdv A outer s H vs Q E hr h => ?_)
 refine ⟨_, PSs.nox (pss_cons (ps_set (i := 2) sc_Z19.nd rfl (Or.inl rfl) (pe_defq D_Z32 hr (by rfl) (pa_cons (pe_ix ix_list (pv 0) (pv 1) (fun _ _ => rfl)) pa_nil))) (pss_cons (ps_if (PW.pt (pw_or (pt_cmpR op_lt (pv 2) pe_int (nomark _)) (pw_or1 (pt_cmpR op_gt (pe_op op_add (pv 1) (pv 2)) (pe_callB call_len_seq (by rfl) T.n_len PySem.boot_len (pa_cons (pv 0) pa_nil)) (nomark _))))) (pss_one (ps_ret pe_bl)) pss_nil) (pss_one (ps_ret (pe_or (pe_cmpR op_ge (pv 2) (pe_glob (v := .int 3) (by rfl) T.g_LEAST_LIVE ⟨_, rfl⟩) (nomark _)) (pe_one (pe_not (pe_defq D_Z31 hr (by rfl) (pa_cons (pe_ix ix_list (pv 0) (pv 1) (fun _ _ => rfl)) pa_nil))))))))), ?_⟩
 obtain ⟨a, ns, k, rfl, hS, h0, h1, q⟩ := h
 have q' : ∀ c, canBegin ns k = c → Q (.bl c) H := fun c e => e ▸ q
 walk_at "go"
 refine r_ifd (fun hc => ?_) (fun hc => ?_)
 · walk_at "go"
   exact q' false (by unfold canBegin; rw [if_pos (Or.inl hc)])
 · walk_at "go"
   refine r_ifd (fun hd => ?_) (fun hd => ?_)
   · walk_at "go"
     exact q' false (by unfold canBegin; rw [if_pos (Or.inr hd)])
   · walk_at "go"
     have ec : canBegin ns k = (decide (3 ≤ ns.getD k.toNat 0 / 2) || !decide (ns.getD k.toNat 0 % 2 = 1)) := by
       unfold canBegin
       rw [if_neg (by omega)]
     refine r_ifb (fun he => ?_) (fun he => ?_)
     · walk_at "go"
       exact q' true (by rw [ec, he, Bool.true_or])
     · walk_at "go"
       exact q' _ (by rw [ec, he, Bool.false_or])
theorem d_Z7 (S : Src K mg "bad_of_piece" s_Z7) (T : Txt K mg Y0 Y10 Y12 Y5 Y8 Y1 Y4 Y7 Y14 Y3 Y11 Y2 Y9 Y13 Y6 Y15 W0_ W1_) (D_Z32 : Defx P w K mg base "long_of" 1 ["number"] (spLong)) (D_Z19 : Defx P w K mg base "can_begin" 2 ["cells", "at"] (spCan K)) : Defx P w K mg base "bad_of_piece" 3 ["cells", "at"] (spBad K) := by
 refine S.okx sc_Z7 bi_Z7 (fun vs H Q E h => by revert h; walk_at "len") (fun f cdv A outer s H vs Q E hr h => ?_)
 refine ⟨_, PSs.nox (pss_cons (ps_if (pt_not (pt_val (pe_defq D_Z19 hr (by rfl) (pa_cons (pv 0) (pa_cons (pv 1) pa_nil))))) (pss_one (ps_ret (pv 1))) pss_nil) (pss_cons (ps_set (i := 2) sc_Z7.nd rfl (Or.inl rfl) (pe_op op_sub (pe_op op_add (pv 1) (pe_defq D_Z32 hr (by rfl) (pa_cons (pe_ix ix_list (pv 0) (pv 1) (fun _ _ => rfl)) pa_nil))) pe_int)) (pss_cons (ps_if (pt_cmpR op_ne (pe_ix ix_list (pv 0) (pv 2) (fun _ _ => rfl)) (pe_ix ix_list (pv 0) (pv 1) (fun _ _ => rfl)) (nomark _)) (pss_one (ps_ret (pv 2))) pss_nil) (pss_one (ps_ret pe_non))))), ?_⟩
 obtain ⟨a, ns, k, rfl, hS, h0, h1, q⟩ := h
 have q' : ∀ c, badOf ns k = c → Q (optV c) H := fun c e => e ▸ q
 walk_at "go"
 refine r_ifb (fun hc => ?_) (fun hc => ?_)
 · obtain ⟨b1, b2, _⟩ := (canBegin_iff ns k).mp hc
   walk_at "go"
   refine r_ifd (fun hd => ?_) (fun hd => ?_)
   · walk_at "go"
     exact q' none (bad_well hc hd)
   · walk_at "go"
     exact q' (some _) (bad_last hc hd)
 · walk_at "go"
   exact q' (some k) (bad_no hc)
theorem d_Broken {P : Program} {w : World} {base : Heap} {K : PySem.W.Frag} {mg : Str → Option Value} {Y5 Y0 : Addr} {fI : Addr} {fd : FuncData} (F : Fun K "__init__" "Broken.__init__" s_Broken_init fI fd) (XI : XIni K mg "Broken" Y5 Y0 fI) (Z : XSet K Y5 "cell") : DefI P w K mg base "Broken" Y5 Y0 1 ["self", "cell"] (spInit Y5 "cell") := by
 refine ⟨fI, fd, XI, fun_okx F sc_Broken_init (fun vs H Q E h => ?_) (fun cdv A outer s H vs Q E hr h => ?_), F.binds bi_Broken_init⟩
 · obtain ⟨y, v, rfl, _⟩ := h
   rfl
 · obtain ⟨y, v, rfl, hy, q⟩ := h
   exact ⟨_, PSs.nox (pss_one (ps_fldX (pv 0) (pv 1))), _, rfl, _, rfl, y, _, rfl, hy, Z, fun dx hd => q dx hd⟩
def LkW (H : Hp) (a p : Addr) (ns : List Int) (m : Nat) (σ : L2.St) (H' : Hp) : Prop :=
 ∃ (ds : List Pc) (us : List V) (k : Int) (x y : Option V), σ = [some (.ref a), some (.ref p), some (.int k), x, y] ∧ m = (ns.length - k).toNat ∧ 0 ≤ k ∧ k ≤ ns.length ∧ (ds.length : Int) ≤ k ∧ WPre ns ds k ∧ Same H H' ∧ H' p = some (.lst us) ∧ PcsAt H' us ds
theorem d_Z35 (S : Src K mg "looked" s_Z35) (T : Txt K mg Y0 Y10 Y12 Y5 Y8 Y1 Y4 Y7 Y14 Y3 Y11 Y2 Y9 Y13 Y6 Y15 W0_ W1_) (D_Z32 : Defx P w K mg base "long_of" 1 ["number"] (spLong)) (D_Z31 : Defx P w K mg base "live_of" 1 ["number"] (spLive)) (D_Z7 : Defx P w K mg base "bad_of_piece" 3 ["cells", "at"] (spBad K)) (D_Broken : DefI P w K mg base "Broken" Y5 Y0 1 ["self", "cell"] (spInit Y5 "cell")) : Defx P w K mg base "looked" 4 ["cells"] (spLooked K Y5) := by
 refine S.okx sc_Z35 bi_Z35 (fun vs H Q E h => by revert h; walk_at "len") (fun f cdv A outer s H vs Q E hr h => ?_)
 refine ⟨_, (pss_cons (ps_set (i := 1) sc_Z35.nd rfl (Or.inl rfl) (pe_lst pa_nil)) (pss_cons (ps_set (i := 2) sc_Z35.nd rfl (Or.inl rfl) pe_int) (pss_cons (ps_while PassesOwn.leaving (pt_cmpR op_lt (pv 2) (pe_callB call_len_seq (by rfl) T.n_len PySem.boot_len (pa_cons (pv 0) pa_nil)) (nomark _)) (pss_cons (ps_set (i := 3) sc_Z35.nd rfl (Or.inl rfl) (pe_defq D_Z7 hr (by rfl) (pa_cons (pv 0) (pa_cons (pv 2) pa_nil)))) (pss_cons (ps_if (pt_cmpR op_notN (pv 3) pe_non (nomark _)) (pss_one (ps_raiseD D_Broken hr rfl (pa_cons (pv 3) pa_nil))) pss_nil) (pss_cons (ps_set (i := 4) sc_Z35.nd rfl (Or.inl rfl) (pe_defq D_Z32 hr (by rfl) (pa_cons (pe_ix ix_list (pv 0) (pv 2) (fun _ _ => rfl)) pa_nil))) (pss_cons (ps_expr (pe_bm PySem.F.plainAttrs_list PySem.F.slot_list_append PySem.F.type_list_append mt_append (pv 1) (pa_cons (pe_tup (pa_cons (pv 2) (pa_cons (pv 4) (pa_cons (pe_defq D_Z31 hr (by rfl) (pa_cons (pe_ix ix_list (pv 0) (pv 2) (fun _ _ => rfl)) pa_nil)) pa_nil)))) pa_nil))) (pss_one (ps_set (i := 2) sc_Z35.nd rfl (Or.inl rfl) (pe_op op_add (pv 2) (pv 4))))))))) (pss_one (ps_ret (pv 1)))))), ?_⟩
 obtain ⟨a, ns, rfl, hS, hz, qe, q⟩ := h
 walk_at "go"
 intro p hp
 walk_at "go"
 refine ⟨LkW H a p ns, ⟨_, [], [], 0, none, none, rfl, rfl, by omega, by omega, by decide, WPre.nil ns, Same.new hp, upd_same, PcsAt.nil⟩, ?_⟩
 rintro m σ H' ⟨ds, us, k, x, y, rfl, rfl, h0, hkl, hdl, w, s1, hp', pa⟩
 have hul := pa.1
 have hS' : SqL K H' a (ns.map V.int) := s1.seq hS
 walk_at "go"
 refine r_ifd (fun hlt => ?_) (fun hlt => ?_)
 · refine ⟨fun σ' H'' => ∃ m', m' < (ns.length - k).toNat ∧ LkW H a p ns m' σ' H'', fun σ' H'' hw => hw, ?_⟩
   walk_at "go"
   cases hb : badOf ns k with
   | some b =>
     walk_at "go"
     refine r_made (fun dx hd => ?_)
     exact qe b (by rw [w.bad hlt hb]) dx _ (s1.put (s1.free hd)) upd_same
   | none =>
     obtain ⟨b1, b2, b3⟩ := bad_pos hb
     walk_at "go"
     intro t ht
     have hpt : p ≠ t := ne_of_none hp' ht
     walk_at "go"
     obtain ⟨g1, g2⟩ := PcsAt.push (z := pcAt ns k) pa hp' ht
     dsimp only [pcAt] at g1 g2
     refine ⟨_, ?_, ds ++ [pcAt ns k], us ++ [.ref t], k + ns.getD k.toNat 0 / 2, _, _, rfl, rfl, by omega, by omega, ?_, w.step hlt hb, (s1.put (s1.free ht)).put hp, g1, g2⟩
     · omega
     · rw [List.length_append, List.length_singleton]
       omega
 · walk_at "go"
   exact q (by rw [w.fin hlt]) p us H' hp s1 hp' (by rw [w.fin hlt]; exact pa)
def freshI (n : Int) : List Int := laidI (List.replicate n.toNat 0) 0 n false
theorem freshI_len {n : Int} (h : 0 ≤ n) : ((freshI n).length : Int) = n := by
 unfold freshI
 rw [laidI_len, List.length_replicate]
 omega
theorem rep_flat (n : Nat) : (List.replicate n [V.int 0]).flatten = (List.replicate n (0 : Int)).map V.int := by
 induction n with
 | zero => rfl
 | succ n ih => rw [List.replicate_succ, List.flatten_cons, ih, List.replicate_succ, List.map_cons]; rfl
def spFresh (C : Addr) : Sp := fun vs H Q E => ∃ n : Int, vs = [.int n] ∧ n ≤ 4000 ∧ (n < 1 → E (.ref C) none H) ∧ (1 ≤ n → ∀ (p : Addr) (H' : Hp), H p = none → Same H H' → H' p = some (.lst ((freshI n).map V.int)) → Q (.ref p) H')
theorem d_Z14 (S : Src K mg "fresh_room" s_Z14) (T : Txt K mg Y0 Y10 Y12 Y5 Y8 Y1 Y4 Y7 Y14 Y3 Y11 Y2 Y9 Y13 Y6 Y15 W0_ W1_) (D_Z30 : Defx P w K mg base "mark_of" 1 ["long", "live"] (spMark)) : Defx P w K mg base "fresh_room" 2 ["count"] (spFresh Y12) := by
 refine S.okx sc_Z14 bi_Z14 (fun vs H Q E h => by revert h; walk_at "len") (fun f cdv A outer s H vs Q E hr h => ?_)
 refine ⟨_, (pss_cons (ps_if (pt_cmpR op_lt (pv 0) pe_int (nomark _)) (pss_one (ps_raise T.x_NoSize hr.hd rfl (pa_cons pe_str pa_nil))) pss_nil) (pss_cons (ps_set (i := 1) sc_Z14.nd rfl (Or.inl rfl) (pe_op op_rep (pe_lst (pa_cons pe_int pa_nil)) (pv 0))) (pss_cons (ps_asg (pe_defq D_Z30 hr (by rfl) (pa_cons (pv 0) (pa_cons pe_bl pa_nil))) (pg_sub (pv 1) pe_int set_list)) (pss_cons (ps_asg (pe_defq D_Z30 hr (by rfl) (pa_cons (pv 0) (pa_cons pe_bl pa_nil))) (pg_sub (pv 1) (pe_op op_sub (pv 0) pe_int) set_list)) (pss_one (ps_ret (pv 1))))))), ?_⟩
 obtain ⟨n, rfl, h4, qe, q⟩ := h
 walk_at "go"
 refine r_ifd (fun hc => ?_) (fun hc => ?_)
 · walk_at "go"
   exact qe hc
 · have hn : n.natAbs < 2 ^ 220 := Nat.lt_of_le_of_lt (show n.natAbs ≤ 4000 by omega) (by decide)
   walk_at "go"
   intro l hl
   walk_at "go"
   refine ⟨l, n, _, rfl, rfl, upd_same, by omega, by omega, (by show 1 * n.toNat ≤ sizeLine; exact Nat.le_of_lt (small4000 (by omega))), fun p hp => ?_⟩
   rw [rep_flat]
   have np := (Same.new hl).free hp
   have s1 : Same H (upd (upd H l (.lst [.int 0])) p (.lst ((List.replicate n.toNat (0 : Int)).map V.int))) := (Same.new hl).put np
   have e1 : upd (upd H l (.lst [.int 0])) p (.lst ((List.replicate n.toNat (0 : Int)).map V.int)) p = some (.lst ((List.replicate n.toNat (0 : Int)).map V.int)) := upd_same
   generalize upd (upd H l (.lst [.int 0])) p (.lst ((List.replicate n.toNat (0 : Int)).map V.int)) = H1 at s1 e1 ⊢
   have hlr : (List.replicate n.toNat (0 : Int)).length = n.toNat := List.length_replicate
   walk_at "go"
   refine ⟨n, false, rfl, hn, ?_⟩
   walk_at "go"
   refine ⟨n, false, rfl, hn, ?_⟩
   walk_at "go"
   refine q (by omega) p _ np ((s1.put np).put np) ?_
   unfold freshI laidI
   rw [show (0 : Int) + n - 1 = n - 1 by omega]
   exact upd_same
def spLaid (K : PySem.W.Frag) : Sp := fun vs H Q _ => ∃ (a : Addr) (cs : List Int) (k l : Int) (v : Bool), vs = [.ref a, .int k, .int l, .bl v] ∧ SqL K H a (cs.map V.int) ∧ cs.length ≤ 4000 ∧ 0 ≤ k ∧ 1 ≤ l ∧ k + l ≤ cs.length ∧
 ∀ (p : Addr) (H' : Hp), H p = none → Same H H' → H' p = some (.lst ((laidI cs k l v).map V.int)) → Q (.ref p) H'
theorem d_Z44 (S : Src K mg "laid" s_Z44) (T : Txt K mg Y0 Y10 Y12 Y5 Y8 Y1 Y4 Y7 Y14 Y3 Y11 Y2 Y9 Y13 Y6 Y15 W0_ W1_) (D_Z30 : Defx P w K mg base "mark_of" 1 ["long", "live"] (spMark)) : Defx P w K mg base "laid" 2 ["cells", "at", "long", "live"] (spLaid K) := by
 refine S.okx sc_Z44 bi_Z44 (fun vs H Q E h => by revert h; walk_at "len") (fun f cdv A outer s H vs Q E hr h => ?_)
 refine ⟨_, PSs.nox (pss_cons (ps_set (i := 4) sc_Z44.nd rfl (Or.inl rfl) (pe_callTy call_list_of (by rfl) T.n_list PyProof.Rows.boot_list (pa_cons (pv 0) pa_nil))) (pss_cons (ps_asg (pe_defq D_Z30 hr (by rfl) (pa_cons (pv 2) (pa_cons (pv 3) pa_nil))) (pg_sub (pv 4) (pv 1) set_list)) (pss_cons (ps_asg (pe_defq D_Z30 hr (by rfl) (pa_cons (pv 2) (pa_cons (pv 3) pa_nil))) (pg_sub (pv 4) (pe_op op_sub (pe_op op_add (pv 1) (pv 2)) pe_int) set_list)) (pss_one (ps_ret (pv 4)))))), ?_⟩
 obtain ⟨a, cs, k, l, v, rfl, hS, hz, h0, h1, hl, q⟩ := h
 have hn : l.natAbs < 2 ^ 220 := Nat.lt_of_le_of_lt (show l.natAbs ≤ 4000 by omega) (by decide)
 walk_at "go"
 intro p hp
 walk_at "go"
 refine ⟨l, v, rfl, hn, ?_⟩
 walk_at "go"
 refine ⟨l, v, rfl, hn, ?_⟩
 walk_at "go"
 refine q p _ hp (((Same.new hp).put hp).put hp) upd_same
def spLaidFree (K : PySem.W.Frag) : Sp := fun vs H Q _ => ∃ (a : Addr) (cs : List Int) (b e : Int), vs = [.ref a, .int b, .int e] ∧ SqL K H a (cs.map V.int) ∧ cs.length ≤ 4000 ∧ 0 ≤ b ∧ b ≤ e ∧ e ≤ cs.length ∧
 ∀ (p : Addr) (H' : Hp), H p = none → Same H H' → H' p = some (.lst ((lfI cs b e).map V.int)) → Q (.ref p) H'
theorem d_Z17 (S : Src K mg "laid_free" s_Z17) (T : Txt K mg Y0 Y10 Y12 Y5 Y8 Y1 Y4 Y7 Y14 Y3 Y11 Y2 Y9 Y13 Y6 Y15 W0_ W1_) (D_Z44 : Defx P w K mg base "laid" 2 ["cells", "at", "long", "live"] (spLaid K)) : Defx P w K mg base "laid_free" 3 ["cells", "begin", "end"] (spLaidFree K) := by
 refine S.okx sc_Z17 bi_Z17 (fun vs H Q E h => by revert h; walk_at "len") (fun f cdv A outer s H vs Q E hr h => ?_)
 refine ⟨_, PSs.nox (pss_cons (ps_if (pt_cmpR op_eq (pv 1) (pv 2) (nomark _)) (pss_one (ps_ret (pe_callTy call_list_of (by rfl) T.n_list PyProof.Rows.boot_list (pa_cons (pv 0) pa_nil)))) pss_nil) (pss_one (ps_ret (pe_defq D_Z44 hr (by rfl) (pa_cons (pv 0) (pa_cons (pv 1) (pa_cons (pe_op op_sub (pv 2) (pv 1)) (pa_cons pe_bl pa_nil)))))))), ?_⟩
 obtain ⟨a, cs, b, e, rfl, hS, hz, h0, h1, hl, q⟩ := h
 walk_at "go"
 refine r_ifd (fun he => ?_) (fun he => ?_)
 · walk_at "go"
   intro p hp
   walk_at "go"
   refine q p _ hp (Same.new hp) ?_
   unfold lfI
   rw [if_pos he]
   exact upd_same
 · walk_at "go"
   refine ⟨a, cs, b, e - b, false, rfl, hS, hz, h0, by omega, by omega, fun p H' hp s1 g1 => ?_⟩
   walk_at "go"
   refine q p H' hp s1 ?_
   unfold lfI
   rw [if_neg he]
   exact g1
def spPieceAt (K : PySem.W.Frag) (C : Addr) : Sp := fun vs H Q E => ∃ (a : Addr) (cs : List Int) (ps : List Pc) (k : Int), vs = [.ref a, .int k] ∧ SqL K H a (cs.map V.int) ∧ cs.length ≤ 4000 ∧ walkF cs 0 = (ps, none) ∧
 (∀ z ∈ ps, z.a = k → ∀ (t : Addr) (H' : Hp), Same H H' → H' t = some (.tup [.int z.a, .int z.l, .bl z.v]) → Q (.ref t) H') ∧
 ((∀ z ∈ ps, z.a ≠ k) → ∀ (H' : Hp), Same H H' → E (.ref C) none H')
def PaW (f0 f1 : Option V) (H1 : Hp) (ps : List Pc) (k : Int) (i : Nat) (σ : L2.St) (H' : Hp) : Prop := H1 = H' ∧ ∃ x2 : Option V, σ = [f0, f1, x2] ∧ ∀ z ∈ ps.take i, z.a ≠ k
theorem d_Z20 (S : Src K mg "piece_at" s_Z20) (T : Txt K mg Y0 Y10 Y12 Y5 Y8 Y1 Y4 Y7 Y14 Y3 Y11 Y2 Y9 Y13 Y6 Y15 W0_ W1_) (D_Z35 : Defx P w K mg base "looked" 4 ["cells"] (spLooked K Y5)) : Defx P w K mg base "piece_at" 5 ["cells", "at"] (spPieceAt K Y4) := by
 refine S.okx sc_Z20 bi_Z20 (fun vs H Q E h => by revert h; walk_at "len") (fun f cdv A outer s H vs Q E hr h => ?_)
 refine ⟨_, (pss_cons (ps_for PassesOwn.leaving rfl (pi_list (pe_defx D_Z35 hr (by rfl) (pa_cons (pv 0) pa_nil))) (pg_name (i := 2) sc_Z20.nd rfl (Or.inl rfl)) (pss_one (ps_if (pt_cmpR op_eq (pe_ix ix_tup (pv 2) pe_int (fun _ _ => rfl)) (pv 1) (nomark _)) (pss_one (ps_ret (pv 2))) pss_nil))) (pss_one (ps_raise T.x_NoPiece hr.hd rfl (pa_cons pe_str pa_nil)))), ?_⟩
 obtain ⟨a, cs, ps, k, rfl, hS, hz, hw, q, qe⟩ := h
 walk_at "go"
 refine ⟨a, cs, rfl, hS, hz, (fun c hc => by rw [hw] at hc; cases hc), fun _ lp us H1 nlp s1 hlp pa => ?_⟩
 have pa : PcsAt H1 us ps := by rw [hw] at pa; exact pa
 have hul := pa.1
 refine ⟨lp, rfl, ⟨_, SqL.of hlp⟩, for_list (K := K) (a := lp) (xs := us) (PaW (some (.ref a)) (some (.int k)) H1 ps k) ⟨rfl, none, rfl, fun z hz => by cases hz⟩ (fun i σ H2 _ ⟨h, _⟩ => h ▸ SqL.of hlp) ?_ ?_⟩
 · rintro i y σ H2 hi ⟨rfl, x2, rfl, hq⟩
   have hil : i < us.length := (List.getElem?_eq_some_iff.mp hi).1
   have hip : i < ps.length := by omega
   obtain ⟨t, et, hT⟩ := pa.2 i ps[i] (by simp [hip])
   have ey : y = .ref t := Option.some.inj (hi.symm.trans et)
   subst ey
   walk_at "go"
   refine r_ifd (fun hk => ?_) (fun hk => ?_)
   · walk_at "go"
     exact q ps[i] (by simp) hk t _ s1 hT
   · walk_at "go"
     refine ⟨rfl, _, rfl, fun z hz => ?_⟩
     rw [List.take_add_one, List.getElem?_eq_getElem hip] at hz
     rcases List.mem_append.mp hz with h | h
     · exact hq z h
     · have : z = ps[i] := by simpa using h
       rw [this]; exact hk
 · rintro σ H2 ⟨rfl, x2, rfl, hq⟩
   rw [List.take_of_length_le (by omega)] at hq
   walk_at "go"
   exact qe hq _ s1
def spOneAt (K : PySem.W.Frag) (C : Addr) (v : Bool) : Sp := fun vs H Q E => ∃ (a : Addr) (cs : List Int) (ps : List Pc) (k : Int), vs = [.ref a, .int k] ∧ SqL K H a (cs.map V.int) ∧ cs.length ≤ 4000 ∧ walkF cs 0 = (ps, none) ∧ Chain 0 ps cs.length ∧
 (∀ z ∈ ps, z.a = k → z.v = v → ∀ (t : Addr) (H' : Hp), Same H H' → H' t = some (.tup [.int z.a, .int z.l, .bl z.v]) → Q (.ref t) H') ∧
 ((∀ z ∈ ps, z.a = k → z.v ≠ v) → ∀ (H' : Hp), Same H H' → E (.ref C) none H')
theorem d_Z26 (S : Src K mg "live_at" s_Z26) (T : Txt K mg Y0 Y10 Y12 Y5 Y8 Y1 Y4 Y7 Y14 Y3 Y11 Y2 Y9 Y13 Y6 Y15 W0_ W1_) (D_Z20 : Defx P w K mg base "piece_at" 5 ["cells", "at"] (spPieceAt K Y4)) : Defx P w K mg base "live_at" 6 ["cells", "at"] (spOneAt K Y4 true) := by
 refine S.okx sc_Z26 bi_Z26 (fun vs H Q E h => by revert h; walk_at "len") (fun f cdv A outer s H vs Q E hr h => ?_)
 refine ⟨_, (pss_cons (ps_set (i := 2) sc_Z26.nd rfl (Or.inl rfl) (pe_defx D_Z20 hr (by rfl) (pa_cons (pv 0) (pa_cons (pv 1) pa_nil)))) (pss_cons (ps_if (pt_not (pt_truth (pe_ix ix_tup (pv 2) pe_int (fun _ _ => rfl)) (fun _ => rfl))) (pss_one (ps_raise T.x_NoPiece hr.hd rfl (pa_cons pe_str pa_nil))) pss_nil) (pss_one (ps_ret (pv 2))))), ?_⟩
 obtain ⟨a, cs, ps, k, rfl, hS, hz, hw, hc, q, qe⟩ := h
 walk_at "go"
 refine ⟨a, cs, ps, k, rfl, hS, hz, hw, fun z hm hk t H1 s1 ht => ?_, fun hn H1 s1 => qe (fun z hz hk => absurd hk (hn z hz)) _ s1⟩
 walk_at "go"
 refine r_ifb (fun hv => ?_) (fun hv => ?_)
 · walk_at "go"
   exact q z hm hk hv t _ s1 ht
 · walk_at "go"
   refine qe (fun y hy hk2 => ?_) _ s1
   rw [chain_same hc hy hm (by omega), hv]
   exact fun z => nomatch z
theorem d_Z28 (S : Src K mg "free_at" s_Z28) (T : Txt K mg Y0 Y10 Y12 Y5 Y8 Y1 Y4 Y7 Y14 Y3 Y11 Y2 Y9 Y13 Y6 Y15 W0_ W1_) (D_Z20 : Defx P w K mg base "piece_at" 5 ["cells", "at"] (spPieceAt K Y4)) : Defx P w K mg base "free_at" 6 ["cells", "at"] (spOneAt K Y4 false) := by
 refine S.okx sc_Z28 bi_Z28 (fun vs H Q E h => by revert h; walk_at "len") (fun f cdv A outer s H vs Q E hr h => ?_)
 refine ⟨_, (pss_cons (ps_set (i := 2) sc_Z28.nd rfl (Or.inl rfl) (pe_defx D_Z20 hr (by rfl) (pa_cons (pv 0) (pa_cons (pv 1) pa_nil)))) (pss_cons (ps_if (pt_truth (pe_ix ix_tup (pv 2) pe_int (fun _ _ => rfl)) (fun _ => rfl)) (pss_one (ps_raise T.x_NoPiece hr.hd rfl (pa_cons pe_str pa_nil))) pss_nil) (pss_one (ps_ret (pv 2))))), ?_⟩
 obtain ⟨a, cs, ps, k, rfl, hS, hz, hw, hc, q, qe⟩ := h
 walk_at "go"
 refine ⟨a, cs, ps, k, rfl, hS, hz, hw, fun z hm hk t H1 s1 ht => ?_, fun hn H1 s1 => qe (fun z hz hk => absurd hk (hn z hz)) _ s1⟩
 walk_at "go"
 refine r_ifb (fun hv => ?_) (fun hv => ?_)
 · walk_at "go"
   refine qe (fun y hy hk2 => ?_) _ s1
   rw [chain_same hc hy hm (by omega), hv]
   exact fun z => nomatch z
 · walk_at "go"
   exact q z hm hk hv t _ s1 ht
def spCut (K : PySem.W.Frag) (CP CR : Addr) : Sp := fun vs H Q E => ∃ (a : Addr) (cs : List Int) (ps : List Pc) (k s L : Int), vs = [.ref a, .int k, .int s, .int L] ∧ SqL K H a (cs.map V.int) ∧ cs.length ≤ 4000 ∧ Chain 0 ps cs.length ∧ Marks cs ps ∧ 1 ≤ L ∧
 (∀ z ∈ ps, z.a = k → z.v = false → z.a ≤ s → s + L ≤ z.a + z.l → ∀ (p : Addr) (H' : Hp), H p = none → Same H H' → H' p = some (.lst ((cutO cs z.a z.l s L).map V.int)) → Q (.ref p) H') ∧
 (∀ z ∈ ps, z.a = k → z.v = false → ¬ (z.a ≤ s ∧ s + L ≤ z.a + z.l) → ∀ (H' : Hp), Same H H' → E (.ref CR) none H') ∧
 ((∀ z ∈ ps, z.a = k → z.v ≠ false) → ∀ (H' : Hp), Same H H' → E (.ref CP) none H')
theorem d_Z25 (S : Src K mg "cut_out" s_Z25) (T : Txt K mg Y0 Y10 Y12 Y5 Y8 Y1 Y4 Y7 Y14 Y3 Y11 Y2 Y9 Y13 Y6 Y15 W0_ W1_) (D_Z28 : Defx P w K mg base "free_at" 6 ["cells", "at"] (spOneAt K Y4 false)) (D_Z17 : Defx P w K mg base "laid_free" 3 ["cells", "begin", "end"] (spLaidFree K)) (D_Z44 : Defx P w K mg base "laid" 2 ["cells", "at", "long", "live"] (spLaid K)) : Defx P w K mg base "cut_out" 7 ["cells", "at", "place", "long"] (spCut K Y4 Y11) := by
 refine S.okx sc_Z25 bi_Z25 (fun vs H Q E h => by revert h; walk_at "len") (fun f cdv A outer s H vs Q E hr h => ?_)
 refine ⟨_, (pss_cons (ps_asg (pe_defx D_Z28 hr (by rfl) (pa_cons (pv 0) (pa_cons (pv 1) pa_nil))) (pg_tup rfl (pgs_cons (pg_name (i := 4) sc_Z25.nd rfl (Or.inl rfl)) (pgs_cons (pg_name (i := 5) sc_Z25.nd rfl (Or.inl rfl)) (pgs_cons (pg_name (i := 6) sc_Z25.nd rfl (Or.inl rfl)) pgs_nil))))) (pss_cons (ps_set (i := 7) sc_Z25.nd rfl (Or.inl rfl) (pe_op op_add (pv 4) (pv 5))) (pss_cons (ps_if (PW.pt (pw_or (pt_cmpR op_lt (pv 2) (pv 4) (nomark _)) (pw_or1 (pt_cmpR op_gt (pe_op op_add (pv 2) (pv 3)) (pv 7) (nomark _))))) (pss_one (ps_raise T.x_NoRoom hr.hd rfl (pa_cons pe_str pa_nil))) pss_nil) (pss_cons (ps_set (i := 8) sc_Z25.nd rfl (Or.inl rfl) (pe_defq D_Z17 hr (by rfl) (pa_cons (pv 0) (pa_cons (pv 4) (pa_cons (pv 2) pa_nil))))) (pss_cons (ps_set (i := 8) sc_Z25.nd rfl (Or.inl rfl) (pe_defq D_Z44 hr (by rfl) (pa_cons (pv 8) (pa_cons (pv 2) (pa_cons (pv 3) (pa_cons pe_bl pa_nil)))))) (pss_one (ps_ret (pe_defq D_Z17 hr (by rfl) (pa_cons (pv 8) (pa_cons (pe_op op_add (pv 2) (pv 3)) (pa_cons (pv 7) pa_nil))))))))))), ?_⟩
 obtain ⟨a, cs, ps, k, s, L, rfl, hS, hz, hc, mk, hL, q, qr, qe⟩ := h
 have hw := walk_of_marks hc mk
 walk_at "go"
 refine ⟨a, cs, ps, k, rfl, hS, by omega, hw, hc, fun z hm hk hv t H1 s1 ht => ?_, fun hn H1 s1 => qe hn _ s1⟩
 obtain ⟨z0, z1, _, z4⟩ := hc.mem z hm
 walk_at "go"
 refine r_ifd (fun h1 => ?_) (fun h1 => ?_)
 · walk_at "go"
   exact qr z hm hk hv (by omega) _ s1
 · walk_at "go"
   refine r_ifd (fun h2 => ?_) (fun h2 => ?_)
   · walk_at "go"
     exact qr z hm hk hv (by omega) _ s1
   · walk_at "go"
     refine ⟨a, cs, z.a, s, rfl, s1.seq hS, hz, z0, by omega, by omega, fun p2 H2 n2 s2 g2 => ?_⟩
     walk_at "go"
     refine ⟨p2, lfI cs z.a s, s, L, true, rfl, SqL.of g2, by rw [lfI_len]; exact hz, by omega, hL, by rw [lfI_len]; omega, fun p3 H3 n3 s3 g3 => ?_⟩
     walk_at "go"
     refine ⟨p3, laidI (lfI cs z.a s) s L true, s + L, z.a + z.l, rfl, SqL.of g3, by rw [laidI_len, lfI_len]; exact hz, by omega, by omega, by rw [laidI_len, lfI_len]; omega, fun p4 H4 n4 s4 g4 => ?_⟩
     walk_at "go"
     have s13 := (s1.trans s2).trans s3
     exact q z hm hk hv (by omega) (by omega) p4 H4 (s13.free n4) (s13.trans s4) g4
def spCheck : Sp := fun vs H Q _ => ∃ c b : Int, vs = [.int c, .int b] ∧ 1 ≤ c ∧ 1 ≤ b ∧ Q .non H
theorem d_Z18 (S : Src K mg "check_ask" s_Z18) (T : Txt K mg Y0 Y10 Y12 Y5 Y8 Y1 Y4 Y7 Y14 Y3 Y11 Y2 Y9 Y13 Y6 Y15 W0_ W1_)  : Defx P w K mg base "check_ask" 1 ["count", "bound"] (spCheck) := by
 refine S.okx sc_Z18 bi_Z18 (fun vs H Q E h => by revert h; walk_at "len") (fun f cdv A outer s H vs Q E hr h => ?_)
 refine ⟨_, PSs.nox (pss_one (ps_if (PW.pt (pw_or (pt_cmpR op_lt (pv 0) pe_int (nomark _)) (pw_or1 (pt_cmpR op_lt (pv 1) pe_int (nomark _))))) (pss_one ps_never) pss_nil)), ?_⟩
 obtain ⟨c, b, rfl, h1, h2, q⟩ := h
 walk_at "go"
 exact q
def spCheckP : Sp := fun vs H Q _ => ∃ c : Int, vs = [.int c, .int 1] ∧ 1 ≤ c ∧ Q .non H
theorem d_Z2 (S : Src K mg "check_plain_ask" s_Z2) (T : Txt K mg Y0 Y10 Y12 Y5 Y8 Y1 Y4 Y7 Y14 Y3 Y11 Y2 Y9 Y13 Y6 Y15 W0_ W1_) (D_Z18 : Defx P w K mg base "check_ask" 1 ["count", "bound"] (spCheck)) : Defx P w K mg base "check_plain_ask" 2 ["count", "bound"] (spCheckP) := by
 refine S.okx sc_Z2 bi_Z2 (fun vs H Q E h => by revert h; walk_at "len") (fun f cdv A outer s H vs Q E hr h => ?_)
 refine ⟨_, PSs.nox (pss_cons (ps_expr (pe_defq D_Z18 hr (by rfl) (pa_cons (pv 0) (pa_cons (pv 1) pa_nil)))) (pss_one (ps_if (pt_cmpR op_ne (pv 1) pe_int (nomark _)) (pss_one ps_never) pss_nil))), ?_⟩
 obtain ⟨c, rfl, h1, q⟩ := h
 walk_at "go"
 refine ⟨c, 1, rfl, h1, by decide, ?_⟩
 walk_at "go"
 exact q
/-! ### the object: its cells -/
structure RoS (C x dx a : Addr) (cs : List Int) (ps : List Pc) (H : Hp) : Prop where
 hx : H x = some (.ins C dx [("room_cells", .ref a)])
 ha : H a = some (.lst (cs.map V.int))
 hz : cs.length ≤ 1200
 hc : Chain 0 ps cs.length
 mm : Marks cs ps
theorem RoS.same {C x dx a : Addr} {cs : List Int} {ps : List Pc} {H H' : Hp} (S : RoS C x dx a cs ps H) (s : Same H H') : RoS C x dx a cs ps H' := ⟨s x _ S.hx, s a _ S.ha, S.hz, S.hc, S.mm⟩
def spMk (C : Addr) : Sp := fun vs H Q _ => ∃ (x dx : Addr) (n : Int), vs = [.ref x, .int n] ∧ H x = some (.ins C dx []) ∧ 1 ≤ n ∧ n ≤ 4000 ∧
 ∀ (a : Addr) (H' : Hp), H a = none → KeepX x H H' → H' x = some (.ins C dx [("room_cells", .ref a)]) → H' a = some (.lst ((freshI n).map V.int)) → Q .non H'
def spBegin (K : PySem.W.Frag) (C : Addr) : Sp := fun vs H Q _ => ∃ (x h dx a : Addr) (cs : List Int), vs = [.ref x, .ref h] ∧ H x = some (.ins C dx [("room_cells", .ref a)]) ∧ SqL K H h (cs.map V.int) ∧
 ∀ (a' : Addr) (H' : Hp), H a' = none → KeepX x H H' → H' x = some (.ins C dx [("room_cells", .ref a')]) → H' a' = some (.lst (cs.map V.int)) → Q .non H'
def spLay (K : PySem.W.Frag) (C : Addr) : Sp := fun vs H Q _ => ∃ (x h dx a : Addr) (cs0 cs : List Int) (ps : List Pc), vs = [.ref x, .ref h] ∧ H x = some (.ins C dx [("room_cells", .ref a)]) ∧ H a = some (.lst (cs0.map V.int)) ∧ cs.length = cs0.length ∧ SqL K H h (cs.map V.int) ∧ cs.length ≤ 4000 ∧ walkF cs 0 = (ps, none) ∧
 ∀ (a' : Addr) (H' : Hp), H a' = none → KeepX x H H' → H' x = some (.ins C dx [("room_cells", .ref a')]) → H' a' = some (.lst (cs.map V.int)) → Q .non H'
def spPiecesK (C : Addr) : Sp := fun vs H Q _ => ∃ (x dx a : Addr) (cs : List Int) (ps : List Pc), vs = [.ref x] ∧ RoS C x dx a cs ps H ∧
 ∀ (p : Addr) (us : List V) (H' : Hp), H p = none → Same H H' → H' p = some (.lst us) → PcsAt H' us ps → Q (.ref p) H'
def spCellsK (C : Addr) : Sp := fun vs H Q _ => ∃ (x dx a : Addr) (cs : List Int), vs = [.ref x] ∧ H x = some (.ins C dx [("room_cells", .ref a)]) ∧ H a = some (.lst (cs.map V.int)) ∧
 ∀ (p : Addr) (H' : Hp), H p = none → Same H H' → H' p = some (.lst (cs.map V.int)) → Q (.ref p) H'
theorem d_Row {f₀ : Addr} {fd₀ : FuncData} (F : Fun K "__init__" "Keeper.__init__" s_Keeper_init f₀ fd₀) (M : Mk K Y15 f₀) (T : Txt K mg Y0 Y10 Y12 Y5 Y8 Y1 Y4 Y7 Y14 Y3 Y11 Y2 Y9 Y13 Y6 Y15 W0_ W1_) (D_Z14 : Defx P w K mg base "fresh_room" 2 ["count"] (spFresh Y12)) : Makex P w K mg base "Row" Y15 3 ["self", "size"] [] (spMk Y15) := by
 refine ⟨⟨f₀, fd₀, [], fun_okx F sc_Keeper_init (fun vs H Q E h => by revert h; walk_at "len") (fun cdv A outer s H vs Q E hr h => ?_), M, F.binds bi_Keeper_init, .nil⟩, T.c_Row⟩
 refine ⟨_, PSs.nox (pss_one (ps_fld (pv 0) (pe_defq D_Z14 hr (by rfl) (pa_cons (pv 1) pa_nil)) rfl)), ?_⟩
 obtain ⟨x, dx, n, rfl, hx, h1, h4, q⟩ := h
 have cl := T.cl_Row
 have na := T.na_Row_room_cells
 walk_at "go"
 refine ⟨n, rfl, h4, fun z => absurd z (by omega), fun _ p H1 np s1 hp => ?_⟩
 have hx1 := s1 x _ hx
 have hne : p ≠ x := fun z => by rw [z, hx] at np; cases np
 walk_at "go"
 exact q p _ np (KeepX.of s1).put upd_same (look_ne hne hp)
theorem d_Z12 {f₀ : Addr} {fd₀ : FuncData} (F : Fun K "room_begin" "Keeper.room_begin" s_Z1 f₀ fd₀) (M : Meth K Y15 "room_begin" f₀) (T : Txt K mg Y0 Y10 Y12 Y5 Y8 Y1 Y4 Y7 Y14 Y3 Y11 Y2 Y9 Y13 Y6 Y15 W0_ W1_)  : Methx P w K mg base Y15 "room_begin" 1 ["self", "cells"] [] (spBegin K Y15) := by
 refine ⟨⟨f₀, fd₀, [], fun_okx F sc_Z1 (fun vs H Q E h => by revert h; walk_at "len") (fun cdv A outer s H vs Q E hr h => ?_), M, F.binds bi_Z1, .nil⟩, T.cl_Row⟩
 refine ⟨_, PSs.nox (pss_one (ps_fld (pv 0) (pe_callTy call_list_of (by rfl) T.n_list PyProof.Rows.boot_list (pa_cons (pv 1) pa_nil)) rfl)), ?_⟩
 obtain ⟨x, h, dx, a, cs, rfl, hx, hS, q⟩ := h
 have cl := T.cl_Row
 have na := T.na_Row_room_cells
 walk_at "go"
 intro p np
 have s1 : Same H (upd H p (.lst (cs.map V.int))) := Same.new np
 have hx1 := s1 x _ hx
 have hp : upd H p (.lst (cs.map V.int)) p = some (.lst (cs.map V.int)) := upd_same
 have hne : p ≠ x := fun z => by rw [z, hx] at np; cases np
 generalize upd H p (.lst (cs.map V.int)) = H1 at s1 hx1 hp ⊢
 walk_at "go"
 exact q p _ np (KeepX.of s1).put upd_same (look_ne hne hp)
theorem d_lay {f₀ : Addr} {fd₀ : FuncData} (F : Fun K "lay" "Keeper.lay" s_Z13 f₀ fd₀) (M : Meth K Y15 "lay" f₀) (T : Txt K mg Y0 Y10 Y12 Y5 Y8 Y1 Y4 Y7 Y14 Y3 Y11 Y2 Y9 Y13 Y6 Y15 W0_ W1_) (D_Z35 : Defx P w K mg base "looked" 4 ["cells"] (spLooked K Y5)) (D_Z12 : Methx P w K mg base Y15 "room_begin" 1 ["self", "cells"] [] (spBegin K Y15)) : Methx P w K mg base Y15 "lay" 5 ["self", "cells"] [] (spLay K Y15) := by
 refine ⟨⟨f₀, fd₀, [], fun_okx F sc_Z13 (fun vs H Q E h => by revert h; walk_at "len") (fun cdv A outer s H vs Q E hr h => ?_), M, F.binds bi_Z13, .nil⟩, T.cl_Row⟩
 refine ⟨_, PSs.nox (pss_cons (ps_if (pt_cmpR op_ne (pe_callB call_len_seq (by rfl) T.n_len PySem.boot_len (pa_cons (pv 1) pa_nil)) (pe_callB call_len_seq (by rfl) T.n_len PySem.boot_len (pa_cons (pe_fld (pv 0) rfl) pa_nil)) (nomark _)) (pss_one ps_never) pss_nil) (pss_cons (ps_expr (pe_defq D_Z35 hr (by rfl) (pa_cons (pv 1) pa_nil))) (pss_one (ps_expr (pe_methp D_Z12 pass_e0 hr (pv 0) (pa_cons (pv 1) pa_nil)))))), ?_⟩
 obtain ⟨x, h, dx, a, cs0, cs, ps, rfl, hx, ha, hl, hS, hz, hw, q⟩ := h
 have cl := T.cl_Row
 have na := T.na_Row_room_cells
 walk_at "go"
 refine ⟨h, cs, rfl, hS, hz, (fun c hc => by rw [hw] at hc; cases hc), fun _ lp us H1 nlp s1 hlp pa => ?_⟩
 have hx1 := s1 x _ hx
 walk_at "go"
 refine ⟨x, h, dx, a, cs, rfl, hx1, s1.seq hS, fun a' H2 na2 k2 hx2 ha2 => ?_⟩
 walk_at "go"
 exact q a' H2 (s1.free na2) ((KeepX.of s1).trans k2) hx2 ha2
theorem d_Z39 {f₀ : Addr} {fd₀ : FuncData} (F : Fun K "pieces" "Keeper.pieces" s_Z3 f₀ fd₀) (M : Meth K Y15 "pieces" f₀) (T : Txt K mg Y0 Y10 Y12 Y5 Y8 Y1 Y4 Y7 Y14 Y3 Y11 Y2 Y9 Y13 Y6 Y15 W0_ W1_) (D_Z35 : Defx P w K mg base "looked" 4 ["cells"] (spLooked K Y5)) : Methx P w K mg base Y15 "pieces" 5 ["self"] [] (spPiecesK Y15) := by
 refine ⟨⟨f₀, fd₀, [], fun_okx F sc_Z3 (fun vs H Q E h => by revert h; walk_at "len") (fun cdv A outer s H vs Q E hr h => ?_), M, F.binds bi_Z3, .nil⟩, T.cl_Row⟩
 refine ⟨_, PSs.nox (pss_one (ps_ret (pe_defq D_Z35 hr (by rfl) (pa_cons (pe_fld (pv 0) rfl) pa_nil)))), ?_⟩
 obtain ⟨x, dx, a, cs, ps, rfl, ⟨hx, ha, hz, hc, mk⟩, q⟩ := h
 have cl := T.cl_Row
 have na := T.na_Row_room_cells
 have hw := walk_of_marks hc mk
 walk_at "go"
 refine ⟨a, cs, rfl, SqL.of ha, by omega, (fun c hc => by rw [hw] at hc; cases hc), fun _ lp us H1 nlp s1 hlp pa => ?_⟩
 walk_at "go"
 exact q lp us H1 nlp s1 hlp (by rw [hw] at pa; exact pa)
theorem d_Z40 {f₀ : Addr} {fd₀ : FuncData} (F : Fun K "cells" "Keeper.cells" s_Z4 f₀ fd₀) (M : Meth K Y15 "cells" f₀) (T : Txt K mg Y0 Y10 Y12 Y5 Y8 Y1 Y4 Y7 Y14 Y3 Y11 Y2 Y9 Y13 Y6 Y15 W0_ W1_)  : Methx P w K mg base Y15 "cells" 1 ["self"] [] (spCellsK Y15) := by
 refine ⟨⟨f₀, fd₀, [], fun_okx F sc_Z4 (fun vs H Q E h => by revert h; walk_at "len") (fun cdv A outer s H vs Q E hr h => ?_), M, F.binds bi_Z4, .nil⟩, T.cl_Row⟩
 refine ⟨_, PSs.nox (pss_one (ps_ret (pe_callTy call_list_of (by rfl) T.n_list PyProof.Rows.boot_list (pa_cons (pe_fld (pv 0) rfl) pa_nil)))), ?_⟩
 obtain ⟨x, dx, a, cs, rfl, hx, ha, q⟩ := h
 have cl := T.cl_Row
 have na := T.na_Row_room_cells
 walk_at "go"
 intro p np
 walk_at "go"
 exact q p _ np (Same.new np) upd_same
theorem fresh_marks {n : Int} (h : 1 ≤ n) : Chain 0 [⟨0, n, false⟩] ((freshI n).length : Int) ∧ Marks (freshI n) [⟨0, n, false⟩] := by
 have hl := freshI_len (show 0 ≤ n by omega)
 refine ⟨⟨rfl, h, (fun h => by cases h), ?_⟩, fun p hp => ?_⟩
 · show (0 : Int) + n = _
   rw [hl]; omega
 · rw [List.mem_singleton.mp hp]
   unfold freshI at hl ⊢
   rw [laidI_len] at hl
   exact ⟨laidI_first (Int.le_refl 0) h (by omega), laidI_last (Int.le_refl 0) h (by omega)⟩
theorem rowP_nil {n : Int} (h : 1 ≤ n) : rwP [] n = [⟨0, n, false⟩] := by
 rw [rowP_free (show sumI [] < n from h)]
 show [(⟨0, n - 0, false⟩ : Pc)] = _
 rw [Int.sub_zero]
def spClear (C : Addr) : Sp := fun vs H Q _ => ∃ (x dx a : Addr) (cs : List Int), vs = [.ref x] ∧ H x = some (.ins C dx [("room_cells", .ref a)]) ∧ H a = some (.lst (cs.map V.int)) ∧ 1 ≤ cs.length ∧ cs.length ≤ 1200 ∧
 ∀ (a' : Addr) (cs' : List Int) (H' : Hp), H a' = none → KeepX x H H' → cs'.length = cs.length → RoS C x dx a' cs' (rwP [] cs.length) H' → Q .non H'
theorem d_Z41 {f₀ : Addr} {fd₀ : FuncData} (F : Fun K "clear" "Keeper.clear" s_Z5 f₀ fd₀) (M : Meth K Y15 "clear" f₀) (T : Txt K mg Y0 Y10 Y12 Y5 Y8 Y1 Y4 Y7 Y14 Y3 Y11 Y2 Y9 Y13 Y6 Y15 W0_ W1_) (D_Z14 : Defx P w K mg base "fresh_room" 2 ["count"] (spFresh Y12)) (D_Z12 : Methx P w K mg base Y15 "room_begin" 1 ["self", "cells"] [] (spBegin K Y15)) : Methx P w K mg base Y15 "clear" 3 ["self"] [] (spClear Y15) := by
 refine ⟨⟨f₀, fd₀, [], fun_okx F sc_Z5 (fun vs H Q E h => by revert h; walk_at "len") (fun cdv A outer s H vs Q E hr h => ?_), M, F.binds bi_Z5, .nil⟩, T.cl_Row⟩
 refine ⟨_, PSs.nox (pss_one (ps_expr (pe_methp D_Z12 pass_e0 hr (pv 0) (pa_cons (pe_defq D_Z14 hr (by rfl) (pa_cons (pe_callB call_len_seq (by rfl) T.n_len PySem.boot_len (pa_cons (pe_fld (pv 0) rfl) pa_nil)) pa_nil)) pa_nil)))), ?_⟩
 obtain ⟨x, dx, a, cs, rfl, hx, ha, h1, hz, q⟩ := h
 have cl := T.cl_Row
 have na := T.na_Row_room_cells
 walk_at "go"
 refine ⟨(cs.length : Int), rfl, by omega, fun z => absurd z (by omega), fun _ p H1 np s1 hp => ?_⟩
 have hx1 := s1 x _ hx
 obtain ⟨f1, f2⟩ := fresh_marks (n := (cs.length : Int)) (by omega)
 have fl := freshI_len (show (0 : Int) ≤ cs.length by omega)
 walk_at "go"
 refine ⟨x, p, dx, a, freshI cs.length, rfl, hx1, SqL.of hp, fun a' H2 na2 k2 hx2 ha2 => ?_⟩
 walk_at "go"
 have e := rowP_nil (n := (cs.length : Int)) (by omega)
 exact q a' _ H2 (s1.free na2) ((KeepX.of s1).trans k2) (Int.ofNat.inj fl) ⟨hx2, ha2, by omega, by rw [e]; exact f1, by rw [e]; exact f2⟩
theorem marks_putk {cs : List Int} {ps : List Pc} {z : Pc} {n x k : Int} (c : Chain 0 ps n) (m : Marks cs ps) (hz : z ∈ ps) (hv : z.v = true) (k0 : 0 ≤ k) (k1 : k < z.l - 2) : Marks (cs.set (z.a + 1 + k).toNat x) ps := fun p hp => by
 obtain ⟨z0, z1, z3, z4⟩ := c.mem z hz
 obtain ⟨p0, p1, p3, p4⟩ := c.mem p hp
 obtain ⟨m1, m2⟩ := m p hp
 have far : p.a ≠ z.a + 1 + k ∧ p.a + p.l - 1 ≠ z.a + 1 + k := by
   by_cases e : p = z
   · subst e; omega
   · constructor
     · intro h
       exact e (chain_meet c hp hz (Int.le_refl _) (by omega) (by omega) (by omega))
     · intro h
       exact e (chain_meet c hp hz (p := p.a + p.l - 1) (by omega) (by omega) (by omega) (by omega))
 exact ⟨by rw [List.getElem?_set_ne (by omega)]; exact m1, by rw [List.getElem?_set_ne (by omega)]; exact m2⟩
def spMany (C : Addr) : Sp := fun vs H Q _ => ∃ (x dx a : Addr) (cs : List Int) (ps : List Pc) (z : Pc), vs = [.ref x, .int (z.a + 1)] ∧ RoS C x dx a cs ps H ∧ z ∈ ps ∧ z.v = true ∧
 ∀ (H' : Hp), Same H H' → Q (.int (z.l - 2)) H'
theorem d_Z45 {f₀ : Addr} {fd₀ : FuncData} (F : Fun K "many" "Keeper.many" s_Z8 f₀ fd₀) (M : Meth K Y15 "many" f₀) (T : Txt K mg Y0 Y10 Y12 Y5 Y8 Y1 Y4 Y7 Y14 Y3 Y11 Y2 Y9 Y13 Y6 Y15 W0_ W1_) (D_Z26 : Defx P w K mg base "live_at" 6 ["cells", "at"] (spOneAt K Y4 true)) : Methx P w K mg base Y15 "many" 7 ["self", "place"] [] (spMany Y15) := by
 refine ⟨⟨f₀, fd₀, [], fun_okx F sc_Z8 (fun vs H Q E h => by revert h; walk_at "len") (fun cdv A outer s H vs Q E hr h => ?_), M, F.binds bi_Z8, .nil⟩, T.cl_Row⟩
 refine ⟨_, PSs.nox (pss_cons (ps_asg (pe_defq D_Z26 hr (by rfl) (pa_cons (pe_fld (pv 0) rfl) (pa_cons (pe_op op_sub (pv 1) pe_int) pa_nil))) (pg_tup rfl (pgs_cons (pg_name (i := 2) sc_Z8.nd rfl (Or.inl rfl)) (pgs_cons (pg_name (i := 3) sc_Z8.nd rfl (Or.inl rfl)) (pgs_cons (pg_name (i := 4) sc_Z8.nd rfl (Or.inl rfl)) pgs_nil))))) (pss_one (ps_ret (pe_op op_sub (pv 3) (pe_glob (v := .int 2) (by rfl) T.g_MARKS ⟨_, rfl⟩))))), ?_⟩
 obtain ⟨x, dx, a, cs, ps, z, rfl, ⟨hx, ha, hz, hc, mk⟩, hm, hv, q⟩ := h
 have cl := T.cl_Row
 have na := T.na_Row_room_cells
 have hw := walk_of_marks hc mk
 walk_at "go"
 refine ⟨a, cs, ps, z.a, by rw [Int.add_sub_cancel], SqL.of ha, by omega, hw, hc, fun y hy hk hv' t H1 s1 ht => ?_, fun hn => absurd hv (hn z hm rfl)⟩
 have ey := chain_same hc hy hm (by omega)
 subst ey
 walk_at "go"
 exact q _ s1
def spCellOf (C : Addr) : Sp := fun vs H Q _ => ∃ (x dx a : Addr) (cs : List Int) (ps : List Pc) (z : Pc) (k : Int), vs = [.ref x, .int (z.a + 1), .int k] ∧ RoS C x dx a cs ps H ∧ z ∈ ps ∧ z.v = true ∧ 0 ≤ k ∧ k < z.l - 2 ∧
 ∀ (H' : Hp), Same H H' → Q (.int (z.a + 1 + k)) H'
theorem d_Z6 {f₀ : Addr} {fd₀ : FuncData} (F : Fun K "room_cell_of" "Keeper.room_cell_of" s_Z0 f₀ fd₀) (M : Meth K Y15 "room_cell_of" f₀) (T : Txt K mg Y0 Y10 Y12 Y5 Y8 Y1 Y4 Y7 Y14 Y3 Y11 Y2 Y9 Y13 Y6 Y15 W0_ W1_) (D_Z45 : Methx P w K mg base Y15 "many" 7 ["self", "place"] [] (spMany Y15)) : Methx P w K mg base Y15 "room_cell_of" 8 ["self", "place", "k"] [] (spCellOf Y15) := by
 refine ⟨⟨f₀, fd₀, [], fun_okx F sc_Z0 (fun vs H Q E h => by revert h; walk_at "len") (fun cdv A outer s H vs Q E hr h => ?_), M, F.binds bi_Z0, .nil⟩, T.cl_Row⟩
 refine ⟨_, PSs.nox (pss_cons (ps_set (i := 3) sc_Z0.nd rfl (Or.inl rfl) (pe_methp D_Z45 pass_e0 hr (pv 0) (pa_cons (pv 1) pa_nil))) (pss_cons (ps_if (PW.pt (pw_or (pt_cmpR op_lt (pv 2) pe_int (nomark _)) (pw_or1 (pt_cmpR op_ge (pv 2) (pv 3) (nomark _))))) (pss_one ps_never) pss_nil) (pss_one (ps_ret (pe_op op_add (pv 1) (pv 2)))))), ?_⟩
 obtain ⟨x, dx, a, cs, ps, z, k, rfl, S, hm, hv, k0, k1, q⟩ := h
 have cl := T.cl_Row
 have na := T.na_Row_room_cells
 have hx := S.hx
 walk_at "go"
 refine ⟨x, dx, a, cs, ps, z, rfl, S, hm, hv, fun H1 s1 => ?_⟩
 walk_at "go"
 exact q H1 s1
def spPut (C : Addr) : Sp := fun vs H Q _ => ∃ (x dx a : Addr) (cs : List Int) (ps : List Pc) (z : Pc) (k n : Int), vs = [.ref x, .int (z.a + 1), .int k, .int n] ∧ RoS C x dx a cs ps H ∧ z ∈ ps ∧ z.v = true ∧ 0 ≤ k ∧ k < z.l - 2 ∧
 ∀ (H' : Hp), KeepX a H H' → RoS C x dx a (cs.set (z.a + 1 + k).toNat n) ps H' → Q .non H'
theorem d_put {f₀ : Addr} {fd₀ : FuncData} (F : Fun K "put" "Keeper.put" s_Z11 f₀ fd₀) (M : Meth K Y15 "put" f₀) (T : Txt K mg Y0 Y10 Y12 Y5 Y8 Y1 Y4 Y7 Y14 Y3 Y11 Y2 Y9 Y13 Y6 Y15 W0_ W1_) (D_Z6 : Methx P w K mg base Y15 "room_cell_of" 8 ["self", "place", "k"] [] (spCellOf Y15)) : Methx P w K mg base Y15 "put" 9 ["self", "place", "k", "number"] [] (spPut Y15) := by
 refine ⟨⟨f₀, fd₀, [], fun_okx F sc_Z11 (fun vs H Q E h => by revert h; walk_at "len") (fun cdv A outer s H vs Q E hr h => ?_), M, F.binds bi_Z11, .nil⟩, T.cl_Row⟩
 refine ⟨_, PSs.nox (pss_cons (ps_set (i := 4) sc_Z11.nd rfl (Or.inl rfl) (pe_methp D_Z6 pass_e0 hr (pv 0) (pa_cons (pv 1) (pa_cons (pv 2) pa_nil)))) (pss_one (ps_asg (pv 3) (pg_sub (pe_fld (pv 0) rfl) (pv 4) set_list)))), ?_⟩
 obtain ⟨x, dx, a, cs, ps, z, k, n, rfl, S, hm, hv, k0, k1, q⟩ := h
 have cl := T.cl_Row
 have na := T.na_Row_room_cells
 obtain ⟨hx, ha, hz, hc, mk⟩ := id S
 obtain ⟨z0, z1, z3, z4⟩ := hc.mem z hm
 walk_at "go"
 refine ⟨x, dx, a, cs, ps, z, k, rfl, S, hm, hv, k0, k1, fun H1 s1 => ?_⟩
 have hx1 := s1 x _ hx
 have ha1 := s1 a _ ha
 have hxa : x ≠ a := fun e => by rw [e, ha1] at hx1; cases hx1
 walk_at "go"
 have mk2 := marks_putk (x := n) hc mk hm hv k0 k1
 exact q _ (KeepX.of s1).put ⟨look_ne hxa hx1, upd_same, by rw [List.length_set]; exact hz, by rw [List.length_set]; exact hc, mk2⟩
def spGet (C : Addr) : Sp := fun vs H Q _ => ∃ (x dx a : Addr) (cs : List Int) (ps : List Pc) (z : Pc) (k : Int), vs = [.ref x, .int (z.a + 1), .int k] ∧ RoS C x dx a cs ps H ∧ z ∈ ps ∧ z.v = true ∧ 0 ≤ k ∧ k < z.l - 2 ∧
 ∀ (H' : Hp), Same H H' → Q (.int (cs.getD (z.a + 1 + k).toNat 0)) H'
theorem d_get {f₀ : Addr} {fd₀ : FuncData} (F : Fun K "get" "Keeper.get" s_Z9 f₀ fd₀) (M : Meth K Y15 "get" f₀) (T : Txt K mg Y0 Y10 Y12 Y5 Y8 Y1 Y4 Y7 Y14 Y3 Y11 Y2 Y9 Y13 Y6 Y15 W0_ W1_) (D_Z6 : Methx P w K mg base Y15 "room_cell_of" 8 ["self", "place", "k"] [] (spCellOf Y15)) : Methx P w K mg base Y15 "get" 9 ["self", "place", "k"] [] (spGet Y15) := by
 refine ⟨⟨f₀, fd₀, [], fun_okx F sc_Z9 (fun vs H Q E h => by revert h; walk_at "len") (fun cdv A outer s H vs Q E hr h => ?_), M, F.binds bi_Z9, .nil⟩, T.cl_Row⟩
 refine ⟨_, PSs.nox (pss_one (ps_ret (pe_ix ix_list (pe_fld (pv 0) rfl) (pe_methp D_Z6 pass_e0 hr (pv 0) (pa_cons (pv 1) (pa_cons (pv 2) pa_nil))) (fun _ _ => rfl)))), ?_⟩
 obtain ⟨x, dx, a, cs, ps, z, k, rfl, S, hm, hv, k0, k1, q⟩ := h
 have cl := T.cl_Row
 have na := T.na_Row_room_cells
 obtain ⟨hx, ha, hz, hc, mk⟩ := id S
 obtain ⟨z0, z1, z3, z4⟩ := hc.mem z hm
 walk_at "go"
 refine ⟨x, dx, a, cs, ps, z, k, rfl, S, hm, hv, k0, k1, fun H1 s1 => ?_⟩
 have hx1 := s1 x _ hx
 have ha1 := s1 a _ ha
 walk_at "go"
 exact q _ s1
def spAskR (C CN : Addr) : Sp := fun vs H Q E => ∃ (x dx a : Addr) (cs ls : List Int) (c : Int), vs = [.ref x, .int c, .int 1] ∧ RoS C x dx a cs (rwP ls cs.length) H ∧ (∀ l ∈ ls, 3 ≤ l) ∧ sumI ls ≤ cs.length ∧ 1 ≤ cs.length ∧ 1 ≤ c ∧
 ((cs.length : Int) < sumI ls + (c + 2) → ∀ H', Same H H' → E (.ref CN) none H') ∧
 (sumI ls + (c + 2) ≤ cs.length → ∀ (a' : Addr) (cs' : List Int) (H' : Hp), H a' = none → KeepX x H H' → cs'.length = cs.length → RoS C x dx a' cs' (rwP (ls ++ [c + 2]) cs.length) H' → (∀ i : Nat, (i : Int) < sumI ls → cs'[i]? = cs[i]?) → Q (.int (sumI ls + 1)) H')
theorem d_ask {f₀ T₀ : Addr} {fd₀ : FuncData} {tk₀ : Tok} {tc₀ : Value} {td₀ : Option Addr} {tn₀ : Nat} {ts₀ : Array (Option Value)} (F : FunD K "ask" "Row.ask" s_Z33 (.ref T₀) f₀ fd₀) (LT : K.lookup T₀ = some ⟨tc₀, td₀, .seq [.int 1 tk₀].toArray tn₀, ts₀⟩) (M : Meth K Y15 "ask" f₀) (T : Txt K mg Y0 Y10 Y12 Y5 Y8 Y1 Y4 Y7 Y14 Y3 Y11 Y2 Y9 Y13 Y6 Y15 W0_ W1_) (D_Z2 : Defx P w K mg base "check_plain_ask" 2 ["count", "bound"] (spCheckP)) (D_Z39 : Methx P w K mg base Y15 "pieces" 5 ["self"] [] (spPiecesK Y15)) (D_Z40 : Methx P w K mg base Y15 "cells" 1 ["self"] [] (spCellsK Y15)) (D_Z25 : Defx P w K mg base "cut_out" 7 ["cells", "at", "place", "long"] (spCut K Y4 Y11)) (D_lay : Methx P w K mg base Y15 "lay" 5 ["self", "cells"] [] (spLay K Y15)) : MethD P w K mg base Y15 "ask" 8 ["self", "count", "bound"] [.int 1] (spAskR Y15 Y11) := by
 refine MethD.made (fd := fd₀) ?_ M (F.bindsA LT (bi_Z33 T₀ _)) (F.bindsD LT (bd_Z33 T₀ _)) (.cons ⟨tk₀, rfl⟩ .nil) T.cl_Row
 refine funD_okx F sc_Z33 (fun vs H Q E h => by revert h; walk_at "len") (fun cdv A outer s H vs Q E hr h => ?_)
 refine ⟨_, (pss_cons (ps_expr (pe_defq D_Z2 hr (by rfl) (pa_cons (pv 1) (pa_cons (pv 2) pa_nil)))) (pss_cons (ps_asg (pe_ix ix_list (pe_methp0 D_Z39 pass_e0 hr (pv 0)) (pe_un un_neg pe_int) (fun _ _ => rfl)) (pg_tup rfl (pgs_cons (pg_name (i := 3) sc_Z33.nd rfl (Or.inl rfl)) (pgs_cons (pg_name (i := 4) sc_Z33.nd rfl (Or.inl rfl)) (pgs_cons (pg_name (i := 5) sc_Z33.nd rfl (Or.inl rfl)) pgs_nil))))) (pss_cons (ps_if (pt_truth (pv 5) (fun _ => rfl)) (pss_one (ps_raise T.x_NoRoom hr.hd rfl (pa_cons pe_str pa_nil))) pss_nil) (pss_cons (ps_expr (pe_methp D_lay pass_e0 hr (pv 0) (pa_cons (pe_defx D_Z25 hr (by rfl) (pa_cons (pe_methp0 D_Z40 pass_e0 hr (pv 0)) (pa_cons (pv 3) (pa_cons (pv 3) (pa_cons (pe_op op_add (pv 1) (pe_glob (v := .int 2) (by rfl) T.g_MARKS ⟨_, rfl⟩)) pa_nil))))) pa_nil))) (pss_one (ps_ret (pe_op op_add (pv 3) pe_int))))))), ?_⟩
 obtain ⟨x, dx, a, cs, ls, c, rfl, S, h3, hs, hn, h1, qe, q⟩ := h
 have cl := T.cl_Row
 have na := T.na_Row_room_cells
 obtain ⟨hx, ha, hz, hc, mk⟩ := id S
 have h0 := sumI_nonneg h3
 walk_at "go"
 refine ⟨c, rfl, h1, ?_⟩
 walk_at "go"
 refine ⟨x, dx, a, cs, _, rfl, S, fun lp us H1 nlp s1 hlp pa => ?_⟩
 have hx1 := s1 x _ hx
 have ha1 := s1 a _ ha
 by_cases hf : sumI ls < cs.length
 · rw [rowP_free hf] at pa
   obtain ⟨ui, t, rfl, pi, hT⟩ := pa.unsnoc
   have hT : H1 t = some (.tup [.int (sumI ls), .int (cs.length - sumI ls), .bl false]) := hT
   walk_at "go"
   refine r_ixLast (SqL.of hlp) ?_
   walk_at "go"
   refine ⟨x, dx, a, cs, rfl, hx1, ha1, fun p H2 np s2 hp => ?_⟩
   have hx2 := s2 x _ hx1
   have ha2 := s2 a _ ha1
   have s12 := s1.trans s2
   have hfm : (⟨sumI ls, cs.length - sumI ls, false⟩ : Pc) ∈ rwP ls cs.length := by rw [rowP_free hf]; simp
   walk_at "go"
   refine ⟨p, cs, rwP ls cs.length, sumI ls, sumI ls, c + 2, rfl, SqL.of hp, by omega, hc, mk, by omega, fun z hzm hk hv e1 e2 p2 H3 np2 s3 hp2 => ?_, fun z hzm hk hv hno H3 s3 => ?_, fun hno => absurd rfl (hno _ hfm rfl)⟩
   · have ez := chain_same hc hzm hfm hk
     subst ez
     have e2 : sumI ls + (c + 2) ≤ sumI ls + (cs.length - sumI ls) := e2
     have hle : sumI ls + (c + 2) ≤ cs.length := by omega
     have hp2 : H3 p2 = some (.lst ((cutO cs (sumI ls) (cs.length - sumI ls) (sumI ls) (c + 2)).map V.int)) := hp2
     have s13 := s12.trans s3
     have m2 := row_marks h3 rfl h0 (show 1 ≤ c + 2 by omega) hle mk
     have g3 : ∀ l ∈ ls ++ [c + 2], 3 ≤ l := fun l hl => (List.mem_append.mp hl).elim (h3 l) fun hl => by rw [List.mem_singleton.mp hl]; omega
     have c2 := rowP_chain g3 (show sumI (ls ++ [c + 2]) ≤ cs.length by rw [sumI_snoc]; omega)
     have lc := cutO_len cs (sumI ls) (cs.length - sumI ls) (sumI ls) (c + 2)
     have c2' : Chain 0 (rwP (ls ++ [c + 2]) cs.length) (cutO cs (sumI ls) (cs.length - sumI ls) (sumI ls) (c + 2)).length := by rw [lc]; exact c2
     have out : ∀ i : Nat, (i : Int) < sumI ls → (cutO cs (sumI ls) (cs.length - sumI ls) (sumI ls) (c + 2))[i]? = cs[i]? := fun i hi => cutO_out h0 (by omega) (Int.le_refl _) (by omega) (.inl hi)
     generalize cutO cs (sumI ls) (cs.length - sumI ls) (sumI ls) (c + 2) = cs' at hp2 m2 lc c2' out
     walk_at "go"
     refine ⟨x, p2, dx, a, cs, cs', _, rfl, s3 x _ hx2, s3 a _ ha2, lc, SqL.of hp2, by omega, walk_of_marks c2' m2, fun a' H4 na4 k4 hx4 ha4 => ?_⟩
     walk_at "go"
     exact q hle a' cs' H4 (s13.free na4) ((KeepX.of s13).trans k4) lc ⟨hx4, ha4, by omega, c2', m2⟩ out
   · have ez := chain_same hc hzm hfm hk
     subst ez
     have hno : ¬ (sumI ls ≤ sumI ls ∧ sumI ls + (c + 2) ≤ sumI ls + (cs.length - sumI ls)) := hno
     exact qe (by omega) H3 (s12.trans s3)
 · have ef : sumI ls = cs.length := by omega
   rw [rowP_full ef] at pa
   rcases nil_or_snocI ls with e0 | ⟨D, l, e0⟩
   · rw [e0] at ef
     have : (0 : Int) = cs.length := ef
     omega
   · rw [e0, rowL_snoc] at pa
     obtain ⟨ui, t, rfl, pi, hT⟩ := pa.unsnoc
     have hT : H1 t = some (.tup [.int (0 + sumI D), .int l, .bl true]) := hT
     walk_at "go"
     refine r_ixLast (SqL.of hlp) ?_
     walk_at "go"
     exact qe (by omega) H1 s1
def spNoGive (CN : Addr) : Sp := fun vs H _ E => ∃ x p : V, vs = [x, p] ∧ E (.ref CN) none H
theorem d_Z42 {f₀ : Addr} {fd₀ : FuncData} (F : Fun K "give" "Row.give" s_Z24 f₀ fd₀) (M : Meth K Y15 "give" f₀) (T : Txt K mg Y0 Y10 Y12 Y5 Y8 Y1 Y4 Y7 Y14 Y3 Y11 Y2 Y9 Y13 Y6 Y15 W0_ W1_)  : Methx P w K mg base Y15 "give" 1 ["self", "place"] [] (spNoGive Y8) := by
 refine ⟨⟨f₀, fd₀, [], fun_okx F sc_Z24 (fun vs H Q E h => by revert h; walk_at "len") (fun cdv A outer s H vs Q E hr h => ?_), M, F.binds bi_Z24, .nil⟩, T.cl_Row⟩
 refine ⟨_, (pss_one (ps_raise T.x_NoGive hr.hd rfl (pa_cons pe_str pa_nil))), ?_⟩
 obtain ⟨x, p, rfl, q⟩ := h
 walk_at "go"
 exact q
def spNoGrow (CN : Addr) : Sp := fun vs H _ E => ∃ x p c b : V, vs = [x, p, c, b] ∧ E (.ref CN) none H
theorem d_Z43 {f₀ T₀ : Addr} {fd₀ : FuncData} {tk₀ : Tok} {tc₀ : Value} {td₀ : Option Addr} {tn₀ : Nat} {ts₀ : Array (Option Value)} (F : FunD K "grow" "Row.grow" s_Z22 (.ref T₀) f₀ fd₀) (LT : K.lookup T₀ = some ⟨tc₀, td₀, .seq [.int 1 tk₀].toArray tn₀, ts₀⟩) (M : Meth K Y15 "grow" f₀) (T : Txt K mg Y0 Y10 Y12 Y5 Y8 Y1 Y4 Y7 Y14 Y3 Y11 Y2 Y9 Y13 Y6 Y15 W0_ W1_)  : MethD P w K mg base Y15 "grow" 1 ["self", "place", "count", "bound"] [.int 1] (spNoGrow Y8) := by
 refine MethD.made (fd := fd₀) ?_ M (F.bindsA LT (bi_Z22 T₀ _)) (F.bindsD LT (bd_Z22 T₀ _)) (.cons ⟨tk₀, rfl⟩ .nil) T.cl_Row
 refine funD_okx F sc_Z22 (fun vs H Q E h => by revert h; walk_at "len") (fun cdv A outer s H vs Q E hr h => ?_)
 refine ⟨_, (pss_one (ps_raise T.x_NoGive hr.hd rfl (pa_cons pe_str pa_nil))), ?_⟩
 obtain ⟨x, p, c, b, rfl, q⟩ := h
 walk_at "go"
 exact q
theorem d_Z15 (S : Src K mg "_law_cell_at" s_Z15) (T : Txt K mg Y0 Y10 Y12 Y5 Y8 Y1 Y4 Y7 Y14 Y3 Y11 Y2 Y9 Y13 Y6 Y15 W0_ W1_)  : Defx P w K mg base "_law_cell_at" 1 ["_law_script", "_law_k"] (spCell K) := by
 refine S.okx sc_Z15 bi_Z15 (fun vs H Q E h => by revert h; walk_at "len") (fun f cdv A outer s H vs Q E hr h => ?_)
 refine ⟨_, PSs.nox (pss_cons (ps_if (pt_cmpR op_lt (pv 1) (pe_callB call_len_seq (by rfl) T.n_len PySem.boot_len (pa_cons (pv 0) pa_nil)) (nomark _)) (pss_one (ps_ret (pe_ix ix_list (pv 0) (pv 1) (fun _ _ => rfl)))) pss_nil) (pss_one (ps_ret pe_int))), ?_⟩
 obtain ⟨a, ns, k, rfl, hS, h0, q⟩ := h
 walk_at "go"
 refine r_ifd (fun hc => ?_) (fun hc => ?_)
 · walk_at "go"
   exact q
 · walk_at "go"
   have e : ns.getD k.toNat 0 = 0 := by
     rw [List.getD_eq_getElem?_getD, List.getElem?_eq_none (by omega)]
     rfl
   rw [e] at q
   exact q
theorem d_Z34 (S : Src K mg "_law_whole" s_Z34) (T : Txt K mg Y0 Y10 Y12 Y5 Y8 Y1 Y4 Y7 Y14 Y3 Y11 Y2 Y9 Y13 Y6 Y15 W0_ W1_)  : Defx P w K mg base "_law_whole" 1 ["_law_found"] (spWhole) := by
 refine S.okx sc_Z34 bi_Z34 (fun vs H Q E h => by revert h; walk_at "len") (fun f cdv A outer s H vs Q E hr h => ?_)
 refine ⟨_, PSs.nox (pss_one (ps_ret (pe_and (pe_callB call_isi (by rfl) T.n_isinstance PyProof.Rows.boot_isinstance (pa_cons (pv 0) (pa_cons (pe_bltn (v := .ty "int") (by rfl) T.n_int PyProof.Rows.boot_int rfl) pa_nil))) (pe_one (pe_not (pe_callB call_isi (by rfl) T.n_isinstance PyProof.Rows.boot_isinstance (pa_cons (pv 0) (pa_cons (pe_bltn (v := .ty "bool") (by rfl) T.n_bool PyProof.Rows.boot_bool rfl) pa_nil)))))))), ?_⟩
 obtain ⟨n, rfl, q⟩ := h
 walk_at "go"
 exact q
def spAlike : Sp := fun vs H Q _ => ∃ (b c : Addr) (us ws : List V) (ps : List Pc), vs = [.ref b, .ref c] ∧ H b = some (.lst us) ∧ H c = some (.lst ws) ∧ PcsAt H us ps ∧ PcsAt H ws ps ∧ Q (.bl true) H
def AlW (b c : Addr) (H : Hp) (i : Nat) (σ : L2.St) (H' : Hp) : Prop := ∃ x2 : Option V, σ = [some (.ref b), some (.ref c), x2] ∧ H' = H
theorem d_Z29 (S : Src K mg "_law_alike" s_Z29) (T : Txt K mg Y0 Y10 Y12 Y5 Y8 Y1 Y4 Y7 Y14 Y3 Y11 Y2 Y9 Y13 Y6 Y15 W0_ W1_) (D_Z34 : Defx P w K mg base "_law_whole" 1 ["_law_found"] (spWhole)) : Defx P w K mg base "_law_alike" 2 ["_law_found", "_law_due"] (spAlike) := by
 refine S.okx sc_Z29 bi_Z29 (fun vs H Q E h => by revert h; walk_at "len") (fun f cdv A outer s H vs Q E hr h => ?_)
 refine ⟨_, PSs.nox (pss_cons (ps_if (PW.pt (pw_or (pt_not (pt_val (pe_callB call_isi (by rfl) T.n_isinstance PyProof.Rows.boot_isinstance (pa_cons (pv 0) (pa_cons (pe_bltn (v := .ty "list") (by rfl) T.n_list PyProof.Rows.boot_list rfl) pa_nil))))) (pw_or1 (pt_cmpR op_ne (pe_callB call_len_seq (by rfl) T.n_len PySem.boot_len (pa_cons (pv 0) pa_nil)) (pe_callB call_len_seq (by rfl) T.n_len PySem.boot_len (pa_cons (pv 1) pa_nil)) (nomark _))))) (pss_one (ps_ret pe_bl)) pss_nil) (pss_cons (ps_for PassesOwn.never rfl (pi_list (pv 0)) (pg_name (i := 2) sc_Z29.nd rfl (Or.inl rfl)) (pss_cons (ps_if (PW.pt (pw_or (pt_not (pt_val (pe_callB call_isi (by rfl) T.n_isinstance PyProof.Rows.boot_isinstance (pa_cons (pv 2) (pa_cons (pe_bltn (v := .ty "tuple") (by rfl) T.n_tuple PyProof.Rows.boot_tuple rfl) pa_nil))))) (pw_or (pt_cmpR op_ne (pe_callB call_len_seq (by rfl) T.n_len PySem.boot_len (pa_cons (pv 2) pa_nil)) pe_int (nomark _)) (pw_or1 (pt_not (pt_val (pe_callB call_isi (by rfl) T.n_isinstance PyProof.Rows.boot_isinstance (pa_cons (pe_ix ix_tup (pv 2) pe_int (fun _ _ => rfl)) (pa_cons (pe_bltn (v := .ty "bool") (by rfl) T.n_bool PyProof.Rows.boot_bool rfl) pa_nil))))))))) (pss_one (ps_ret pe_bl)) pss_nil) (pss_one (ps_if (PW.pt (pw_or (pt_not (pt_val (pe_defq D_Z34 hr (by rfl) (pa_cons (pe_ix ix_tup (pv 2) pe_int (fun _ _ => rfl)) pa_nil)))) (pw_or1 (pt_not (pt_val (pe_defq D_Z34 hr (by rfl) (pa_cons (pe_ix ix_tup (pv 2) pe_int (fun _ _ => rfl)) pa_nil))))))) (pss_one (ps_ret pe_bl)) pss_nil)))) (pss_one (ps_ret (pe_cmpR (op_eqLP hr.units) (pv 0) (pv 1) (nomark _)))))), ?_⟩
 obtain ⟨b, c, us, ws, ps, rfl, hb, hc, pb, pc, q⟩ := h
 have l1 := pb.1
 have l2 := pc.1
 walk_at "go"
 refine ⟨b, rfl, ⟨_, SqL.of hb⟩, for_list (K := K) (a := b) (xs := us) (AlW b c H) ⟨none, rfl, rfl⟩ (fun i σ H2 _ ⟨_, _, h⟩ => by rw [h]; exact SqL.of hb) ?_ ?_⟩
 · rintro i y σ H2 hi ⟨x2, rfl, rfl⟩
   have hil : i < us.length := (List.getElem?_eq_some_iff.mp hi).1
   have hip : i < ps.length := by omega
   obtain ⟨t, et, hT⟩ := pb.2 i ps[i] (by simp [hip])
   have ey : y = .ref t := Option.some.inj (hi.symm.trans et)
   subst ey
   generalize ps[i] = z at hT
   walk_at "go"
   exact ⟨_, rfl, rfl⟩
 · rintro σ H2 ⟨x2, rfl, rfl⟩
   walk_at "go"
   refine ⟨b, c, us, ws, ps, rfl, rfl, hb, hc, pb, pc, ?_⟩
   walk_at "go"
   exact q
def spWalkC (K : PySem.W.Frag) : Sp := fun vs H Q _ => ∃ (r : Addr) (cs : List Int) (ps : List Pc), vs = [.ref r] ∧ H r = some (.lst (cs.map V.int)) ∧ Chain 0 ps cs.length ∧ Marks cs ps ∧ cs.length ≤ 1200 ∧ ∀ (p : Addr) (us : List V) (H' : Hp), H p = none → Same H H' → H' p = some (.lst us) → PcsAt H' us ps → Q (.ref p) H'
def WkW (r p : Addr) (n : Int) (ps : List Pc) (H : Hp) (m : Nat) (σ : L2.St) (H' : Hp) : Prop :=
 ∃ (ds rs : List Pc) (us : List V) (k : Int) (x3 x4 : Option V), σ = [some (.ref r), some (.ref p), some (.int k), x3, x4] ∧ m = (n - k).toNat ∧ ps = ds ++ rs ∧ Chain 0 ds k ∧ Chain k rs n ∧ Same H H' ∧ H' p = some (.lst us) ∧ PcsAt H' us ds
theorem d_Z37 (S : Src K mg "_law_walk" s_Z37) (T : Txt K mg Y0 Y10 Y12 Y5 Y8 Y1 Y4 Y7 Y14 Y3 Y11 Y2 Y9 Y13 Y6 Y15 W0_ W1_) (D_Z34 : Defx P w K mg base "_law_whole" 1 ["_law_found"] (spWhole)) : Defx P w K mg base "_law_walk" 2 ["_law_cells"] (spWalkC K) := by
 refine S.okx sc_Z37 bi_Z37 (fun vs H Q E h => by revert h; walk_at "len") (fun f cdv A outer s H vs Q E hr h => ?_)
 refine ⟨_, PSs.nox (pss_cons (ps_if (pt_not (pt_val (pe_callB call_isi (by rfl) T.n_isinstance PyProof.Rows.boot_isinstance (pa_cons (pv 0) (pa_cons (pe_bltn (v := .ty "list") (by rfl) T.n_list PyProof.Rows.boot_list rfl) pa_nil))))) (pss_one (ps_ret pe_non)) pss_nil) (pss_cons (ps_set (i := 1) sc_Z37.nd rfl (Or.inl rfl) (pe_lst pa_nil)) (pss_cons (ps_set (i := 2) sc_Z37.nd rfl (Or.inl rfl) pe_int) (pss_cons (ps_while PassesOwn.never (pt_cmpR op_lt (pv 2) (pe_callB call_len_seq (by rfl) T.n_len PySem.boot_len (pa_cons (pv 0) pa_nil)) (nomark _)) (pss_cons (ps_if (pt_not (pt_val (pe_defq D_Z34 hr (by rfl) (pa_cons (pe_ix ix_list (pv 0) (pv 2) (fun _ _ => rfl)) pa_nil)))) (pss_one (ps_ret pe_non)) pss_nil) (pss_cons (ps_set (i := 3) sc_Z37.nd rfl (Or.inl rfl) (pe_op op_fdiv (pe_ix ix_list (pv 0) (pv 2) (fun _ _ => rfl)) pe_int)) (pss_cons (ps_set (i := 4) sc_Z37.nd rfl (Or.inl rfl) (pe_cmpR op_eq (pe_op op_mod (pe_ix ix_list (pv 0) (pv 2) (fun _ _ => rfl)) pe_int) pe_int (nomark _))) (pss_cons (ps_if (PW.pt (pw_or (pt_cmpR op_lt (pv 3) pe_int (nomark _)) (pw_or (pt_cmpR op_gt (pe_op op_add (pv 2) (pv 3)) (pe_callB call_len_seq (by rfl) T.n_len PySem.boot_len (pa_cons (pv 0) pa_nil)) (nomark _)) (pw_or1 (PW.pt (pw_and (pt_truth (pv 4) (fun _ => rfl)) (pw_and1 (pt_cmpR op_lt (pv 3) pe_int (nomark _))))))))) (pss_one (ps_ret pe_non)) pss_nil) (pss_cons (ps_if (PW.pt (pw_or (pt_not (pt_val (pe_defq D_Z34 hr (by rfl) (pa_cons (pe_ix ix_list (pv 0) (pe_op op_sub (pe_op op_add (pv 2) (pv 3)) pe_int) (fun _ _ => rfl)) pa_nil)))) (pw_or1 (pt_cmpR op_ne (pe_ix ix_list (pv 0) (pe_op op_sub (pe_op op_add (pv 2) (pv 3)) pe_int) (fun _ _ => rfl)) (pe_ix ix_list (pv 0) (pv 2) (fun _ _ => rfl)) (nomark _))))) (pss_one (ps_ret pe_non)) pss_nil) (pss_cons (ps_expr (pe_bm PySem.F.plainAttrs_list PySem.F.slot_list_append PySem.F.type_list_append mt_append (pv 1) (pa_cons (pe_tup (pa_cons (pv 2) (pa_cons (pv 3) (pa_cons (pv 4) pa_nil)))) pa_nil))) (pss_one (ps_set (i := 2) sc_Z37.nd rfl (Or.inl rfl) (pe_op op_add (pv 2) (pv 3))))))))))) (pss_one (ps_ret (pv 1))))))), ?_⟩
 obtain ⟨r, cs, ps, rfl, hR, hc, mk, hz, q⟩ := h
 walk_at "go"
 intro p hp
 walk_at "go"
 refine ⟨WkW r p cs.length ps H, ⟨_, [], ps, [], 0, none, none, rfl, rfl, rfl, rfl, hc, Same.new hp, upd_same, PcsAt.nil⟩, ?_⟩
 rintro m σ H1 ⟨ds, rs, us, k, x3, x4, rfl, rfl, eps, c1, c2, s1, hp1, pu⟩
 have hul := pu.1
 have hS1 : SqL K H1 r (cs.map V.int) := SqL.of (s1 r _ hR)
 have k0 := c1.le
 walk_at "go"
 refine r_ifd (fun hlt => ?_) (fun hlt => ?_)
 · refine ⟨fun σ' H'' => ∃ m', m' < ((cs.length : Int) - k).toNat ∧ WkW r p cs.length ps H m' σ' H'', fun σ' H'' hw => hw, ?_⟩
   cases rs with
   | nil =>
     have : k = cs.length := c2
     omega
   | cons z r2 =>
     obtain ⟨ea, z1, z3, c3⟩ := c2
     have hle := c3.le
     obtain ⟨m1, m2⟩ := mk z (by rw [eps]; simp)
     have g1 := getD_of m1
     have g2 := getD_of m2
     rw [ea] at g1 g2
     have e1 : cs.getD k.toNat 0 = mkOf z.l z.v := g1
     have e2 : cs.getD (k + z.l - 1).toNat 0 = mkOf z.l z.v := g2
     walk_at "g1"
     walk_at "g1"
     rw [e1, mk_long]
     walk_at "g1"
     rw [e1, mk_live]
     have hkl : ds.length ≤ 1200 := by omega
     walk_at "gs"
     refine r_seqM (M := fun σ' H' => H1 = H' ∧ σ' = [some (.ref r), some (.ref p), some (.int k), some (.int z.l), some (.bl z.v)]) ?_ (fun nx hM => ?_)
     · rintro σ' H' ⟨rfl, rfl⟩
       walk_at "go"
       intro t ht
       walk_at "go"
       obtain ⟨g1, g2⟩ := PcsAt.push (z := z) pu hp1 ht
       rw [ea] at g2
       refine ⟨_, ?_, ds ++ [z], r2, _, k + z.l, _, _, rfl, rfl, by rw [eps]; simp, ?_, c3, (s1.put (s1.free ht)).put hp, upd_same, g2⟩
       · omega
       · have := Chain.snoc (p := z) (by rw [ea]; exact c1) z1 z3
         rwa [ea] at this
     · walk_at "go"
       refine r_ifb (fun hv => ?_) (fun hv => ?_)
       · have := z3 hv
         walk_at "go"
         exact hM _ _ ⟨rfl, rfl⟩
       · walk_at "go"
         exact hM _ _ ⟨rfl, rfl⟩
 · have er : rs = [] := by
     cases rs with
     | nil => rfl
     | cons z r2 =>
       have := c2.le
       rw [List.length_cons] at this
       omega
   rw [er, List.append_nil] at eps
   subst eps
   walk_at "go"
   exact q p us H1 hp s1 hp1 pu
def spNumber : Sp := fun vs H Q _ => ∃ c : Int, vs = [.int c] ∧ ∀ m : Int, Q (.int m) H
theorem d_Z21 (S : Src K mg "_law_number" s_Z21) (T : Txt K mg Y0 Y10 Y12 Y5 Y8 Y1 Y4 Y7 Y14 Y3 Y11 Y2 Y9 Y13 Y6 Y15 W0_ W1_)  : Defx P w K mg base "_law_number" 1 ["_law_cell"] (spNumber) := by
 refine S.okx sc_Z21 bi_Z21 (fun vs H Q E h => by revert h; walk_at "len") (fun f cdv A outer s H vs Q E hr h => ?_)
 refine ⟨_, PSs.nox (pss_cons (ps_if (pt_cmpR op_eq (pe_op op_mod (pv 0) pe_int) pe_int (nomark _)) (pss_one (ps_ret (pe_op op_mod (pe_op op_fdiv (pv 0) pe_int) pe_int))) pss_nil) (pss_one (ps_ret (pe_op op_sub (pe_op op_mod (pe_op op_mul (pv 0) pe_int) (pe_op op_pow pe_int pe_int)) (pe_op op_pow pe_int pe_int))))), ?_⟩
 obtain ⟨c, rfl, q⟩ := h
 walk_at "go"
 refine r_ifd (fun _ => ?_) (fun _ => ?_)
 · walk_at "go"
   exact q _
 · walk_at "go"
   exact q _
def spPiecesL : Sp := fun vs H Q _ => ∃ (lb : Addr) (ls : List Int) (n : Int), vs = [.ref lb, .int n] ∧ H lb = some (.lst (ls.map V.int)) ∧ ls.length ≤ 1200 ∧ sumI ls ≤ n ∧
 ∀ (p : Addr) (us : List V) (H' : Hp), H p = none → Same H H' → H' p = some (.lst us) → PcsAt H' us (rwP ls n) → Q (.ref p) H'
def PlW (lb p : Addr) (n : Int) (ls : List Int) (H : Hp) (i : Nat) (σ : L2.St) (H' : Hp) : Prop :=
 ∃ (us : List V) (x4 : Option V), σ = [some (.ref lb), some (.int n), some (.ref p), some (.int (sumI (ls.take i))), x4] ∧ Same H H' ∧ H' p = some (.lst us) ∧ PcsAt H' us (rowL 0 (ls.take i))
theorem d_Z23 (S : Src K mg "_law_pieces" s_Z23) (T : Txt K mg Y0 Y10 Y12 Y5 Y8 Y1 Y4 Y7 Y14 Y3 Y11 Y2 Y9 Y13 Y6 Y15 W0_ W1_)  : Defx P w K mg base "_law_pieces" 1 ["_law_longs", "_law_size"] (spPiecesL) := by
 refine S.okx sc_Z23 bi_Z23 (fun vs H Q E h => by revert h; walk_at "len") (fun f cdv A outer s H vs Q E hr h => ?_)
 refine ⟨_, PSs.nox (pss_cons (ps_set (i := 2) sc_Z23.nd rfl (Or.inl rfl) (pe_lst pa_nil)) (pss_cons (ps_set (i := 3) sc_Z23.nd rfl (Or.inl rfl) pe_int) (pss_cons (ps_for PassesOwn.never rfl (pi_list (pv 0)) (pg_name (i := 4) sc_Z23.nd rfl (Or.inl rfl)) (pss_cons (ps_expr (pe_bm PySem.F.plainAttrs_list PySem.F.slot_list_append PySem.F.type_list_append mt_append (pv 2) (pa_cons (pe_tup (pa_cons (pv 3) (pa_cons (pv 4) (pa_cons pe_bl pa_nil)))) pa_nil))) (pss_one (ps_set (i := 3) sc_Z23.nd rfl (Or.inl rfl) (pe_op op_add (pv 3) (pv 4)))))) (pss_cons (ps_if (pt_cmpR op_lt (pv 3) (pv 1) (nomark _)) (pss_one (ps_expr (pe_bm PySem.F.plainAttrs_list PySem.F.slot_list_append PySem.F.type_list_append mt_append (pv 2) (pa_cons (pe_tup (pa_cons (pv 3) (pa_cons (pe_op op_sub (pv 1) (pv 3)) (pa_cons pe_bl pa_nil)))) pa_nil)))) pss_nil) (pss_one (ps_ret (pv 2))))))), ?_⟩
 obtain ⟨lb, ls, n, rfl, hb, hl, hs, q⟩ := h
 walk_at "go"
 intro p hp
 walk_at "go"
 refine ⟨lb, rfl, ⟨_, SqL.of ((Same.new hp) lb _ hb)⟩, for_list (K := K) (a := lb) (xs := ls.map V.int) (PlW lb p n ls H) ⟨[], none, rfl, Same.new hp, upd_same, PcsAt.nil⟩ (fun i σ H2 _ ⟨_, _, _, s2, _⟩ => SqL.of (s2 lb _ hb)) ?_ ?_⟩
 · rintro i y σ H2 hi ⟨us, x4, rfl, s2, hp2, pa⟩
   rw [List.getElem?_map] at hi
   obtain ⟨l, hl1, rfl⟩ := Option.map_eq_some_iff.mp hi
   have hil : i < ls.length := (List.getElem?_eq_some_iff.mp hl1).1
   have hul := pa.1
   rw [rowL_len, List.length_take] at hul
   walk_at "go"
   intro t ht
   walk_at "go"
   obtain ⟨g1, g2⟩ := PcsAt.push (z := ⟨sumI (ls.take i), l, true⟩) pa hp2 ht
   refine ⟨_, some (.int l), ?_, (s2.put (s2.free ht)).put hp, g1, ?_⟩
   · rw [take_snocI hl1, sumI_snoc]
   · rw [take_snocI hl1, rowL_snoc, Int.zero_add]
     exact g2
 · rintro σ H2 ⟨us, x4, e, s2, hp2, pa⟩
   rw [List.length_map, List.take_length] at e pa
   subst e
   have hul := pa.1
   rw [rowL_len] at hul
   walk_at "go"
   refine r_ifd (fun h1 => ?_) (fun h1 => ?_)
   · walk_at "go"
     intro t ht
     walk_at "go"
     obtain ⟨g1, g2⟩ := PcsAt.push (z := ⟨sumI ls, n - sumI ls, false⟩) pa hp2 ht
     exact q p _ _ hp ((s2.put (s2.free ht)).put hp) g1 (by rw [rowP_free h1]; exact g2)
   · walk_at "go"
     exact q p us H2 hp s2 hp2 (by rw [rowP_full (by omega)]; exact pa)
def spTold (C : Addr) : Sp := fun vs H Q _ => ∃ (x dx a : Addr) (cs ls : List Int) (c : Int) (bare : Bool), vs = [.ref x, .int c, .bl bare] ∧ RoS C x dx a cs (rwP ls cs.length) H ∧ (∀ l ∈ ls, 3 ≤ l) ∧ sumI ls ≤ cs.length ∧ 1 ≤ cs.length ∧ 1 ≤ c ∧
 ((cs.length : Int) < sumI ls + (c + 2) → ∀ (t : Addr) (H' : Hp), Same H H' → H' t = some (.tup [.str "no", .int 0]) → Q (.ref t) H') ∧
 (sumI ls + (c + 2) ≤ cs.length → ∀ (t a' : Addr) (cs' : List Int) (H' : Hp), H a' = none → KeepX x H H' → cs'.length = cs.length → RoS C x dx a' cs' (rwP (ls ++ [c + 2]) cs.length) H' → (∀ i : Nat, (i : Int) < sumI ls → cs'[i]? = cs[i]?) → H' t = some (.tup [.str "at", .int (sumI ls + 1)]) → Q (.ref t) H')
theorem d_Z10 (S : Src K mg "_law_ask_told" s_Z10) (T : Txt K mg Y0 Y10 Y12 Y5 Y8 Y1 Y4 Y7 Y14 Y3 Y11 Y2 Y9 Y13 Y6 Y15 W0_ W1_) (D_ask : MethD P w K mg base Y15 "ask" 8 ["self", "count", "bound"] [.int 1] (spAskR Y15 Y11)) : Defx P w K mg base "_law_ask_told" 9 ["_law_keeper", "_law_count", "_law_bare"] (spTold Y15) := by
 refine S.okx sc_Z10 bi_Z10 (fun vs H Q E h => by revert h; walk_at "len") (fun f cdv A outer s H vs Q E hr h => ?_)
 refine ⟨_, PSs.nox (pss_cons (ps_set (i := 3) sc_Z10.nd rfl (Or.inl rfl) pe_str) (pss_cons (ps_set (i := 4) sc_Z10.nd rfl (Or.inl rfl) pe_int) (pss_cons (ps_tryS (pxs_if (pt_truth (pv 2) (fun _ => rfl)) (pxs_set (i := 4) sc_Z10.nd rfl (Or.inl rfl) (px_methD D_ask.less hr (pv 0) (pa_cons (pv 1) pa_nil))) (pxs_set (i := 4) sc_Z10.nd rfl (Or.inl rfl) (px_methD D_ask.all hr (pv 0) (pa_cons (pv 1) (pa_cons pe_int pa_nil))))) ⟨rfl, rfl⟩ (ph_cons (by rfl) T.c_NoRoom (fun x => (pss_one (ps_set (i := 3) sc_Z10.nd rfl (Or.inl rfl) pe_str))) ph_nil)) (pss_one (ps_ret (pe_tup (pa_cons (pv 3) (pa_cons (pv 4) pa_nil)))))))), ?_⟩
 obtain ⟨x, dx, a, cs, ls, c, bare, rfl, S, h3, hs, hn, h1, qe, q⟩ := h
 have hx := S.hx
 walk_at "go"
 refine r_ifb (fun _ => ?_) (fun _ => ?_)
 · walk_at "go"
   refine ⟨x, dx, a, cs, ls, c, rfl, S, h3, hs, hn, h1, fun hlt H1 s1 => ⟨_, rfl, fun y hy => Or.inl ⟨T.f_NoRoom_NoRoom, ?_⟩⟩, fun hle a' cs' H1 na k1 l1 S1 out => ?_⟩
   · have s2 := s1.put (o := ExcO y Y11 none) (s1.free hy)
     walk_at "go"
     intro t ht
     walk_at "go"
     exact qe hlt t _ (s2.trans (Same.new ht)) upd_same
   · walk_at "go"
     intro t ht
     walk_at "go"
     have s2 := Same.new (o := .tup [.str "at", .int (sumI ls + 1)]) ht
     exact q hle t a' cs' _ na (k1.trans (KeepX.of s2)) l1 (S1.same s2) out upd_same
 · walk_at "go"
   refine ⟨x, dx, a, cs, ls, c, rfl, S, h3, hs, hn, h1, fun hlt H1 s1 => ⟨_, rfl, fun y hy => Or.inl ⟨T.f_NoRoom_NoRoom, ?_⟩⟩, fun hle a' cs' H1 na k1 l1 S1 out => ?_⟩
   · have s2 := s1.put (o := ExcO y Y11 none) (s1.free hy)
     walk_at "go"
     intro t ht
     walk_at "go"
     exact qe hlt t _ (s2.trans (Same.new ht)) upd_same
   · walk_at "go"
     intro t ht
     walk_at "go"
     have s2 := Same.new (o := .tup [.str "at", .int (sumI ls + 1)]) ht
     exact q hle t a' cs' _ na (k1.trans (KeepX.of s2)) l1 (S1.same s2) out upd_same
theorem boot_ValueError : bootBuiltins "ValueError" = some (.type "ValueError") := by decide +kernel
theorem r_isiT {K : PySem.W.Frag} {H : Hp} {x C : Addr} {n : String} {od : Option Addr} {b : Bool} {P : Bool → Prop} (h : H x = some (ExcO x C od)) (z : XK0 K C) (e : PySem.W.kitOne K (.ref C) (.type n) = some b) (q : P b) :
   ∃ x' C0 od' v b', [V.ref x, V.ty n] = [V.ref x', v] ∧ H x' = some (ExcO x' C0 od') ∧ XK0 K C0 ∧ clsV v ≠ .none ∧ PySem.W.kitOne K (.ref C0) (clsV v) = some b' ∧ P b' := ⟨x, C, od, .ty n, b, rfl, h, z, (fun z => nomatch z), e, q⟩
def spRefused (C : Addr) : Sp := fun vs H Q _ => ∃ (x dx a : Addr) (p c0 : Int), vs = [.ref x, .int p, .int c0] ∧ H x = some (.ins C dx [("room_cells", .ref a)]) ∧ ∀ H', Same H H' → Q (.bl true) H'
theorem d_Z16 (S : Src K mg "_law_refused" s_Z16) (T : Txt K mg Y0 Y10 Y12 Y5 Y8 Y1 Y4 Y7 Y14 Y3 Y11 Y2 Y9 Y13 Y6 Y15 W0_ W1_) (D_Z42 : Methx P w K mg base Y15 "give" 1 ["self", "place"] [] (spNoGive Y8)) (D_Z43 : MethD P w K mg base Y15 "grow" 1 ["self", "place", "count", "bound"] [.int 1] (spNoGrow Y8)) : Defx P w K mg base "_law_refused" 2 ["_law_keeper", "_law_place", "_law_cell"] (spRefused Y15) := by
 refine S.okx sc_Z16 bi_Z16 (fun vs H Q E h => by revert h; walk_at "len") (fun f cdv A outer s H vs Q E hr h => ?_)
 refine ⟨_, PSs.nox (pss_cons (ps_set (i := 3) sc_Z16.nd rfl (Or.inl rfl) pe_bl) (pss_cons (ps_set (i := 4) sc_Z16.nd rfl (Or.inl rfl) (pe_lst (pa_cons (pe_op op_sub (pe_op op_mod (pe_op op_mod (pe_op op_mul (pv 2) pe_int) pe_int) pe_int) pe_int) (pa_cons (pe_op op_mod (pe_op op_mul (pv 2) pe_int) (pe_op op_pow pe_int pe_int)) pa_nil)))) (pss_cons (ps_tryS (pxs_if (pt_cmpR op_eq (pe_op op_mod (pe_op op_fdiv (pv 2) pe_int) pe_int) pe_int (nomark _)) (pxs_exp (px_methD D_Z42 hr (pv 0) (pa_cons (pv 1) pa_nil))) (pxs_if (pt_cmpR op_eq (pe_op op_mod (pe_op op_fdiv (pv 2) pe_int) pe_int) pe_int (nomark _)) (pxs_exp (px_methD D_Z43.less hr (pv 0) (pa_cons (pv 1) (pa_cons (pe_ix ix_list (pv 4) (pe_op op_mod (pe_op op_fdiv (pv 2) pe_int) pe_int) (fun _ _ => rfl)) pa_nil)))) (pxs_exp (px_methD D_Z43.all hr (pv 0) (pa_cons (pv 1) (pa_cons (pe_ix ix_list (pv 4) (pe_op op_mod (pe_op op_fdiv (pv 2) pe_int) pe_int) (fun _ _ => rfl)) (pa_cons (pe_op op_sub (pe_op op_mod (pe_op op_fdiv (pv 2) pe_int) pe_int) pe_int) pa_nil))))))) ⟨rfl, rfl⟩ (ph_consAs (i := 5) (by rfl) T.c_StowError sc_Z16.nd rfl rfl (fun x => (pss_cons (ps_set (i := 6) sc_Z16.nd rfl (Or.inl rfl) (pe_lst (pa_cons (pe_callB (call_isiX PySem.F.attr_ValueError.ga) (by rfl) T.n_isinstance PyProof.Rows.boot_isinstance (pa_cons (pv 5) (pa_cons (pe_glob (v := .ref Y14) (by rfl) T.c_NoAsk rfl) pa_nil))) (pa_cons (pe_callB (call_isiX PySem.F.attr_ValueError.ga) (by rfl) T.n_isinstance PyProof.Rows.boot_isinstance (pa_cons (pv 5) (pa_cons (pe_glob (v := .ref Y3) (by rfl) T.c_NoBound rfl) pa_nil))) (pa_cons (pe_callB (call_isiX PySem.F.attr_ValueError.ga) (by rfl) T.n_isinstance PyProof.Rows.boot_isinstance (pa_cons (pv 5) (pa_cons (pe_glob (v := .ref Y7) (by rfl) T.c_NoCell rfl) pa_nil))) (pa_cons (pe_callB (call_isiX PySem.F.attr_ValueError.ga) (by rfl) T.n_isinstance PyProof.Rows.boot_isinstance (pa_cons (pv 5) (pa_cons (pe_glob (v := .ref Y11) (by rfl) T.c_NoRoom rfl) pa_nil))) pa_nil)))))) (pss_cons (ps_set (i := 6) sc_Z16.nd rfl (Or.inl rfl) (pe_op op_cat (pv 6) (pe_lst (pa_cons (pe_callB (call_isiX PySem.F.attr_ValueError.ga) (by rfl) T.n_isinstance PyProof.Rows.boot_isinstance (pa_cons (pv 5) (pa_cons (pe_glob (v := .ref Y1) (by rfl) T.c_NoHandle rfl) pa_nil))) (pa_cons (pe_callB (call_isiX PySem.F.attr_ValueError.ga) (by rfl) T.n_isinstance PyProof.Rows.boot_isinstance (pa_cons (pv 5) (pa_cons (pe_glob (v := .ref Y10) (by rfl) T.c_NoName rfl) pa_nil))) (pa_cons (pe_callB (call_isiX PySem.F.attr_ValueError.ga) (by rfl) T.n_isinstance PyProof.Rows.boot_isinstance (pa_cons (pv 5) (pa_cons (pe_glob (v := .ref Y4) (by rfl) T.c_NoPiece rfl) pa_nil))) pa_nil)))))) (pss_cons (ps_set (i := 6) sc_Z16.nd rfl (Or.inl rfl) (pe_op op_cat (pv 6) (pe_lst (pa_cons (pe_callB (call_isiX PySem.F.attr_ValueError.ga) (by rfl) T.n_isinstance PyProof.Rows.boot_isinstance (pa_cons (pv 5) (pa_cons (pe_glob (v := .ref Y12) (by rfl) T.c_NoSize rfl) pa_nil))) (pa_cons (pe_callB (call_isiX PySem.F.attr_ValueError.ga) (by rfl) T.n_isinstance PyProof.Rows.boot_isinstance (pa_cons (pv 5) (pa_cons (pe_glob (v := .ref Y5) (by rfl) T.c_Broken rfl) pa_nil))) (pa_cons (pe_callB (call_isiX PySem.F.attr_ValueError.ga) (by rfl) T.n_isinstance PyProof.Rows.boot_isinstance (pa_cons (pv 5) (pa_cons (pe_glob (v := .ref Y2) (by rfl) T.c_BadLine rfl) pa_nil))) pa_nil)))))) (pss_cons (ps_set (i := 6) sc_Z16.nd rfl (Or.inl rfl) (pe_op op_cat (pv 6) (pe_lst (pa_cons (pe_callB (call_isiX PySem.F.attr_ValueError.ga) (by rfl) T.n_isinstance PyProof.Rows.boot_isinstance (pa_cons (pv 5) (pa_cons (pe_glob (v := .ref Y9) (by rfl) T.c_NoLine rfl) pa_nil))) (pa_cons (pe_callB (call_isiX PySem.F.attr_ValueError.ga) (by rfl) T.n_isinstance PyProof.Rows.boot_isinstance (pa_cons (pv 5) (pa_cons (pe_glob (v := .ref Y13) (by rfl) T.c_NoTurn rfl) pa_nil))) pa_nil))))) (pss_one (ps_set (i := 3) sc_Z16.nd rfl (Or.inl rfl) (pe_and (pe_callB (call_isiX PySem.F.attr_ValueError.ga) (by rfl) T.n_isinstance PyProof.Rows.boot_isinstance (pa_cons (pv 5) (pa_cons (pe_glob (v := .ref Y8) (by rfl) T.c_NoGive rfl) pa_nil))) (pe_and (pe_callB (call_isiX PySem.F.attr_ValueError.ga) (by rfl) T.n_isinstance PyProof.Rows.boot_isinstance (pa_cons (pv 5) (pa_cons (pe_bltn (v := .ty "ValueError") (by rfl) T.n_ValueError boot_ValueError rfl) pa_nil))) (pe_one (pe_cmpR op_notIn_seq pe_bl (pv 6) rfl))))))))))) ph_nil)) (pss_one (ps_ret (pv 3)))))), ?_⟩
 obtain ⟨x, dx, a, p, c0, rfl, hx, q⟩ := h
 have x1 := T.z_NoGive
 have i1 := T.i_NoGive_NoGive
 have i2 := T.i_NoGive_ValueError
 have j0 := T.i_NoGive_NoAsk
 have j1 := T.i_NoGive_NoBound
 have j2 := T.i_NoGive_NoCell
 have j3 := T.i_NoGive_NoRoom
 have j4 := T.i_NoGive_NoHandle
 have j5 := T.i_NoGive_NoName
 have j6 := T.i_NoGive_NoPiece
 have j7 := T.i_NoGive_NoSize
 have j8 := T.i_NoGive_Broken
 have j9 := T.i_NoGive_BadLine
 have j10 := T.i_NoGive_NoLine
 have j11 := T.i_NoGive_NoTurn
 have f0 := Int.emod_nonneg (c0 / 48) (show (2 : Int) ≠ 0 by decide)
 have f1 := Int.emod_lt_of_pos (c0 / 48) (show (0 : Int) < 2 by decide)
 walk_at "go"
 intro p1 m1
 have s1 : Same H (upd H p1 (.lst [.int (c0 * 48271 % 65537 % 9 - 2), .int (c0 * 69621 % 10 ^ (60 : Int).toNat)])) := Same.new m1
 have hp1 : upd H p1 (.lst [.int (c0 * 48271 % 65537 % 9 - 2), .int (c0 * 69621 % 10 ^ (60 : Int).toNat)]) p1 = some (.lst (([c0 * 48271 % 65537 % 9 - 2, c0 * 69621 % 10 ^ (60 : Int).toNat] : List Int).map V.int)) := upd_same
 generalize upd H p1 (.lst [.int (c0 * 48271 % 65537 % 9 - 2), .int (c0 * 69621 % 10 ^ (60 : Int).toNat)]) = H1 at s1 hp1 ⊢
 have hx1 := s1 x _ hx
 obtain ⟨ns, ens, hnl⟩ : ∃ ns : List Int, [c0 * 48271 % 65537 % 9 - 2, c0 * 69621 % 10 ^ (60 : Int).toNat] = ns ∧ ns.length = 2 := ⟨_, rfl, rfl⟩
 rw [ens] at hp1
 clear ens
 walk_at "go"
 refine r_ifd (fun _ => ?_) (fun _ => ?_)
 · walk_at "go"
   refine ⟨_, _, rfl, _, rfl, fun y hy => Or.inl ⟨T.f_NoGive_StowError, ?_⟩⟩
   have s2 := s1.put (o := ExcO y Y8 none) (s1.free hy)
   have hy2 : upd H1 y (ExcO y Y8 none) y = some (ExcO y Y8 none) := upd_same
   generalize upd H1 y (ExcO y Y8 none) = H2 at s2 hy2 ⊢
   walk_at "go"
   intro p2 m2
   walk_at "go"
   intro p3 m3
   walk_at "go"
   intro p4 m4
   walk_at "go"
   intro p5 m5
   walk_at "go"
   intro p6 m6
   walk_at "go"
   intro p7 m7
   walk_at "go"
   intro p8 m8
   walk_at "go"
   refine r_isiT (C := Y8) (od := none) (by walk_at "look") x1 i2 ?_
   walk_at "go"
   refine ⟨p8, _, rfl, Or.inl (SqL.of upd_same), rfl, rfl, ?_⟩
   walk_at "go"
   exact q _ (((((((s2.trans (Same.new m2)).trans (Same.new m3)).trans (Same.new m4)).trans (Same.new m5)).trans (Same.new m6)).trans (Same.new m7)).trans (Same.new m8))
 · walk_at "go"
   refine r_ifd (fun _ => ?_) (fun _ => ?_)
   · walk_at "go"
     refine ⟨_, _, _, _, rfl, _, rfl, fun y hy => Or.inl ⟨T.f_NoGive_StowError, ?_⟩⟩
     have s2 := s1.put (o := ExcO y Y8 none) (s1.free hy)
     have hy2 : upd H1 y (ExcO y Y8 none) y = some (ExcO y Y8 none) := upd_same
     generalize upd H1 y (ExcO y Y8 none) = H2 at s2 hy2 ⊢
     walk_at "go"
     intro p2 m2
     walk_at "go"
     intro p3 m3
     walk_at "go"
     intro p4 m4
     walk_at "go"
     intro p5 m5
     walk_at "go"
     intro p6 m6
     walk_at "go"
     intro p7 m7
     walk_at "go"
     intro p8 m8
     walk_at "go"
     refine r_isiT (C := Y8) (od := none) (by walk_at "look") x1 i2 ?_
     walk_at "go"
     refine ⟨p8, _, rfl, Or.inl (SqL.of upd_same), rfl, rfl, ?_⟩
     walk_at "go"
     exact q _ (((((((s2.trans (Same.new m2)).trans (Same.new m3)).trans (Same.new m4)).trans (Same.new m5)).trans (Same.new m6)).trans (Same.new m7)).trans (Same.new m8))
   · walk_at "go"
     refine ⟨_, _, _, _, rfl, _, rfl, fun y hy => Or.inl ⟨T.f_NoGive_StowError, ?_⟩⟩
     have s2 := s1.put (o := ExcO y Y8 none) (s1.free hy)
     have hy2 : upd H1 y (ExcO y Y8 none) y = some (ExcO y Y8 none) := upd_same
     generalize upd H1 y (ExcO y Y8 none) = H2 at s2 hy2 ⊢
     walk_at "go"
     intro p2 m2
     walk_at "go"
     intro p3 m3
     walk_at "go"
     intro p4 m4
     walk_at "go"
     intro p5 m5
     walk_at "go"
     intro p6 m6
     walk_at "go"
     intro p7 m7
     walk_at "go"
     intro p8 m8
     walk_at "go"
     refine r_isiT (C := Y8) (od := none) (by walk_at "look") x1 i2 ?_
     walk_at "go"
     refine ⟨p8, _, rfl, Or.inl (SqL.of upd_same), rfl, rfl, ?_⟩
     walk_at "go"
     exact q _ (((((((s2.trans (Same.new m2)).trans (Same.new m3)).trans (Same.new m4)).trans (Same.new m5)).trans (Same.new m6)).trans (Same.new m7)).trans (Same.new m8))
structure RwS (C x dx a lb kd : Addr) (cs ls : List Int) (kvs : List (Key × V)) (n : Nat) (H : Hp) : Prop where
 S : RoS C x dx a cs (rwP ls cs.length) H
 hl : cs.length = n
 hb : H lb = some (.lst (ls.map V.int))
 hk : H kd = some (.dK kvs)
 ne : a ≠ lb
 h3 : ∀ l ∈ ls, 3 ≤ l
 hs : sumI ls ≤ cs.length
 kn : KnW kvs cs (sumI ls)
theorem RwS.same {C x dx a lb kd : Addr} {cs ls : List Int} {kvs : List (Key × V)} {n : Nat} {H H' : Hp} (R : RwS C x dx a lb kd cs ls kvs n H) (s : Same H H') : RwS C x dx a lb kd cs ls kvs n H' :=
 ⟨R.S.same s, R.hl, s lb _ R.hb, s kd _ R.hk, R.ne, R.h3, R.hs, R.kn⟩
theorem RwS.few {C x dx a lb kd : Addr} {cs ls : List Int} {kvs : List (Key × V)} {n : Nat} {H : Hp} (R : RwS C x dx a lb kd cs ls kvs n H) : ls.length ≤ 1200 := by
 have h1 := (rowL_chain ls 0 R.h3).le
 rw [rowL_len] at h1
 have h2 := R.hs
 have h3 := R.S.hz
 omega
def spSeen (C : Addr) : Sp := fun vs H Q _ => ∃ (x dx a lb kd : Addr) (cs ls : List Int) (kvs : List (Key × V)) (n : Nat), vs = [.ref x, .ref lb, .ref kd, .int n] ∧ RwS C x dx a lb kd cs ls kvs n H ∧ ∀ H', Same H H' → Q (.bl true) H'
def SeW (f0 f1 f2 f3 f4 f5 : Option V) (Hf : Hp) (i : Nat) (σ : L2.St) (H' : Hp) : Prop := Hf = H' ∧ ∃ x6 : Option V, σ = [f0, f1, f2, f3, f4, f5, x6]
theorem d_Z38 (S : Src K mg "_law_seen" s_Z38) (T : Txt K mg Y0 Y10 Y12 Y5 Y8 Y1 Y4 Y7 Y14 Y3 Y11 Y2 Y9 Y13 Y6 Y15 W0_ W1_) (D_Z23 : Defx P w K mg base "_law_pieces" 1 ["_law_longs", "_law_size"] (spPiecesL)) (D_Z40 : Methx P w K mg base Y15 "cells" 1 ["self"] [] (spCellsK Y15)) (D_Z29 : Defx P w K mg base "_law_alike" 2 ["_law_found", "_law_due"] (spAlike)) (D_Z39 : Methx P w K mg base Y15 "pieces" 5 ["self"] [] (spPiecesK Y15)) (D_Z37 : Defx P w K mg base "_law_walk" 2 ["_law_cells"] (spWalkC K)) (D_Z34 : Defx P w K mg base "_law_whole" 1 ["_law_found"] (spWhole)) : Defx P w K mg base "_law_seen" 6 ["_law_keeper", "_law_longs", "_law_known", "_law_size"] (spSeen Y15) := by
 refine S.okx sc_Z38 bi_Z38 (fun vs H Q E h => by revert h; walk_at "len") (fun f cdv A outer s H vs Q E hr h => ?_)
 refine ⟨_, PSs.nox (pss_cons (ps_set (i := 4) sc_Z38.nd rfl (Or.inl rfl) (pe_defq D_Z23 hr (by rfl) (pa_cons (pv 1) (pa_cons (pv 3) pa_nil)))) (pss_cons (ps_set (i := 5) sc_Z38.nd rfl (Or.inl rfl) (pe_methp0 D_Z40 pass_e0 hr (pv 0))) (pss_cons (ps_if (PW.pt (pw_or (pt_not (pt_val (pe_defq D_Z29 hr (by rfl) (pa_cons (pe_methp0 D_Z39 pass_e0 hr (pv 0)) (pa_cons (pv 4) pa_nil))))) (pw_or1 (pt_cmpR (op_neLP hr.units) (pe_defq D_Z37 hr (by rfl) (pa_cons (pv 5) pa_nil)) (pv 4) (nomark _))))) (pss_one (ps_ret pe_bl)) pss_nil) (pss_cons (ps_forD PassesOwn.never rfl (pv 2) (pg_name (i := 6) sc_Z38.nd rfl (Or.inl rfl)) (pss_one (ps_if (PW.pt (pw_or (pt_not (pt_val (pe_defq D_Z34 hr (by rfl) (pa_cons (pe_ix ix_list (pv 5) (pv 6) (fun _ _ => rfl)) pa_nil)))) (pw_or1 (pt_cmpR op_ne (pe_ix ix_list (pv 5) (pv 6) (fun _ _ => rfl)) (pe_dget (units1 hr.units) (pv 2) (pv 6) (fun _ _ => rfl)) (nomark _))))) (pss_one (ps_ret pe_bl)) pss_nil))) (pss_one (ps_ret pe_bl)))))), ?_⟩
 obtain ⟨x, dx, a, lb, kd, cs, ls, kvs, n, rfl, R, q⟩ := h
 have few := R.few
 obtain ⟨S, hl, hb, hk, ne, h3, hs, kn⟩ := id R
 subst hl
 obtain ⟨hx, ha, hz, hc, mk⟩ := id S
 walk_at "go"
 refine ⟨lb, ls, _, rfl, hb, few, hs, fun due us H1 nd s1 hd pd => ?_⟩
 have S1 := S.same s1
 have hx1 := S1.hx
 have ha1 := S1.ha
 walk_at "go"
 refine ⟨x, dx, a, cs, rfl, hx1, ha1, fun ce H2 nc s2 hce => ?_⟩
 have S2 := S1.same s2
 have hx2 := S2.hx
 walk_at "go"
 refine ⟨x, dx, a, cs, _, rfl, S2, fun lp vs H3 nlp s3 hlp pa => ?_⟩
 have s23 := s2.trans s3
 walk_at "go"
 refine ⟨lp, due, vs, us, _, rfl, hlp, s23 due _ hd, pa, pd.same s23, ?_⟩
 walk_at "go"
 refine ⟨ce, cs, _, rfl, s3 ce _ hce, hc, mk, hz, fun wp ws H4 nw s4 hw4 pw => ?_⟩
 have s24 := s23.trans s4
 walk_at "go"
 refine ⟨wp, due, ws, us, _, rfl, rfl, hw4, s24 due _ hd, pw, pd.same s24, ?_⟩
 have s14 := s1.trans s24
 have hk4 := s14 kd _ hk
 have hce4 := (s3.trans s4) ce _ hce
 have hck : ce ≠ kd := fun e => by rw [e, hk4] at hce4; cases hce4
 walk_at "go"
 intro NF
 walk_at "go"
 refine ⟨kd, kvs, rfl, hk4, fun o nf => for_dict nf (SeW (some (.ref x)) (some (.ref lb)) (some (.ref kd)) (some (.int cs.length)) (some (.ref due)) (some (.ref ce)) (upd H4 kd (.frz o (.dK kvs)))) ⟨rfl, none, rfl⟩ (fun i σ H ⟨h, _⟩ => by rw [← h]; exact upd_same) ?_ ?_⟩
 · rintro i k v σ H5 hi ⟨rfl, x6, rfl⟩
   obtain ⟨j, m, rfl, hj, hv⟩ := kn.val hi
   have hjl : j < cs.length := (List.getElem?_eq_some_iff.mp hj).1
   have hce5 : upd H4 kd (.frz o (.dK kvs)) ce = some (.lst (cs.map V.int)) := look_ne hck hce4
   have eg : cs.getD (j : Int).toNat 0 = m := by
     rw [List.getD_eq_getElem?_getD, Int.toNat_natCast, hj]
     rfl
   have dg : DGet (upd H4 kd (.frz o (.dK kvs))) kd (.int j) (some (.int m)) := by
     have := dget_f (k := Sum.inl (j : Int)) (upd_same (H := H4) (a := kd) (o := .frz o (.dK kvs)))
     rw [hv] at this
     exact this
   generalize upd H4 kd (.frz o (.dK kvs)) = Hf at hce5 dg ⊢
   dsimp only [kV]
   walk_at "go"
   rw [eg]
   refine ⟨kd, .int m, rfl, dg, ?_⟩
   walk_at "go"
   exact ⟨rfl, _, rfl⟩
 · rintro σ H5 ⟨rfl, x6, rfl⟩
   walk_at "go"
   refine q _ fun b o' hb' => ?_
   have := s14 b o' hb'
   by_cases e : b = kd
   · subst e
     rw [hk4] at this
     rw [upd_same]
     exact this
   · rw [upd_ne e, upd_ne e]
     exact this
def StP (C x dx a lb kd : Addr) (n m : Nat) (H : Hp) (Q : VK) : Prop := ∀ (a' : Addr) (cs ls : List Int) (kvs : List (Key × V)) (H' : Hp), (∀ b o, b ≠ x → b ≠ a → b ≠ lb → b ≠ kd → H b = some o → H' b = some o) → (a' = a ∨ H a' = none) → RwS C x dx a' lb kd cs ls kvs n H' → kvs.length ≤ m + 1 → Q (.bl true) H'
def spStep (C : Addr) : Sp := fun vs H Q _ => ∃ (x dx a lb kd : Addr) (cs ls : List Int) (kvs : List (Key × V)) (n : Nat) (c0 : Int), vs = [.ref x, .ref lb, .ref kd, .int c0, .int n] ∧ RwS C x dx a lb kd cs ls kvs n H ∧ 1 ≤ n ∧ kvs.length ≤ 100 ∧ StP C x dx a lb kd n kvs.length H Q
theorem r_pickT {σ : L2.St} {H : Hp} {t : TT} {R : Bool → Hp → Prop} (P : Bool → Hp → Prop) (h : ∀ R' : Bool → Hp → Prop, (∀ b H1, P b H1 → R' b H1) → t σ H R') (k : ∀ b H1, P b H1 → R b H1) : t σ H R := h R k
theorem StP.of {C x dx a lb kd : Addr} {n m : Nat} {H H' : Hp} {Q : VK} (q : StP C x dx a lb kd n m H Q) (s : Same H H') : StP C x dx a lb kd n m H' Q :=
 fun a' cs ls kvs H'' k ha R l => q a' cs ls kvs H'' (fun b o h1 h2 h3 h4 h => k b o h1 h2 h3 h4 (s b o h)) (ha.imp id s.free) R l
theorem d_Z36 (S : Src K mg "_law_step" s_Z36) (T : Txt K mg Y0 Y10 Y12 Y5 Y8 Y1 Y4 Y7 Y14 Y3 Y11 Y2 Y9 Y13 Y6 Y15 W0_ W1_) (D_Z10 : Defx P w K mg base "_law_ask_told" 9 ["_law_keeper", "_law_count", "_law_bare"] (spTold Y15)) (D_Z34 : Defx P w K mg base "_law_whole" 1 ["_law_found"] (spWhole)) (D_Z21 : Defx P w K mg base "_law_number" 1 ["_law_cell"] (spNumber)) (D_put : Methx P w K mg base Y15 "put" 9 ["self", "place", "k", "number"] [] (spPut Y15)) (D_get : Methx P w K mg base Y15 "get" 9 ["self", "place", "k"] [] (spGet Y15)) (D_Z16 : Defx P w K mg base "_law_refused" 2 ["_law_keeper", "_law_place", "_law_cell"] (spRefused Y15)) (D_Z41 : Methx P w K mg base Y15 "clear" 3 ["self"] [] (spClear Y15)) : Defx P w K mg base "_law_step" 10 ["_law_keeper", "_law_longs", "_law_known", "_law_cell", "_law_size"] (spStep Y15) := by
 refine S.okx sc_Z36 bi_Z36 (fun vs H Q E h => by revert h; walk_at "len") (fun f cdv A outer s H vs Q E hr h => ?_)
 refine ⟨_, PSs.nox (pss_cons (ps_set (i := 5) sc_Z36.nd rfl (Or.inl rfl) (pe_op op_add pe_int (pe_op op_mod (pe_op op_mod (pe_op op_mul (pv 3) pe_int) pe_int) (pe_ix ix_list (pe_lst (pa_cons pe_int (pa_cons pe_int (pa_cons pe_int (pa_cons (pe_op op_pow pe_int pe_int) pa_nil))))) (pe_op op_mod (pe_op op_mod (pe_op op_mul (pv 3) pe_int) pe_int) pe_int) (fun _ _ => rfl))))) (pss_cons (ps_if (pt_cmpR op_eq (pe_op op_mod (pe_op op_mod (pe_op op_mul (pv 3) pe_int) pe_int) pe_int) pe_int (nomark _)) (pss_one (ps_set (i := 5) sc_Z36.nd rfl (Or.inl rfl) (pe_op op_sub (pe_op op_pow pe_int pe_int) (pv 5)))) pss_nil) (pss_cons (ps_set (i := 6) sc_Z36.nd rfl (Or.inl rfl) (pe_op op_mod (pv 3) pe_int)) (pss_cons (ps_if (PW.pt (pw_or (pt_cmpR op_lt (pv 6) pe_int (nomark _)) (pw_or1 (pt_cmpR (op_eqL hr.units) (pv 1) (pe_lst pa_nil) (nomark _))))) (pss_cons (ps_set (i := 7) sc_Z36.nd rfl (Or.inl rfl) (pe_tup (pa_cons pe_str (pa_cons (pe_op op_add (pe_callB (call_sumL rfl) (by rfl) T.n_sum PyProof.Rows.boot_sum (pa_cons (pv 1) pa_nil)) pe_int) pa_nil)))) (pss_cons (ps_if (pt_cmpR op_gt (pe_op op_add (pe_op op_add (pe_callB (call_sumL rfl) (by rfl) T.n_sum PyProof.Rows.boot_sum (pa_cons (pv 1) pa_nil)) (pv 5)) pe_int) (pv 4) (nomark _)) (pss_one (ps_set (i := 7) sc_Z36.nd rfl (Or.inl rfl) (pe_tup (pa_cons pe_str (pa_cons pe_int pa_nil))))) (pss_one (ps_expr (pe_bm PySem.F.plainAttrs_list PySem.F.slot_list_append PySem.F.type_list_append mt_append (pv 1) (pa_cons (pe_op op_add (pv 5) pe_int) pa_nil))))) (pss_cons (ps_set (i := 8) sc_Z36.nd rfl (Or.inl rfl) (pe_defq D_Z10 hr (by rfl) (pa_cons (pv 0) (pa_cons (pv 5) (pa_cons (pe_cmpR op_eq (pe_op op_mod (pe_op op_fdiv (pv 3) pe_int) pe_int) pe_int (nomark _)) pa_nil))))) (pss_one (ps_ret (pe_and (pe_defq D_Z34 hr (by rfl) (pa_cons (pe_ix ix_tup (pv 8) pe_int (fun _ _ => rfl)) pa_nil)) (pe_one (pe_cmpR (op_eqTG hr.units0) (pv 8) (pv 7) (nomark _))))))))) pss_nil) (pss_cons (ps_set (i := 9) sc_Z36.nd rfl (Or.inl rfl) (pe_op op_mod (pe_op op_mod (pe_op op_mul (pv 3) pe_int) pe_int) (pe_callB call_len_seq (by rfl) T.n_len PySem.boot_len (pa_cons (pv 1) pa_nil)))) (pss_cons (ps_set (i := 10) sc_Z36.nd rfl (Or.inl rfl) (pe_op op_add (pe_callB (call_sumL rfl) (by rfl) T.n_sum PyProof.Rows.boot_sum (pa_cons (pe_slice sl_list (pv 1) po_none (po_some (pv 9))) pa_nil)) pe_int)) (pss_cons (ps_if (pt_cmpR op_lt (pv 6) pe_int (nomark _)) (pss_cons (ps_set (i := 11) sc_Z36.nd rfl (Or.inl rfl) (pe_op op_mod (pe_op op_mod (pe_op op_mul (pv 3) pe_int) pe_int) (pe_op op_sub (pe_ix ix_list (pv 1) (pv 9) (fun _ _ => rfl)) pe_int))) (pss_cons (ps_dput (units1 hr.units) (pv 2) (pe_op op_add (pv 10) (pv 11)) (pe_defq D_Z21 hr (by rfl) (pa_cons (pe_op op_fdiv (pv 3) pe_int) pa_nil)) rfl) (pss_cons (ps_if (pt_cmpR op_notN (pe_methp D_put pass_e0 hr (pv 0) (pa_cons (pv 10) (pa_cons (pv 11) (pa_cons (pe_dget (units1 hr.units) (pv 2) (pe_op op_add (pv 10) (pv 11)) (fun _ _ => rfl)) pa_nil)))) pe_non (nomark _)) (pss_one (ps_ret pe_bl)) pss_nil) (pss_one (ps_ret (pe_and (pe_defq D_Z34 hr (by rfl) (pa_cons (pe_methp D_get pass_e0 hr (pv 0) (pa_cons (pv 10) (pa_cons (pv 11) pa_nil))) pa_nil)) (pe_one (pe_cmpR op_eq (pe_methp D_get pass_e0 hr (pv 0) (pa_cons (pv 10) (pa_cons (pv 11) pa_nil))) (pe_dget (units1 hr.units) (pv 2) (pe_op op_add (pv 10) (pv 11)) (fun _ _ => rfl)) (nomark _))))))))) pss_nil) (pss_cons (ps_if (PW.pt (pw_or (pt_cmpR op_lt (pv 6) pe_int (nomark _)) (pw_or1 (pt_cmpR op_ne (pe_op op_mod (pe_op op_fdiv (pv 3) pe_int) pe_int) pe_int (nomark _))))) (pss_one (ps_ret (pe_defq D_Z16 hr (by rfl) (pa_cons (pv 0) (pa_cons (pe_ix ix_list (pe_lst (pa_cons (pv 10) (pa_cons (pv 10) (pa_cons (pe_op op_sub (pe_op op_mod (pv 3) pe_int) pe_int) pa_nil)))) (pe_op op_mod (pe_op op_mod (pe_op op_mul (pv 3) pe_int) pe_int) pe_int) (fun _ _ => rfl)) (pa_cons (pv 3) pa_nil)))))) pss_nil) (pss_cons (ps_expr (pe_bm0 PySem.F.plainAttrs_list PySem.F.slot_list_clear PySem.F.type_list_clear mt_clear (pv 1))) (pss_cons (ps_expr (pe_bm0 PySem.F.plainAttrs_dict PySem.F.slot_dict_clear PySem.F.type_dict_clear mt_dclear (pv 2))) (pss_one (ps_ret (pe_cmpR op_isN (pe_methp0 D_Z41 pass_e0 hr (pv 0)) pe_non (nomark _)))))))))))))), ?_⟩
 obtain ⟨x, dx, a, lb, kd, cs, ls, kvs, n, c0, rfl, R, hn, hkl, q⟩ := h
 have j0 := Int.emod_nonneg (c0 * 16807 % 31337) (show (4 : Int) ≠ 0 by decide)
 have j1 := Int.emod_lt_of_pos (c0 * 16807 % 31337) (show (0 : Int) < 4 by decide)
 have hm : 0 < ([2, 6, 20, 10 ^ (60 : Int).toNat] : List Int).getD (c0 * 16807 % 31337 % 4).toNat 0 := by
   rcases (show (c0 * 16807 % 31337 % 4).toNat = 0 ∨ (c0 * 16807 % 31337 % 4).toNat = 1 ∨ (c0 * 16807 % 31337 % 4).toNat = 2 ∨ (c0 * 16807 % 31337 % 4).toNat = 3 by omega) with h | h | h | h <;> rw [h] <;> decide
 walk_at "go"
 intro p1 np1
 have s1 : Same H (upd H p1 (.lst [.int 2, .int 6, .int 20, .int (10 ^ (60 : Int).toNat)])) := Same.new np1
 have hp1 : upd H p1 (.lst [.int 2, .int 6, .int 20, .int (10 ^ (60 : Int).toNat)]) p1 = some (.lst (([2, 6, 20, 10 ^ (60 : Int).toNat] : List Int).map V.int)) := upd_same
 generalize upd H p1 (.lst [.int 2, .int 6, .int 20, .int (10 ^ (60 : Int).toNat)]) = H1 at s1 hp1 ⊢
 have u0 := Int.emod_nonneg (c0 * 48271) (show (65537 : Int) ≠ 0 by decide)
 have u1 := Int.emod_lt_of_pos (c0 * 48271) (show (0 : Int) < 65537 by decide)
 obtain ⟨mm, emm, hm⟩ : ∃ mm : Int, ([2, 6, 20, 10 ^ (60 : Int).toNat] : List Int).getD (c0 * 16807 % 31337 % 4).toNat 0 = mm ∧ 0 < mm := ⟨_, rfl, hm⟩
 walk_at "ge"
 rw [emm]
 clear emm
 walk_at "gs"
 have v0 := Int.emod_nonneg (c0 * 48271 % 65537) (show mm ≠ 0 by omega)
 have v1 : c0 * 48271 % 65537 % mm ≤ c0 * 48271 % 65537 := by
   rw [Int.emod_def _ mm]
   exact Int.sub_le_self _ (Int.mul_nonneg (by omega) (Int.ediv_nonneg u0 (by omega)))
 obtain ⟨ct, ect, ct1, ct2⟩ : ∃ ct : Int, 1 + c0 * 48271 % 65537 % mm = ct ∧ 1 ≤ ct ∧ ct ≤ 65537 := ⟨_, rfl, by omega, by omega⟩
 rw [ect]
 clear ect v0 v1 u0 u1 hm hp1
 refine r_seqM (M := fun σ' H' => H1 = H' ∧ ∃ Cn : Int, 1 ≤ Cn ∧ σ' = [some (.ref x), some (.ref lb), some (.ref kd), some (.int c0), some (.int n), some (.int Cn), none, none, none, none, none, none]) ?_ (fun nx hM => ?_)
 rotate_left
 · walk_at "go"
   refine r_ifd (fun h1 => ?_) (fun h1 => ?_)
   · walk_at "go"
     exact hM _ _ ⟨rfl, _, by have : (65538 : Int) ≤ 10 ^ (60 : Int).toNat := by decide
                              omega, rfl⟩
   · walk_at "go"
     exact hM _ _ ⟨rfl, _, ct1, rfl⟩
 rintro σ' H' ⟨rfl, Cn, hC, rfl⟩
 clear ct1 ct2 j0 j1
 have R1 := R.same s1
 have q1 := q.of s1
 clear R q s1 np1
 obtain ⟨S, hl, hb, hk, ne, h3, hs, kn⟩ := id R1
 obtain ⟨hx, ha, hz, hc, mk⟩ := id S
 have few := R1.few
 have h0 := sumI_nonneg h3
 walk_at "gs"
 refine r_seq ?_
 refine r_ifS ?_
 refine r_pickT (fun b H2 => Same H1 H2 ∧ (b = false → ¬ c0 % 16 < 6 ∧ ls ≠ [])) (fun R' hR' => ?_) (fun b H2 hP => ?_)
 · walk_at "go"
   refine r_ifd (fun h1 => ?_) (fun h1 => ?_)
   · exact hR' _ _ ⟨Same.refl _, fun z => by cases z⟩
   · walk_at "go"
     intro p2 np2
     walk_at "go"
     refine ⟨lb, p2, ls, [], rfl, rfl, SqL.of ((Same.new np2) lb _ hb), SqL.of upd_same, ?_⟩
     walk_at "go"
     exact hR' _ _ ⟨Same.new np2, fun z => ⟨h1, of_decide_eq_false z⟩⟩
 obtain ⟨s2, hP⟩ := hP
 have R2 := R1.same s2
 have q2 := q1.of s2
 clear R1 q1 s2 S hl hb hk ne h3 hs kn hx ha hz hc mk h0 few
 obtain ⟨S, hl, hb, hk, ne, h3, hs, kn⟩ := id R2
 subst hl
 obtain ⟨hx, ha, hz, hc, mk⟩ := id S
 have few := R2.few
 have h0 := sumI_nonneg h3
 have hxb : x ≠ lb := fun e => by rw [e, hb] at hx; cases hx
 have hkb : kd ≠ lb := fun e => by rw [e, hb] at hk; cases hk
 have hkx : kd ≠ x := fun e => by rw [e, hx] at hk; cases hk
 have hka : kd ≠ a := fun e => by rw [e, ha] at hk; cases hk
 have hxa : x ≠ a := fun e => by rw [e, ha] at hx; cases hx
 cases b with
 | true =>
   refine iteT ?_
   walk_at "go"
   refine ⟨lb, ls, rfl, hb, ?_⟩
   walk_at "go"
   intro t1 ht1
   have s3 : Same H2 (upd H2 t1 (.tup [.str "at", .int (sumI ls + 1)])) := Same.new ht1
   have ht3 : upd H2 t1 (.tup [.str "at", .int (sumI ls + 1)]) t1 = some (.tup [.str "at", .int (sumI ls + 1)]) := upd_same
   generalize upd H2 t1 (.tup [.str "at", .int (sumI ls + 1)]) = H3 at s3 ht3 ⊢
   have R3 := R2.same s3
   have q3 := q2.of s3
   have hb3 := R3.hb
   have hx3 := R3.S.hx
   walk_at "go"
   refine ⟨lb, ls, rfl, hb3, ?_⟩
   walk_at "go"
   refine r_ifd (fun hlt => ?_) (fun hlt => ?_)
   · walk_at "go"
     intro t2 ht2
     have s4 : Same H3 (upd H3 t2 (.tup [.str "no", .int 0])) := Same.new ht2
     have ht4 : upd H3 t2 (.tup [.str "no", .int 0]) t2 = some (.tup [.str "no", .int 0]) := upd_same
     generalize upd H3 t2 (.tup [.str "no", .int 0]) = H4 at s4 ht4 ⊢
     walk_at "go"
     refine ⟨x, dx, a, cs, ls, Cn, _, rfl, R3.S.same s4, h3, hs, by omega, hC, fun _ t H5 s5 ht => ?_, fun hle => absurd hle (by omega)⟩
     have ht5 := s5 t2 _ ht4
     walk_at "go"
     refine ⟨t, t2, _, _, rfl, rfl, SqT.of ht, SqT.of ht5, rfl, rfl, ?_⟩
     walk_at "go"
     have s45 := s4.trans s5
     exact q3 a cs ls kvs H5 (fun b o _ _ _ _ h => s45 b o h) (.inl rfl) (R3.same s45) (by omega)
   · walk_at "go"
     have hb4 : upd H3 lb (.lst ((ls ++ [Cn + 2]).map V.int)) lb = some (.lst ((ls ++ [Cn + 2]).map V.int)) := upd_same
     have S4 : RoS Y15 x dx a cs (rwP ls cs.length) (upd H3 lb (.lst ((ls ++ [Cn + 2]).map V.int))) := ⟨look_ne hxb hx3, look_ne ne R3.S.ha, hz, hc, mk⟩
     have k4 : KeepX lb H3 (upd H3 lb (.lst ((ls ++ [Cn + 2]).map V.int))) := KeepX.refl.put
     have ht4 : upd H3 lb (.lst ((ls ++ [Cn + 2]).map V.int)) t1 = some (.tup [.str "at", .int (sumI ls + 1)]) := look_ne (fun e => by rw [e, hb3] at ht3; cases ht3) ht3
     have hk4 : upd H3 lb (.lst ((ls ++ [Cn + 2]).map V.int)) kd = some (.dK kvs) := look_ne hkb R3.hk
     generalize upd H3 lb (.lst ((ls ++ [Cn + 2]).map V.int)) = H4 at hb4 S4 k4 ht4 hk4 ⊢
     walk_at "go"
     refine ⟨x, dx, a, cs, ls, Cn, _, rfl, S4, h3, hs, by omega, hC, fun hlt2 => absurd hlt2 (by omega), fun hle t a' cs' H5 na5 k5 l5 S5 out ht => ?_⟩
     have ht5 := k5 t1 _ (fun e => by rw [e, S4.hx] at ht4; cases ht4) ht4
     walk_at "go"
     refine ⟨t, t1, _, _, rfl, rfl, SqT.of ht, SqT.of ht5, rfl, rfl, ?_⟩
     walk_at "go"
     have na3 : H3 a' = none ∨ a' = lb := by
       cases e : H3 a' with
       | none => exact .inl rfl
       | some o =>
         by_cases eb : a' = lb
         · exact .inr eb
         · have := k4 a' o eb e
           rw [na5] at this
           cases this
     have hal : a' ≠ lb := fun e => by rw [e, hb4] at na5; cases na5
     have fin := q3 a' cs' (ls ++ [Cn + 2]) kvs H5 (fun b o h1 h2 h3 h4 h => k5 b o h1 (k4 b o h3 h)) (.inr (na3.resolve_right hal)) ⟨by rw [l5]; exact S5, l5, k5 lb _ (Ne.symm hxb) hb4, k5 kd _ hkx hk4, hal, fun l hl => (List.mem_append.mp hl).elim (h3 l) fun hl => by rw [List.mem_singleton.mp hl]; omega, by rw [sumI_snoc, l5]; omega, kn.keep (by rw [sumI_snoc]; omega) out⟩ (by omega)
     have ee : eqVs [V.str "at", V.int (sumI ls + 1)] [V.str "at", V.int (sumI ls + 1)] = true := eqVs_self rfl
     rw [ee]
     exact fin
 | false =>
   obtain ⟨hw6, hne⟩ := hP rfl
   refine iteF ?_
   have hlp : 0 < ls.length := by
     cases ls with
     | nil => exact absurd rfl hne
     | cons _ _ => rw [List.length_cons]; omega
   have i0 := Int.emod_nonneg (c0 * 40692 % 30011) (show (ls.length : Int) ≠ 0 by omega)
   have i1 := Int.emod_lt_of_pos (c0 * 40692 % 30011) (show (0 : Int) < ls.length by omega)
   obtain ⟨i, ei, hi0, hi1⟩ : ∃ i : Int, c0 * 40692 % 30011 % (ls.length : Int) = i ∧ 0 ≤ i ∧ i < ls.length := ⟨_, rfl, i0, i1⟩
   walk_at "go"
   rw [ei]
   clear i0 i1 ei
   intro p2 H3 np2 s3 hp2
   rw [cutI_to hi0 (by omega)] at hp2
   have R3 := R2.same s3
   have q3 := q2.of s3
   clear R2 q2
   obtain ⟨l, hil⟩ : ∃ l, ls[i.toNat]? = some l := ⟨_, List.getElem?_eq_getElem (by omega)⟩
   have hl3 := h3 l (List.mem_of_getElem? hil)
   obtain ⟨g0, g1⟩ := sumI_take h3 hil
   have hzm := rowP_mem (n := (cs.length : Int)) hil
   have egl : ls.getD i.toNat 0 = l := by
     rw [List.getD_eq_getElem?_getD, hil]
     rfl
   have hb3 := R3.hb
   have hx3 := R3.S.hx
   have hk3 := R3.hk
   walk_at "go"
   refine ⟨p2, _, rfl, hp2, ?_⟩
   generalize sumI (ls.take i.toNat) = sp at g0 g1 hzm ⊢
   clear hp2 np2 s3
   by_cases hw11 : c0 % 16 < 11
   · have k0 := Int.emod_nonneg (c0 * 69621 % 65521) (show l - 2 ≠ 0 by omega)
     have k1 := Int.emod_lt_of_pos (c0 * 69621 % 65521) (show 0 < l - 2 by omega)
     obtain ⟨k, ek, kk0, kk1⟩ : ∃ k : Int, c0 * 69621 % 65521 % (l - 2) = k ∧ 0 ≤ k ∧ k < l - 2 := ⟨_, rfl, k0, k1⟩
     walk_at "ge"
     walk_at "g1"
     walk_at "g1"
     rw [egl, ek]
     walk_at "go"
     refine ⟨_, rfl, fun m => ?_⟩
     walk_at "go"
     refine ⟨kd, _, rfl, DPut.k (k := Sum.inl (sp + 1 + k)) hk3 (small4000 (by omega)), ?_⟩
     have hkn : ((sp + 1 + k).toNat : Int) = sp + 1 + k := Int.toNat_of_nonneg (by omega)
     have hS4 : RoS Y15 x dx a cs (rwP ls cs.length) (upd H3 kd (.dK (putK kvs (Sum.inl (sp + 1 + k)) (.int m)))) := ⟨look_ne (Ne.symm hkx) hx3, look_ne (Ne.symm hka) R3.S.ha, hz, hc, mk⟩
     have hb4 : upd H3 kd (.dK (putK kvs (Sum.inl (sp + 1 + k)) (.int m))) lb = some (.lst (ls.map V.int)) := look_ne (Ne.symm hkb) hb3
     have hk4 : upd H3 kd (.dK (putK kvs (Sum.inl (sp + 1 + k)) (.int m))) kd = some (.dK (putK kvs (Sum.inl (sp + 1 + k)) (.int m))) := upd_same
     have k4 : KeepX kd H3 (upd H3 kd (.dK (putK kvs (Sum.inl (sp + 1 + k)) (.int m)))) := KeepX.refl.put
     generalize upd H3 kd (.dK (putK kvs (Sum.inl (sp + 1 + k)) (.int m))) = H4 at hS4 hb4 hk4 k4 ⊢
     have hx4 := hS4.hx
     have dg : ∀ {H' : Hp}, H' kd = some (.dK (putK kvs (Sum.inl (sp + 1 + k)) (.int m))) → DGet H' kd (.int (sp + 1 + k)) (some (.int m)) := fun {H'} h => by
       have := DGet.k (k := Sum.inl (sp + 1 + k)) h
       rw [valV_put, if_pos rfl] at this
       exact this
     walk_at "go"
     refine ⟨kd, .int m, rfl, dg hk4, ?_⟩
     walk_at "go"
     refine ⟨x, dx, a, cs, _, ⟨sp, l, true⟩, k, m, rfl, hS4, hzm, rfl, kk0, kk1, fun H5 k5 S5 => ?_⟩
     have S5 : RoS Y15 x dx a (cs.set (sp + 1 + k).toNat m) (rwP ls cs.length) H5 := S5
     have lc : (cs.set (sp + 1 + k).toNat m).length = cs.length := List.length_set
     have hgd : (cs.set (sp + 1 + k).toNat m).getD (sp + 1 + k).toNat 0 = m := by
       rw [List.getD_eq_getElem?_getD, List.getElem?_set_self (by omega)]
       rfl
     have kn2 := kn.put (j := (sp + 1 + k).toNat) (m := m) (by omega) (by omega)
     rw [hkn] at kn2
     generalize cs.set (sp + 1 + k).toNat m = cs2 at S5 lc hgd kn2
     have hx5 := S5.hx
     have hk5 := k5 kd _ hka hk4
     have hb5 := k5 lb _ (Ne.symm ne) hb4
     walk_at "go"
     refine ⟨x, dx, a, cs2, _, ⟨sp, l, true⟩, k, rfl, S5, hzm, rfl, kk0, kk1, fun H6 s6 => ?_⟩
     have S6 := S5.same s6
     have hx6 := S6.hx
     have hk6 := s6 kd _ hk5
     walk_at "go"
     refine ⟨x, dx, a, cs2, _, ⟨sp, l, true⟩, k, rfl, S6, hzm, rfl, kk0, kk1, fun H7 s7 => ?_⟩
     have hk7 := s7 kd _ hk6
     walk_at "go"
     refine ⟨kd, .int m, rfl, dg hk7, ?_⟩
     dsimp only
     rw [hgd]
     walk_at "go"
     have s57 := s6.trans s7
     have fin := q3 a cs2 ls _ H7 (fun b o h1 h2 h3 h4 h => s57 b o (k5 b o h2 (k4 b o h4 h))) (.inl rfl) ⟨by rw [lc]; exact S6.same s7, lc, s57 lb _ hb5, hk7, ne, h3, by rw [lc]; exact hs, kn2⟩ (length_putK _ _ _)
     first | exact fin | (rw [decide_eq_true rfl]; exact fin)
   · have e0 := Int.emod_nonneg (c0 * 69621 % 31337) (show (3 : Int) ≠ 0 by decide)
     have e1 := Int.emod_lt_of_pos (c0 * 69621 % 31337) (show (0 : Int) < 3 by decide)
     walk_at "go"
     refine r_ifd (fun h15 => ?_) (fun h15 => ?_)
     · walk_at "go"
       intro p3 np3
       have s4 : Same H3 (upd H3 p3 (.lst [.int (sp + 1), .int (sp + 1), .int (c0 % 500 - 50)])) := Same.new np3
       have hp4 : upd H3 p3 (.lst [.int (sp + 1), .int (sp + 1), .int (c0 % 500 - 50)]) p3 = some (.lst (([sp + 1, sp + 1, c0 % 500 - 50] : List Int).map V.int)) := upd_same
       generalize upd H3 p3 (.lst [.int (sp + 1), .int (sp + 1), .int (c0 % 500 - 50)]) = H4 at s4 hp4 ⊢
       obtain ⟨ns, ens, hnl⟩ : ∃ ns : List Int, [sp + 1, sp + 1, c0 % 500 - 50] = ns ∧ ns.length = 3 := ⟨_, rfl, rfl⟩
       rw [ens] at hp4
       walk_at "go"
       refine ⟨x, dx, a, _, c0, rfl, s4 x _ hx3, fun H5 s5 => ?_⟩
       have s45 := s4.trans s5
       walk_at "go"
       exact q3 a cs ls kvs H5 (fun b o _ _ _ _ h => s45 b o h) (.inl rfl) (R3.same s45) (by omega)
     · walk_at "go"
       refine r_ifd (fun h1 => ?_) (fun h1 => ?_)
       rotate_left
       · walk_at "go"
         intro p3 np3
         have s4 : Same H3 (upd H3 p3 (.lst [.int (sp + 1), .int (sp + 1), .int (c0 % 500 - 50)])) := Same.new np3
         have hp4 : upd H3 p3 (.lst [.int (sp + 1), .int (sp + 1), .int (c0 % 500 - 50)]) p3 = some (.lst (([sp + 1, sp + 1, c0 % 500 - 50] : List Int).map V.int)) := upd_same
         generalize upd H3 p3 (.lst [.int (sp + 1), .int (sp + 1), .int (c0 % 500 - 50)]) = H4 at s4 hp4 ⊢
         obtain ⟨ns, ens, hnl⟩ : ∃ ns : List Int, [sp + 1, sp + 1, c0 % 500 - 50] = ns ∧ ns.length = 3 := ⟨_, rfl, rfl⟩
         rw [ens] at hp4
         walk_at "go"
         refine ⟨x, dx, a, _, c0, rfl, s4 x _ hx3, fun H5 s5 => ?_⟩
         have s45 := s4.trans s5
         walk_at "go"
         exact q3 a cs ls kvs H5 (fun b o _ _ _ _ h => s45 b o h) (.inl rfl) (R3.same s45) (by omega)
       · walk_at "go"
         refine r_clearL hb3 ?_
         have hb4 : upd H3 lb (.lst []) lb = some (.lst (([] : List Int).map V.int)) := upd_same
         have hk4 : upd H3 lb (.lst []) kd = some (.dK kvs) := look_ne hkb hk3
         have hx4 : upd H3 lb (.lst []) x = _ := look_ne hxb hx3
         have ha4 : upd H3 lb (.lst []) a = _ := look_ne ne R3.S.ha
         have k4 : KeepX lb H3 (upd H3 lb (.lst [])) := KeepX.refl.put
         generalize upd H3 lb (.lst []) = H4 at hb4 hk4 hx4 ha4 k4 ⊢
         walk_at "go"
         refine r_dclear hk4 ?_
         have hb5 : upd H4 kd (.dK []) lb = some (.lst (([] : List Int).map V.int)) := look_ne (Ne.symm hkb) hb4
         have hk5 : upd H4 kd (.dK []) kd = some (.dK []) := upd_same
         have hx5 : upd H4 kd (.dK []) x = _ := look_ne (Ne.symm hkx) hx4
         have ha5 : upd H4 kd (.dK []) a = _ := look_ne (Ne.symm hka) ha4
         have k5 : KeepX kd H4 (upd H4 kd (.dK [])) := KeepX.refl.put
         generalize upd H4 kd (.dK []) = H5 at hb5 hk5 hx5 ha5 k5 ⊢
         walk_at "go"
         refine ⟨x, dx, a, cs, rfl, hx5, ha5, by omega, hz, fun a' cs' H6 na6 k6 l6 S6 => ?_⟩
         walk_at "go"
         have hal : a' ≠ lb := fun e => by rw [e, hb5] at na6; cases na6
         have hak : a' ≠ kd := fun e => by rw [e, hk5] at na6; cases na6
         have na3 : H3 a' = none := by
           cases e : H3 a' with
           | none => rfl
           | some o =>
             have := k5 a' o hak (k4 a' o hal e)
             rw [na6] at this
             cases this
         exact q3 a' cs' [] [] H6 (fun b o h1 h2 h3 h4 h => k6 b o h1 (k5 b o h4 (k4 b o h3 h))) (.inr na3) ⟨by rw [l6]; exact S6, l6, k6 lb _ (Ne.symm hxb) hb5, k6 kd _ hkx hk5, hal, (fun l hl => by cases hl), by show (0 : Int) ≤ _; omega, KnW.nil _ _⟩ (by rw [List.length_nil]; omega)
theorem seq_at {K : PySem.W.Frag} {H H' : Hp} {a : Addr} {xs : List V} (h : SqL K H a xs) (k : ∀ o, H a = some o → H' a = some o) : SqL K H' a xs := by
 rcases h with h | h
 · rcases h with h | ⟨o, h⟩
   · exact .inl (.inl (k _ h))
   · exact .inl (.inr ⟨o, k _ h⟩)
 · exact .inr h
def LwW (C sc x dx lb kd q1 : Addr) (zs : List Int) (n : Nat) (i : Nat) (σ : L2.St) (H' : Hp) : Prop :=
 ∃ (a : Addr) (cs ls : List Int) (kvs : List (Key × V)) (x5 : Option V), σ = [some (.ref sc), some (.int n), some (.ref x), some (.ref lb), some (.ref kd), x5] ∧ H' q1 = some (.lst (zs.map V.int)) ∧ a ≠ q1 ∧ lb ≠ q1 ∧ RwS C x dx a lb kd cs ls kvs n H' ∧ kvs.length ≤ i
theorem ok_law {f : Addr} {fd : FuncData} (F : Fun K "law" "law" s_law f fd) (T : Txt K mg Y0 Y10 Y12 Y5 Y8 Y1 Y4 Y7 Y14 Y3 Y11 Y2 Y9 Y13 Y6 Y15 W0_ W1_) (D_Z15 : Defx P w K mg base "_law_cell_at" 1 ["_law_script", "_law_k"] (spCell K)) (D_Row : Makex P w K mg base "Row" Y15 3 ["self", "size"] [] (spMk Y15)) (D_Z38 : Defx P w K mg base "_law_seen" 6 ["_law_keeper", "_law_longs", "_law_known", "_law_size"] (spSeen Y15)) (D_Z36 : Defx P w K mg base "_law_step" 10 ["_law_keeper", "_law_longs", "_law_known", "_law_cell", "_law_size"] (spStep Y15)) : FnOk P w K mg base (CXe P w) 11 f fd ["_law_script"] (spLaw K) := by
 refine fun_okx F sc_law (fun vs H Q E h => by revert h; walk_at "len") (fun cdv A outer s H vs Q E hr h => ?_)
 refine ⟨_, PSs.nox (pss_cons (ps_set (i := 1) sc_law.nd rfl (Or.inl rfl) (pe_op op_add pe_int (pe_op op_mod (pe_defq D_Z15 hr (by rfl) (pa_cons (pv 0) (pa_cons pe_int pa_nil))) pe_int))) (pss_cons (ps_if (pt_cmpR op_eq (pe_op op_mod (pe_op op_fdiv (pe_defq D_Z15 hr (by rfl) (pa_cons (pv 0) (pa_cons pe_int pa_nil))) pe_int) pe_int) pe_int (nomark _)) (pss_one (ps_set (i := 1) sc_law.nd rfl (Or.inl rfl) (pe_op op_add pe_int (pe_op op_mod (pe_op op_fdiv (pe_defq D_Z15 hr (by rfl) (pa_cons (pv 0) (pa_cons pe_int pa_nil))) pe_int) pe_int)))) pss_nil) (pss_cons (ps_set (i := 2) sc_law.nd rfl (Or.inl rfl) (pe_makep D_Row pass_e0 hr (by rfl) (pa_cons (pv 1) pa_nil))) (pss_cons (ps_set (i := 3) sc_law.nd rfl (Or.inl rfl) (pe_lst pa_nil)) (pss_cons (ps_set (i := 4) sc_law.nd rfl (Or.inl rfl) pe_dnewK) (pss_cons (ps_if (pt_not (pt_val (pe_defq D_Z38 hr (by rfl) (pa_cons (pv 2) (pa_cons (pv 3) (pa_cons (pv 4) (pa_cons (pv 1) pa_nil))))))) (pss_one (ps_ret pe_bl)) pss_nil) (pss_cons (ps_for PassesOwn.never rfl (pi_list (pe_slice sl_list (pv 0) (po_some pe_int) (po_some pe_int))) (pg_name (i := 5) sc_law.nd rfl (Or.inl rfl)) (pss_one (ps_if (PW.pt (pw_or (pt_not (pt_val (pe_defq D_Z36 hr (by rfl) (pa_cons (pv 2) (pa_cons (pv 3) (pa_cons (pv 4) (pa_cons (pv 5) (pa_cons (pv 1) pa_nil)))))))) (pw_or1 (pt_not (pt_val (pe_defq D_Z38 hr (by rfl) (pa_cons (pv 2) (pa_cons (pv 3) (pa_cons (pv 4) (pa_cons (pv 1) pa_nil)))))))))) (pss_one (ps_ret pe_bl)) pss_nil))) (pss_one (ps_ret pe_bl))))))))), ?_⟩
 obtain ⟨sc, ns, rfl, hS, hlen, kk⟩ := h
 have v0 := Int.emod_nonneg (ns.getD (0 : Int).toNat 0) (show (60 : Int) ≠ 0 by decide)
 have v1 := Int.emod_lt_of_pos (ns.getD (0 : Int).toNat 0) (show (0 : Int) < 60 by decide)
 have u0 := Int.emod_nonneg (ns.getD (0 : Int).toNat 0 / 240) (show (338 : Int) ≠ 0 by decide)
 have u1 := Int.emod_lt_of_pos (ns.getD (0 : Int).toNat 0 / 240) (show (0 : Int) < 338 by decide)
 walk_at "gs"
 refine r_seqM (M := fun σ' H' => H = H' ∧ ∃ n : Nat, 1 ≤ n ∧ n ≤ 400 ∧ σ' = [some (.ref sc), some (.int n), none, none, none, none]) ?_ (fun nx hM => ?_)
 rotate_left
 · walk_at "go"
   refine r_ifd (fun h1 => ?_) (fun h1 => ?_)
   · walk_at "go"
     exact hM _ _ ⟨rfl, (61 + ns.getD (0 : Int).toNat 0 / 240 % 338).toNat, by omega, by omega, (by rw [Int.toNat_of_nonneg (by omega)]; rfl)⟩
   · walk_at "go"
     exact hM _ _ ⟨rfl, (1 + ns.getD (0 : Int).toNat 0 % 60).toNat, by omega, by omega, (by rw [Int.toNat_of_nonneg (by omega)]; rfl)⟩
 rintro σ' H' ⟨rfl, n, n1, n2, rfl⟩
 clear v0 v1 u0 u1
 walk_at "go"
 intro x dx nx ndx nex
 have s6 : Same H (upd (upd H dx (.own x)) x (.ins Y15 dx [])) := (Same.new ndx).put nx
 have hx6 : upd (upd H dx (.own x)) x (.ins Y15 dx []) x = some (.ins Y15 dx []) := upd_same
 generalize upd (upd H dx (.own x)) x (.ins Y15 dx []) = H6 at s6 hx6 ⊢
 refine ⟨x, dx, n, rfl, hx6, by omega, by omega, fun a H7 na7 k7 hx7 ha7 => ⟨rfl, ?_⟩⟩
 have hS7 : SqL K H7 sc (ns.map V.int) := seq_at hS fun o h => k7 sc o (ne_of_none h nx) (s6 sc o h)
 obtain ⟨f1, f2⟩ := fresh_marks (n := (n : Int)) (by omega)
 have fl := freshI_len (show 0 ≤ (n : Int) by omega)
 have fl' : (freshI n).length = n := Int.ofNat.inj fl
 have e := rowP_nil (n := (n : Int)) (by omega)
 have S7 : RoS Y15 x dx a (freshI n) (rwP [] (freshI n).length) H7 := ⟨hx7, ha7, by omega, by rw [fl, e]; rw [fl] at f1; exact f1, by rw [fl, e]; exact f2⟩
 clear s6 hx6 k7 na7 hS nx ndx nex hx7 ha7 f1 f2 e
 generalize freshI n = cs at S7 fl fl'
 walk_at "go"
 intro lb hlb
 walk_at "go"
 intro kd hkd
 have s8 := (Same.new (o := .lst []) hlb).trans (Same.new (o := .dK []) hkd)
 have hb8 : upd (upd H7 lb (.lst [])) kd (.dK []) lb = some (.lst (([] : List Int).map V.int)) := (Same.new hkd) lb _ upd_same
 have hk8 : upd (upd H7 lb (.lst [])) kd (.dK []) kd = some (.dK []) := upd_same
 have hal : a ≠ lb := fun e => by rw [← e, S7.ha] at hlb; cases hlb
 have R8 : RwS Y15 x dx a lb kd cs [] [] n (upd (upd H7 lb (.lst [])) kd (.dK [])) := ⟨S7.same s8, fl', hb8, hk8, hal, (fun l hl => by cases hl), by show (0 : Int) ≤ _; omega, KnW.nil _ _⟩
 generalize upd (upd H7 lb (.lst [])) kd (.dK []) = H8 at s8 hb8 hk8 R8 ⊢
 have hS8 := s8.seq hS7
 clear s8 S7 hS7 hlb hkd hb8 hk8 hal
 walk_at "go"
 refine ⟨x, dx, a, lb, kd, cs, [], [], n, rfl, R8, fun H9 s9 => ?_⟩
 have R9 := R8.same s9
 have hS9 := s9.seq hS8
 clear R8 hS8 s9
 walk_at "go"
 intro q1 H10 mq1 s10 hq1
 have R10 := R9.same s10
 have naq : a ≠ q1 := fun e => by rw [← e, R9.S.ha] at mq1; cases mq1
 have nbq : lb ≠ q1 := fun e => by rw [← e, R9.hb] at mq1; cases mq1
 have hzl := cutI_lit ns 1 50
 have hzl : (cutI ns (some 1) (some 50)).length ≤ 49 := hzl
 generalize cutI ns (some 1) (some 50) = zs at hq1 hzl ⊢
 clear R9 hS9 mq1 s10
 refine ⟨q1, rfl, ⟨_, SqL.of hq1⟩, for_list (K := K) (a := q1) (xs := zs.map V.int) (LwW Y15 sc x dx lb kd q1 zs n) ⟨a, cs, [], [], none, rfl, hq1, naq, nbq, R10, Nat.le_refl _⟩ (fun i σ H2 _ ⟨_, _, _, _, _, _, h, _⟩ => SqL.of h) ?_ ?_⟩
 · rintro i y σ H2 hi ⟨a, cs, ls, kvs, x5, rfl, hq2, naq, nbq, R, hkl⟩
   rw [List.getElem?_map] at hi
   obtain ⟨c0, hc0, rfl⟩ := Option.map_eq_some_iff.mp hi
   have hil : i < zs.length := (List.getElem?_eq_some_iff.mp hc0).1
   have hx := R.S.hx
   have hk := R.hk
   walk_at "go"
   refine ⟨x, dx, a, lb, kd, cs, ls, kvs, n, c0, rfl, R, n1, by omega, fun a' cs' ls' kvs' H3 k3 ha3 R3 l3 => ?_⟩
   have hqx : q1 ≠ x := fun e => by rw [e, hx] at hq2; cases hq2
   have hqk : q1 ≠ kd := fun e => by rw [e, hk] at hq2; cases hq2
   have hq3 := k3 q1 _ hqx (Ne.symm naq) (Ne.symm nbq) hqk hq2
   have naq' : a' ≠ q1 := by
     rcases ha3 with e | e
     · rw [e]; exact naq
     · exact fun w => by rw [w, hq2] at e; cases e
   walk_at "go"
   refine ⟨x, dx, a', lb, kd, cs', ls', kvs', n, rfl, R3, fun H4 s4 => ?_⟩
   walk_at "go"
   exact ⟨a', cs', ls', kvs', _, rfl, s4 q1 _ hq3, naq', nbq, R3.same s4, by omega⟩
 · rintro σ H2 ⟨a, cs, ls, kvs, x5, rfl, hq2, naq, nbq, R, hkl⟩
   walk_at "go"
   exact kk _
end
theorem all_mk {l : PySem.W.OpenLaw} {w : World} {K : PySem.W.Frag} {h : Heap} {mg : Str → Option Value} {fa : Addr} (X : K.In h) (G : h.Ns mainGlobals mg) (hfa : mg "law" = some (.ref fa))
   {f_Z18 : Addr} {oc_Z18 kV_Z18 dc_Z18 pm_Z18 cd_Z18 ct_Z18 : Value} {od_Z18 an_Z18 : Option Addr} {sl_Z18 : Array (Option Value)}
   (a_Z18 : PySem.W.nsIn K mainGlobals "check_ask" = some (some (.ref f_Z18)))
   (l_Z18 : K.lookup f_Z18 = some ⟨oc_Z18, od_Z18, .func (PySem.W.fnOf "check_ask" "check_ask" (defArgs s_Z18) (defBody s_Z18) (defScope s_Z18) .none kV_Z18 dc_Z18 pm_Z18 an_Z18 cd_Z18 ct_Z18), sl_Z18⟩)
   (c_Z18 : PySem.W.codeIn K cd_Z18 "check_ask" = true)
   (k_Z18 : PySem.W.keepIn K (.ref f_Z18) = true)
   {f_Z2 : Addr} {oc_Z2 kV_Z2 dc_Z2 pm_Z2 cd_Z2 ct_Z2 : Value} {od_Z2 an_Z2 : Option Addr} {sl_Z2 : Array (Option Value)}
   (a_Z2 : PySem.W.nsIn K mainGlobals "check_plain_ask" = some (some (.ref f_Z2)))
   (l_Z2 : K.lookup f_Z2 = some ⟨oc_Z2, od_Z2, .func (PySem.W.fnOf "check_plain_ask" "check_plain_ask" (defArgs s_Z2) (defBody s_Z2) (defScope s_Z2) .none kV_Z2 dc_Z2 pm_Z2 an_Z2 cd_Z2 ct_Z2), sl_Z2⟩)
   (c_Z2 : PySem.W.codeIn K cd_Z2 "check_plain_ask" = true)
   (k_Z2 : PySem.W.keepIn K (.ref f_Z2) = true)
   {f_Z30 : Addr} {oc_Z30 kV_Z30 dc_Z30 pm_Z30 cd_Z30 ct_Z30 : Value} {od_Z30 an_Z30 : Option Addr} {sl_Z30 : Array (Option Value)}
   (a_Z30 : PySem.W.nsIn K mainGlobals "mark_of" = some (some (.ref f_Z30)))
   (l_Z30 : K.lookup f_Z30 = some ⟨oc_Z30, od_Z30, .func (PySem.W.fnOf "mark_of" "mark_of" (defArgs s_Z30) (defBody s_Z30) (defScope s_Z30) .none kV_Z30 dc_Z30 pm_Z30 an_Z30 cd_Z30 ct_Z30), sl_Z30⟩)
   (c_Z30 : PySem.W.codeIn K cd_Z30 "mark_of" = true)
   (k_Z30 : PySem.W.keepIn K (.ref f_Z30) = true)
   {f_Z32 : Addr} {oc_Z32 kV_Z32 dc_Z32 pm_Z32 cd_Z32 ct_Z32 : Value} {od_Z32 an_Z32 : Option Addr} {sl_Z32 : Array (Option Value)}
   (a_Z32 : PySem.W.nsIn K mainGlobals "long_of" = some (some (.ref f_Z32)))
   (l_Z32 : K.lookup f_Z32 = some ⟨oc_Z32, od_Z32, .func (PySem.W.fnOf "long_of" "long_of" (defArgs s_Z32) (defBody s_Z32) (defScope s_Z32) .none kV_Z32 dc_Z32 pm_Z32 an_Z32 cd_Z32 ct_Z32), sl_Z32⟩)
   (c_Z32 : PySem.W.codeIn K cd_Z32 "long_of" = true)
   (k_Z32 : PySem.W.keepIn K (.ref f_Z32) = true)
   {f_Z31 : Addr} {oc_Z31 kV_Z31 dc_Z31 pm_Z31 cd_Z31 ct_Z31 : Value} {od_Z31 an_Z31 : Option Addr} {sl_Z31 : Array (Option Value)}
   (a_Z31 : PySem.W.nsIn K mainGlobals "live_of" = some (some (.ref f_Z31)))
   (l_Z31 : K.lookup f_Z31 = some ⟨oc_Z31, od_Z31, .func (PySem.W.fnOf "live_of" "live_of" (defArgs s_Z31) (defBody s_Z31) (defScope s_Z31) .none kV_Z31 dc_Z31 pm_Z31 an_Z31 cd_Z31 ct_Z31), sl_Z31⟩)
   (c_Z31 : PySem.W.codeIn K cd_Z31 "live_of" = true)
   (k_Z31 : PySem.W.keepIn K (.ref f_Z31) = true)
   {f_Z19 : Addr} {oc_Z19 kV_Z19 dc_Z19 pm_Z19 cd_Z19 ct_Z19 : Value} {od_Z19 an_Z19 : Option Addr} {sl_Z19 : Array (Option Value)}
   (a_Z19 : PySem.W.nsIn K mainGlobals "can_begin" = some (some (.ref f_Z19)))
   (l_Z19 : K.lookup f_Z19 = some ⟨oc_Z19, od_Z19, .func (PySem.W.fnOf "can_begin" "can_begin" (defArgs s_Z19) (defBody s_Z19) (defScope s_Z19) .none kV_Z19 dc_Z19 pm_Z19 an_Z19 cd_Z19 ct_Z19), sl_Z19⟩)
   (c_Z19 : PySem.W.codeIn K cd_Z19 "can_begin" = true)
   (k_Z19 : PySem.W.keepIn K (.ref f_Z19) = true)
   {f_Z7 : Addr} {oc_Z7 kV_Z7 dc_Z7 pm_Z7 cd_Z7 ct_Z7 : Value} {od_Z7 an_Z7 : Option Addr} {sl_Z7 : Array (Option Value)}
   (a_Z7 : PySem.W.nsIn K mainGlobals "bad_of_piece" = some (some (.ref f_Z7)))
   (l_Z7 : K.lookup f_Z7 = some ⟨oc_Z7, od_Z7, .func (PySem.W.fnOf "bad_of_piece" "bad_of_piece" (defArgs s_Z7) (defBody s_Z7) (defScope s_Z7) .none kV_Z7 dc_Z7 pm_Z7 an_Z7 cd_Z7 ct_Z7), sl_Z7⟩)
   (c_Z7 : PySem.W.codeIn K cd_Z7 "bad_of_piece" = true)
   (k_Z7 : PySem.W.keepIn K (.ref f_Z7) = true)
   {f_Z35 : Addr} {oc_Z35 kV_Z35 dc_Z35 pm_Z35 cd_Z35 ct_Z35 : Value} {od_Z35 an_Z35 : Option Addr} {sl_Z35 : Array (Option Value)}
   (a_Z35 : PySem.W.nsIn K mainGlobals "looked" = some (some (.ref f_Z35)))
   (l_Z35 : K.lookup f_Z35 = some ⟨oc_Z35, od_Z35, .func (PySem.W.fnOf "looked" "looked" (defArgs s_Z35) (defBody s_Z35) (defScope s_Z35) .none kV_Z35 dc_Z35 pm_Z35 an_Z35 cd_Z35 ct_Z35), sl_Z35⟩)
   (c_Z35 : PySem.W.codeIn K cd_Z35 "looked" = true)
   (k_Z35 : PySem.W.keepIn K (.ref f_Z35) = true)
   {f_Z14 : Addr} {oc_Z14 kV_Z14 dc_Z14 pm_Z14 cd_Z14 ct_Z14 : Value} {od_Z14 an_Z14 : Option Addr} {sl_Z14 : Array (Option Value)}
   (a_Z14 : PySem.W.nsIn K mainGlobals "fresh_room" = some (some (.ref f_Z14)))
   (l_Z14 : K.lookup f_Z14 = some ⟨oc_Z14, od_Z14, .func (PySem.W.fnOf "fresh_room" "fresh_room" (defArgs s_Z14) (defBody s_Z14) (defScope s_Z14) .none kV_Z14 dc_Z14 pm_Z14 an_Z14 cd_Z14 ct_Z14), sl_Z14⟩)
   (c_Z14 : PySem.W.codeIn K cd_Z14 "fresh_room" = true)
   (k_Z14 : PySem.W.keepIn K (.ref f_Z14) = true)
   {f_Z44 : Addr} {oc_Z44 kV_Z44 dc_Z44 pm_Z44 cd_Z44 ct_Z44 : Value} {od_Z44 an_Z44 : Option Addr} {sl_Z44 : Array (Option Value)}
   (a_Z44 : PySem.W.nsIn K mainGlobals "laid" = some (some (.ref f_Z44)))
   (l_Z44 : K.lookup f_Z44 = some ⟨oc_Z44, od_Z44, .func (PySem.W.fnOf "laid" "laid" (defArgs s_Z44) (defBody s_Z44) (defScope s_Z44) .none kV_Z44 dc_Z44 pm_Z44 an_Z44 cd_Z44 ct_Z44), sl_Z44⟩)
   (c_Z44 : PySem.W.codeIn K cd_Z44 "laid" = true)
   (k_Z44 : PySem.W.keepIn K (.ref f_Z44) = true)
   {f_Z17 : Addr} {oc_Z17 kV_Z17 dc_Z17 pm_Z17 cd_Z17 ct_Z17 : Value} {od_Z17 an_Z17 : Option Addr} {sl_Z17 : Array (Option Value)}
   (a_Z17 : PySem.W.nsIn K mainGlobals "laid_free" = some (some (.ref f_Z17)))
   (l_Z17 : K.lookup f_Z17 = some ⟨oc_Z17, od_Z17, .func (PySem.W.fnOf "laid_free" "laid_free" (defArgs s_Z17) (defBody s_Z17) (defScope s_Z17) .none kV_Z17 dc_Z17 pm_Z17 an_Z17 cd_Z17 ct_Z17), sl_Z17⟩)
   (c_Z17 : PySem.W.codeIn K cd_Z17 "laid_free" = true)
   (k_Z17 : PySem.W.keepIn K (.ref f_Z17) = true)
   {f_Z20 : Addr} {oc_Z20 kV_Z20 dc_Z20 pm_Z20 cd_Z20 ct_Z20 : Value} {od_Z20 an_Z20 : Option Addr} {sl_Z20 : Array (Option Value)}
   (a_Z20 : PySem.W.nsIn K mainGlobals "piece_at" = some (some (.ref f_Z20)))
   (l_Z20 : K.lookup f_Z20 = some ⟨oc_Z20, od_Z20, .func (PySem.W.fnOf "piece_at" "piece_at" (defArgs s_Z20) (defBody s_Z20) (defScope s_Z20) .none kV_Z20 dc_Z20 pm_Z20 an_Z20 cd_Z20 ct_Z20), sl_Z20⟩)
   (c_Z20 : PySem.W.codeIn K cd_Z20 "piece_at" = true)
   (k_Z20 : PySem.W.keepIn K (.ref f_Z20) = true)
   {f_Z26 : Addr} {oc_Z26 kV_Z26 dc_Z26 pm_Z26 cd_Z26 ct_Z26 : Value} {od_Z26 an_Z26 : Option Addr} {sl_Z26 : Array (Option Value)}
   (a_Z26 : PySem.W.nsIn K mainGlobals "live_at" = some (some (.ref f_Z26)))
   (l_Z26 : K.lookup f_Z26 = some ⟨oc_Z26, od_Z26, .func (PySem.W.fnOf "live_at" "live_at" (defArgs s_Z26) (defBody s_Z26) (defScope s_Z26) .none kV_Z26 dc_Z26 pm_Z26 an_Z26 cd_Z26 ct_Z26), sl_Z26⟩)
   (c_Z26 : PySem.W.codeIn K cd_Z26 "live_at" = true)
   (k_Z26 : PySem.W.keepIn K (.ref f_Z26) = true)
   {f_Z28 : Addr} {oc_Z28 kV_Z28 dc_Z28 pm_Z28 cd_Z28 ct_Z28 : Value} {od_Z28 an_Z28 : Option Addr} {sl_Z28 : Array (Option Value)}
   (a_Z28 : PySem.W.nsIn K mainGlobals "free_at" = some (some (.ref f_Z28)))
   (l_Z28 : K.lookup f_Z28 = some ⟨oc_Z28, od_Z28, .func (PySem.W.fnOf "free_at" "free_at" (defArgs s_Z28) (defBody s_Z28) (defScope s_Z28) .none kV_Z28 dc_Z28 pm_Z28 an_Z28 cd_Z28 ct_Z28), sl_Z28⟩)
   (c_Z28 : PySem.W.codeIn K cd_Z28 "free_at" = true)
   (k_Z28 : PySem.W.keepIn K (.ref f_Z28) = true)
   {f_Z25 : Addr} {oc_Z25 kV_Z25 dc_Z25 pm_Z25 cd_Z25 ct_Z25 : Value} {od_Z25 an_Z25 : Option Addr} {sl_Z25 : Array (Option Value)}
   (a_Z25 : PySem.W.nsIn K mainGlobals "cut_out" = some (some (.ref f_Z25)))
   (l_Z25 : K.lookup f_Z25 = some ⟨oc_Z25, od_Z25, .func (PySem.W.fnOf "cut_out" "cut_out" (defArgs s_Z25) (defBody s_Z25) (defScope s_Z25) .none kV_Z25 dc_Z25 pm_Z25 an_Z25 cd_Z25 ct_Z25), sl_Z25⟩)
   (c_Z25 : PySem.W.codeIn K cd_Z25 "cut_out" = true)
   (k_Z25 : PySem.W.keepIn K (.ref f_Z25) = true)
   {f_Z27 : Addr} {oc_Z27 kV_Z27 dc_Z27 pm_Z27 cd_Z27 ct_Z27 : Value} {od_Z27 an_Z27 : Option Addr} {sl_Z27 : Array (Option Value)}
   (a_Z27 : PySem.W.nsIn K mainGlobals "carried" = some (some (.ref f_Z27)))
   (l_Z27 : K.lookup f_Z27 = some ⟨oc_Z27, od_Z27, .func (PySem.W.fnOf "carried" "carried" (defArgs s_Z27) (defBody s_Z27) (defScope s_Z27) .none kV_Z27 dc_Z27 pm_Z27 an_Z27 cd_Z27 ct_Z27), sl_Z27⟩)
   (c_Z27 : PySem.W.codeIn K cd_Z27 "carried" = true)
   (k_Z27 : PySem.W.keepIn K (.ref f_Z27) = true)
   {f_Z15 : Addr} {oc_Z15 kV_Z15 dc_Z15 pm_Z15 cd_Z15 ct_Z15 : Value} {od_Z15 an_Z15 : Option Addr} {sl_Z15 : Array (Option Value)}
   (a_Z15 : PySem.W.nsIn K mainGlobals "_law_cell_at" = some (some (.ref f_Z15)))
   (l_Z15 : K.lookup f_Z15 = some ⟨oc_Z15, od_Z15, .func (PySem.W.fnOf "_law_cell_at" "_law_cell_at" (defArgs s_Z15) (defBody s_Z15) (defScope s_Z15) .none kV_Z15 dc_Z15 pm_Z15 an_Z15 cd_Z15 ct_Z15), sl_Z15⟩)
   (c_Z15 : PySem.W.codeIn K cd_Z15 "_law_cell_at" = true)
   (k_Z15 : PySem.W.keepIn K (.ref f_Z15) = true)
   {f_Z34 : Addr} {oc_Z34 kV_Z34 dc_Z34 pm_Z34 cd_Z34 ct_Z34 : Value} {od_Z34 an_Z34 : Option Addr} {sl_Z34 : Array (Option Value)}
   (a_Z34 : PySem.W.nsIn K mainGlobals "_law_whole" = some (some (.ref f_Z34)))
   (l_Z34 : K.lookup f_Z34 = some ⟨oc_Z34, od_Z34, .func (PySem.W.fnOf "_law_whole" "_law_whole" (defArgs s_Z34) (defBody s_Z34) (defScope s_Z34) .none kV_Z34 dc_Z34 pm_Z34 an_Z34 cd_Z34 ct_Z34), sl_Z34⟩)
   (c_Z34 : PySem.W.codeIn K cd_Z34 "_law_whole" = true)
   (k_Z34 : PySem.W.keepIn K (.ref f_Z34) = true)
   {f_Z29 : Addr} {oc_Z29 kV_Z29 dc_Z29 pm_Z29 cd_Z29 ct_Z29 : Value} {od_Z29 an_Z29 : Option Addr} {sl_Z29 : Array (Option Value)}
   (a_Z29 : PySem.W.nsIn K mainGlobals "_law_alike" = some (some (.ref f_Z29)))
   (l_Z29 : K.lookup f_Z29 = some ⟨oc_Z29, od_Z29, .func (PySem.W.fnOf "_law_alike" "_law_alike" (defArgs s_Z29) (defBody s_Z29) (defScope s_Z29) .none kV_Z29 dc_Z29 pm_Z29 an_Z29 cd_Z29 ct_Z29), sl_Z29⟩)
   (c_Z29 : PySem.W.codeIn K cd_Z29 "_law_alike" = true)
   (k_Z29 : PySem.W.keepIn K (.ref f_Z29) = true)
   {f_Z37 : Addr} {oc_Z37 kV_Z37 dc_Z37 pm_Z37 cd_Z37 ct_Z37 : Value} {od_Z37 an_Z37 : Option Addr} {sl_Z37 : Array (Option Value)}
   (a_Z37 : PySem.W.nsIn K mainGlobals "_law_walk" = some (some (.ref f_Z37)))
   (l_Z37 : K.lookup f_Z37 = some ⟨oc_Z37, od_Z37, .func (PySem.W.fnOf "_law_walk" "_law_walk" (defArgs s_Z37) (defBody s_Z37) (defScope s_Z37) .none kV_Z37 dc_Z37 pm_Z37 an_Z37 cd_Z37 ct_Z37), sl_Z37⟩)
   (c_Z37 : PySem.W.codeIn K cd_Z37 "_law_walk" = true)
   (k_Z37 : PySem.W.keepIn K (.ref f_Z37) = true)
   {f_Z21 : Addr} {oc_Z21 kV_Z21 dc_Z21 pm_Z21 cd_Z21 ct_Z21 : Value} {od_Z21 an_Z21 : Option Addr} {sl_Z21 : Array (Option Value)}
   (a_Z21 : PySem.W.nsIn K mainGlobals "_law_number" = some (some (.ref f_Z21)))
   (l_Z21 : K.lookup f_Z21 = some ⟨oc_Z21, od_Z21, .func (PySem.W.fnOf "_law_number" "_law_number" (defArgs s_Z21) (defBody s_Z21) (defScope s_Z21) .none kV_Z21 dc_Z21 pm_Z21 an_Z21 cd_Z21 ct_Z21), sl_Z21⟩)
   (c_Z21 : PySem.W.codeIn K cd_Z21 "_law_number" = true)
   (k_Z21 : PySem.W.keepIn K (.ref f_Z21) = true)
   {f_Z23 : Addr} {oc_Z23 kV_Z23 dc_Z23 pm_Z23 cd_Z23 ct_Z23 : Value} {od_Z23 an_Z23 : Option Addr} {sl_Z23 : Array (Option Value)}
   (a_Z23 : PySem.W.nsIn K mainGlobals "_law_pieces" = some (some (.ref f_Z23)))
   (l_Z23 : K.lookup f_Z23 = some ⟨oc_Z23, od_Z23, .func (PySem.W.fnOf "_law_pieces" "_law_pieces" (defArgs s_Z23) (defBody s_Z23) (defScope s_Z23) .none kV_Z23 dc_Z23 pm_Z23 an_Z23 cd_Z23 ct_Z23), sl_Z23⟩)
   (c_Z23 : PySem.W.codeIn K cd_Z23 "_law_pieces" = true)
   (k_Z23 : PySem.W.keepIn K (.ref f_Z23) = true)
   {f_Z10 : Addr} {oc_Z10 kV_Z10 dc_Z10 pm_Z10 cd_Z10 ct_Z10 : Value} {od_Z10 an_Z10 : Option Addr} {sl_Z10 : Array (Option Value)}
   (a_Z10 : PySem.W.nsIn K mainGlobals "_law_ask_told" = some (some (.ref f_Z10)))
   (l_Z10 : K.lookup f_Z10 = some ⟨oc_Z10, od_Z10, .func (PySem.W.fnOf "_law_ask_told" "_law_ask_told" (defArgs s_Z10) (defBody s_Z10) (defScope s_Z10) .none kV_Z10 dc_Z10 pm_Z10 an_Z10 cd_Z10 ct_Z10), sl_Z10⟩)
   (c_Z10 : PySem.W.codeIn K cd_Z10 "_law_ask_told" = true)
   (k_Z10 : PySem.W.keepIn K (.ref f_Z10) = true)
   {f_Z16 : Addr} {oc_Z16 kV_Z16 dc_Z16 pm_Z16 cd_Z16 ct_Z16 : Value} {od_Z16 an_Z16 : Option Addr} {sl_Z16 : Array (Option Value)}
   (a_Z16 : PySem.W.nsIn K mainGlobals "_law_refused" = some (some (.ref f_Z16)))
   (l_Z16 : K.lookup f_Z16 = some ⟨oc_Z16, od_Z16, .func (PySem.W.fnOf "_law_refused" "_law_refused" (defArgs s_Z16) (defBody s_Z16) (defScope s_Z16) .none kV_Z16 dc_Z16 pm_Z16 an_Z16 cd_Z16 ct_Z16), sl_Z16⟩)
   (c_Z16 : PySem.W.codeIn K cd_Z16 "_law_refused" = true)
   (k_Z16 : PySem.W.keepIn K (.ref f_Z16) = true)
   {f_Z36 : Addr} {oc_Z36 kV_Z36 dc_Z36 pm_Z36 cd_Z36 ct_Z36 : Value} {od_Z36 an_Z36 : Option Addr} {sl_Z36 : Array (Option Value)}
   (a_Z36 : PySem.W.nsIn K mainGlobals "_law_step" = some (some (.ref f_Z36)))
   (l_Z36 : K.lookup f_Z36 = some ⟨oc_Z36, od_Z36, .func (PySem.W.fnOf "_law_step" "_law_step" (defArgs s_Z36) (defBody s_Z36) (defScope s_Z36) .none kV_Z36 dc_Z36 pm_Z36 an_Z36 cd_Z36 ct_Z36), sl_Z36⟩)
   (c_Z36 : PySem.W.codeIn K cd_Z36 "_law_step" = true)
   (k_Z36 : PySem.W.keepIn K (.ref f_Z36) = true)
   {f_Z38 : Addr} {oc_Z38 kV_Z38 dc_Z38 pm_Z38 cd_Z38 ct_Z38 : Value} {od_Z38 an_Z38 : Option Addr} {sl_Z38 : Array (Option Value)}
   (a_Z38 : PySem.W.nsIn K mainGlobals "_law_seen" = some (some (.ref f_Z38)))
   (l_Z38 : K.lookup f_Z38 = some ⟨oc_Z38, od_Z38, .func (PySem.W.fnOf "_law_seen" "_law_seen" (defArgs s_Z38) (defBody s_Z38) (defScope s_Z38) .none kV_Z38 dc_Z38 pm_Z38 an_Z38 cd_Z38 ct_Z38), sl_Z38⟩)
   (c_Z38 : PySem.W.codeIn K cd_Z38 "_law_seen" = true)
   (k_Z38 : PySem.W.keepIn K (.ref f_Z38) = true)
   {f_law : Addr} {oc_law kV_law dc_law pm_law cd_law ct_law : Value} {od_law an_law : Option Addr} {sl_law : Array (Option Value)}
   (a_law : PySem.W.nsIn K mainGlobals "law" = some (some (.ref f_law)))
   (l_law : K.lookup f_law = some ⟨oc_law, od_law, .func (PySem.W.fnOf "law" "law" (defArgs s_law) (defBody s_law) (defScope s_law) .none kV_law dc_law pm_law an_law cd_law ct_law), sl_law⟩)
   (c_law : PySem.W.codeIn K cd_law "law" = true)
   (k_law : PySem.W.keepIn K (.ref f_law) = true)
   {W0_ : Tok}
   {W1_ : Tok}
   {Y0 Y10 Y12 Y5 Y8 Y1 Y4 Y7 Y14 Y3 Y11 Y2 Y9 Y13 Y6 Y15 : Addr}
   (z_ValueError : PySem.W.nsIn K mainGlobals "ValueError" = some none)
   (z_bool : PySem.W.nsIn K mainGlobals "bool" = some none)
   (z_int : PySem.W.nsIn K mainGlobals "int" = some none)
   (z_isinstance : PySem.W.nsIn K mainGlobals "isinstance" = some none)
   (z_len : PySem.W.nsIn K mainGlobals "len" = some none)
   (z_list : PySem.W.nsIn K mainGlobals "list" = some none)
   (z_sum : PySem.W.nsIn K mainGlobals "sum" = some none)
   (z_tuple : PySem.W.nsIn K mainGlobals "tuple" = some none)
   (g_LEAST_LIVE : PySem.W.nsIn K mainGlobals "LEAST_LIVE" = some (some (.int 3 W0_)))
   (g_MARKS : PySem.W.nsIn K mainGlobals "MARKS" = some (some (.int 2 W1_)))
   (cc_StowError : PySem.W.nsIn K mainGlobals "StowError" = some (some (.ref Y0)))
   (cc_NoName : PySem.W.nsIn K mainGlobals "NoName" = some (some (.ref Y10)))
   (cc_NoSize : PySem.W.nsIn K mainGlobals "NoSize" = some (some (.ref Y12)))
   (cc_Broken : PySem.W.nsIn K mainGlobals "Broken" = some (some (.ref Y5)))
   (cc_NoGive : PySem.W.nsIn K mainGlobals "NoGive" = some (some (.ref Y8)))
   (cc_NoHandle : PySem.W.nsIn K mainGlobals "NoHandle" = some (some (.ref Y1)))
   (cc_NoPiece : PySem.W.nsIn K mainGlobals "NoPiece" = some (some (.ref Y4)))
   (cc_NoCell : PySem.W.nsIn K mainGlobals "NoCell" = some (some (.ref Y7)))
   (cc_NoAsk : PySem.W.nsIn K mainGlobals "NoAsk" = some (some (.ref Y14)))
   (cc_NoBound : PySem.W.nsIn K mainGlobals "NoBound" = some (some (.ref Y3)))
   (cc_NoRoom : PySem.W.nsIn K mainGlobals "NoRoom" = some (some (.ref Y11)))
   (cc_BadLine : PySem.W.nsIn K mainGlobals "BadLine" = some (some (.ref Y2)))
   (cc_NoLine : PySem.W.nsIn K mainGlobals "NoLine" = some (some (.ref Y9)))
   (cc_NoTurn : PySem.W.nsIn K mainGlobals "NoTurn" = some (some (.ref Y13)))
   (cc_Keeper : PySem.W.nsIn K mainGlobals "Keeper" = some (some (.ref Y6)))
   (cc_Row : PySem.W.nsIn K mainGlobals "Row" = some (some (.ref Y15)))
   (s1_Broken : PySem.W.findIn K (.ref Y5) "__setattr__" = some (some (.builtin "object.__setattr__")))
   {cd_Broken : ClassData}
   (s2_Broken : PySem.W.clsIn K Y5 = some cd_Broken)
   (s5_Broken : excTail cd_Broken.mro = true)
   (s6_Broken : cd_Broken.hasDict = true)
   (s3_Broken : PySem.W.mroIn K Y5 (.type "object") = some true)
   (s4_Broken : PySem.W.findIn K (.ref Y5) "cell" = some none)
   (xx_NoSize : PySem.W.excIn K Y12 [.type "ValueError", .type "Exception", .type "BaseException", .type "object"] "ValueError.__new__" = true)
   (xx_NoPiece : PySem.W.excIn K Y4 [.type "ValueError", .type "Exception", .type "BaseException", .type "object"] "ValueError.__new__" = true)
   (xx_NoRoom : PySem.W.excIn K Y11 [.type "ValueError", .type "Exception", .type "BaseException", .type "object"] "ValueError.__new__" = true)
   (xx_NoGive : PySem.W.excIn K Y8 [.type "ValueError", .type "Exception", .type "BaseException", .type "object"] "ValueError.__new__" = true)
   (pg_Row : PySem.W.plainGet K Y15 Str.empty = true)
   (hd_Row : PySem.W.hasDictIn K Y15 = true)
   (po_Row : PySem.W.plainOver K Y15 = true)
   (sa_Row : PySem.W.findIn K (.ref Y15) "__setattr__" = some (some (.builtin "object.__setattr__")))
   (na_Row_room_cells : PySem.W.findIn K (.ref Y15) "room_cells" = some none)
   {nm_NoRoom qn_NoRoom : Str} {N_NoRoom : Addr} {bs_NoRoom bm_NoRoom : List Value} {hd_NoRoom : Bool} {sn_NoRoom : List Str} {sub_NoRoom : List Value} {ab_NoRoom : Bool} {col_NoRoom : Option Bool} {dd_NoRoom : Option Addr} {k0_NoRoom k1_NoRoom k2_NoRoom k3_NoRoom k5_NoRoom : Option Value} {ni_NoRoom : String}
   (lc_NoRoom : K.lookup Y11 = some (excClassObj nm_NoRoom qn_NoRoom Y11 N_NoRoom bs_NoRoom bm_NoRoom hd_NoRoom sn_NoRoom sub_NoRoom ab_NoRoom col_NoRoom dd_NoRoom k0_NoRoom k1_NoRoom k2_NoRoom k3_NoRoom k5_NoRoom ni_NoRoom))
   (fb_NoRoom : (Value.ref Y11 :: bm_NoRoom).contains (.type "BaseException") = true)
   (fm_NoRoom_NoRoom : (Value.ref Y11 :: bm_NoRoom).contains (.ref Y11) = true)
   {nm_NoGive qn_NoGive : Str} {N_NoGive : Addr} {bs_NoGive bm_NoGive : List Value} {hd_NoGive : Bool} {sn_NoGive : List Str} {sub_NoGive : List Value} {ab_NoGive : Bool} {col_NoGive : Option Bool} {dd_NoGive : Option Addr} {k0_NoGive k1_NoGive k2_NoGive k3_NoGive k5_NoGive : Option Value} {ni_NoGive : String}
   (lc_NoGive : K.lookup Y8 = some (excClassObj nm_NoGive qn_NoGive Y8 N_NoGive bs_NoGive bm_NoGive hd_NoGive sn_NoGive sub_NoGive ab_NoGive col_NoGive dd_NoGive k0_NoGive k1_NoGive k2_NoGive k3_NoGive k5_NoGive ni_NoGive))
   {nm_StowError qn_StowError : Str} {N_StowError : Addr} {bs_StowError bm_StowError : List Value} {hd_StowError : Bool} {sn_StowError : List Str} {sub_StowError : List Value} {ab_StowError : Bool} {col_StowError : Option Bool} {dd_StowError : Option Addr} {k0_StowError k1_StowError k2_StowError k3_StowError k5_StowError : Option Value} {ni_StowError : String}
   (lc_StowError : K.lookup Y0 = some (excClassObj nm_StowError qn_StowError Y0 N_StowError bs_StowError bm_StowError hd_StowError sn_StowError sub_StowError ab_StowError col_StowError dd_StowError k0_StowError k1_StowError k2_StowError k3_StowError k5_StowError ni_StowError))
   (fb_StowError : (Value.ref Y0 :: bm_StowError).contains (.type "BaseException") = true)
   (fm_NoGive_StowError : (Value.ref Y8 :: bm_NoGive).contains (.ref Y0) = true)
   (g1_NoGive : PySem.W.findIn K (.ref Y8) "__getattribute__" = some (some (.builtin "BaseException.__getattribute__")))
   (g2_NoGive : PySem.W.findIn K (.ref Y8) "__getattr__" = some none)
   (g3_NoGive : PySem.W.findIn K (.ref Y8) "__class__" = some (some (.builtin "object.__class__")))
   (g4_NoGive : PySem.W.mroIn K Y8 (.type "object") = some true)
   (g5_NoGive : PySem.W.mroIn K Y8 (.type "BaseException") = some true)
   (i_NoGive_NoGive : PySem.W.kitOne K (.ref Y8) (.ref Y8) = some true)
   (i_NoGive_ValueError : PySem.W.kitOne K (.ref Y8) (.type "ValueError") = some true)
   (i_NoGive_NoAsk : PySem.W.kitOne K (.ref Y8) (.ref Y14) = some false)
   (i_NoGive_NoBound : PySem.W.kitOne K (.ref Y8) (.ref Y3) = some false)
   (i_NoGive_NoCell : PySem.W.kitOne K (.ref Y8) (.ref Y7) = some false)
   (i_NoGive_NoRoom : PySem.W.kitOne K (.ref Y8) (.ref Y11) = some false)
   (i_NoGive_NoHandle : PySem.W.kitOne K (.ref Y8) (.ref Y1) = some false)
   (i_NoGive_NoName : PySem.W.kitOne K (.ref Y8) (.ref Y10) = some false)
   (i_NoGive_NoPiece : PySem.W.kitOne K (.ref Y8) (.ref Y4) = some false)
   (i_NoGive_NoSize : PySem.W.kitOne K (.ref Y8) (.ref Y12) = some false)
   (i_NoGive_Broken : PySem.W.kitOne K (.ref Y8) (.ref Y5) = some false)
   (i_NoGive_BadLine : PySem.W.kitOne K (.ref Y8) (.ref Y2) = some false)
   (i_NoGive_NoLine : PySem.W.kitOne K (.ref Y8) (.ref Y9) = some false)
   (i_NoGive_NoTurn : PySem.W.kitOne K (.ref Y8) (.ref Y13) = some false)
   {nm_Broken qn_Broken : Str} {N_Broken : Addr} {bs_Broken bm_Broken : List Value} {hd_Broken : Bool} {sn_Broken : List Str} {sub_Broken : List Value} {ab_Broken : Bool} {col_Broken : Option Bool} {dd_Broken : Option Addr} {k0_Broken k1_Broken k2_Broken k3_Broken k5_Broken : Option Value} {ni_Broken : String}
   (lc_Broken : K.lookup Y5 = some (excClassObj nm_Broken qn_Broken Y5 N_Broken bs_Broken bm_Broken hd_Broken sn_Broken sub_Broken ab_Broken col_Broken dd_Broken k0_Broken k1_Broken k2_Broken k3_Broken k5_Broken ni_Broken))
   (xx_StowError : PySem.W.excIn K Y0 [.type "ValueError", .type "Exception", .type "BaseException", .type "object"] "ValueError.__new__" = true)
   (kp_Broken : PySem.W.keepIn K (.ref Y5) = true)
   {f_Broken_init : Addr} {oc_Broken_init kV_Broken_init dc_Broken_init pm_Broken_init cd_Broken_init ct_Broken_init : Value} {od_Broken_init an_Broken_init : Option Addr} {sl_Broken_init : Array (Option Value)}
   (a_Broken_init : PySem.W.findIn K (.ref Y5) "__init__" = some (some (.ref f_Broken_init)))
   (l_Broken_init : K.lookup f_Broken_init = some ⟨oc_Broken_init, od_Broken_init, .func (PySem.W.fnOf "__init__" "Broken.__init__" (defArgs s_Broken_init) (defBody s_Broken_init) (defScope s_Broken_init) .none kV_Broken_init dc_Broken_init pm_Broken_init an_Broken_init cd_Broken_init ct_Broken_init), sl_Broken_init⟩)
   (c_Broken_init : PySem.W.codeIn K cd_Broken_init "Broken.__init__" = true)
   (k_Broken_init : PySem.W.keepIn K (.ref f_Broken_init) = true)
   (eb_Broken : bm_Broken = .ref Y0 :: [.type "ValueError", .type "Exception", .type "BaseException", .type "object"])
   (en_Broken : ni_Broken = "ValueError.__new__")
   (eo_Broken : oc_Broken_init = .type "function")
   {f_Keeper_init : Addr} {oc_Keeper_init kV_Keeper_init dc_Keeper_init pm_Keeper_init cd_Keeper_init ct_Keeper_init : Value} {od_Keeper_init an_Keeper_init : Option Addr} {sl_Keeper_init : Array (Option Value)}
   (a_Keeper_init : PySem.W.findIn K (.ref Y15) "__init__" = some (some (.ref f_Keeper_init)))
   (l_Keeper_init : K.lookup f_Keeper_init = some ⟨oc_Keeper_init, od_Keeper_init, .func (PySem.W.fnOf "__init__" "Keeper.__init__" (defArgs s_Keeper_init) (defBody s_Keeper_init) (defScope s_Keeper_init) .none kV_Keeper_init dc_Keeper_init pm_Keeper_init an_Keeper_init cd_Keeper_init ct_Keeper_init), sl_Keeper_init⟩)
   (c_Keeper_init : PySem.W.codeIn K cd_Keeper_init "Keeper.__init__" = true)
   (k_Keeper_init : PySem.W.keepIn K (.ref f_Keeper_init) = true)
   (if_Keeper_init : PySem.W.isFn K (.ref f_Keeper_init) = true)
   (mk_Row : PySem.W.makesIn K Y15 = true)
   (kp_Row : PySem.W.keepIn K (.ref Y15) = true)
   {f_Z1 : Addr} {oc_Z1 kV_Z1 dc_Z1 pm_Z1 cd_Z1 ct_Z1 : Value} {od_Z1 an_Z1 : Option Addr} {sl_Z1 : Array (Option Value)}
   (a_Z1 : PySem.W.findIn K (.ref Y15) "room_begin" = some (some (.ref f_Z1)))
   (l_Z1 : K.lookup f_Z1 = some ⟨oc_Z1, od_Z1, .func (PySem.W.fnOf "room_begin" "Keeper.room_begin" (defArgs s_Z1) (defBody s_Z1) (defScope s_Z1) .none kV_Z1 dc_Z1 pm_Z1 an_Z1 cd_Z1 ct_Z1), sl_Z1⟩)
   (c_Z1 : PySem.W.codeIn K cd_Z1 "Keeper.room_begin" = true)
   (k_Z1 : PySem.W.keepIn K (.ref f_Z1) = true)
   (if_Z1 : PySem.W.isFn K (.ref f_Z1) = true)
   {f_Z13 : Addr} {oc_Z13 kV_Z13 dc_Z13 pm_Z13 cd_Z13 ct_Z13 : Value} {od_Z13 an_Z13 : Option Addr} {sl_Z13 : Array (Option Value)}
   (a_Z13 : PySem.W.findIn K (.ref Y15) "lay" = some (some (.ref f_Z13)))
   (l_Z13 : K.lookup f_Z13 = some ⟨oc_Z13, od_Z13, .func (PySem.W.fnOf "lay" "Keeper.lay" (defArgs s_Z13) (defBody s_Z13) (defScope s_Z13) .none kV_Z13 dc_Z13 pm_Z13 an_Z13 cd_Z13 ct_Z13), sl_Z13⟩)
   (c_Z13 : PySem.W.codeIn K cd_Z13 "Keeper.lay" = true)
   (k_Z13 : PySem.W.keepIn K (.ref f_Z13) = true)
   (if_Z13 : PySem.W.isFn K (.ref f_Z13) = true)
   {f_Z3 : Addr} {oc_Z3 kV_Z3 dc_Z3 pm_Z3 cd_Z3 ct_Z3 : Value} {od_Z3 an_Z3 : Option Addr} {sl_Z3 : Array (Option Value)}
   (a_Z3 : PySem.W.findIn K (.ref Y15) "pieces" = some (some (.ref f_Z3)))
   (l_Z3 : K.lookup f_Z3 = some ⟨oc_Z3, od_Z3, .func (PySem.W.fnOf "pieces" "Keeper.pieces" (defArgs s_Z3) (defBody s_Z3) (defScope s_Z3) .none kV_Z3 dc_Z3 pm_Z3 an_Z3 cd_Z3 ct_Z3), sl_Z3⟩)
   (c_Z3 : PySem.W.codeIn K cd_Z3 "Keeper.pieces" = true)
   (k_Z3 : PySem.W.keepIn K (.ref f_Z3) = true)
   (if_Z3 : PySem.W.isFn K (.ref f_Z3) = true)
   {f_Z4 : Addr} {oc_Z4 kV_Z4 dc_Z4 pm_Z4 cd_Z4 ct_Z4 : Value} {od_Z4 an_Z4 : Option Addr} {sl_Z4 : Array (Option Value)}
   (a_Z4 : PySem.W.findIn K (.ref Y15) "cells" = some (some (.ref f_Z4)))
   (l_Z4 : K.lookup f_Z4 = some ⟨oc_Z4, od_Z4, .func (PySem.W.fnOf "cells" "Keeper.cells" (defArgs s_Z4) (defBody s_Z4) (defScope s_Z4) .none kV_Z4 dc_Z4 pm_Z4 an_Z4 cd_Z4 ct_Z4), sl_Z4⟩)
   (c_Z4 : PySem.W.codeIn K cd_Z4 "Keeper.cells" = true)
   (k_Z4 : PySem.W.keepIn K (.ref f_Z4) = true)
   (if_Z4 : PySem.W.isFn K (.ref f_Z4) = true)
   {f_Z5 : Addr} {oc_Z5 kV_Z5 dc_Z5 pm_Z5 cd_Z5 ct_Z5 : Value} {od_Z5 an_Z5 : Option Addr} {sl_Z5 : Array (Option Value)}
   (a_Z5 : PySem.W.findIn K (.ref Y15) "clear" = some (some (.ref f_Z5)))
   (l_Z5 : K.lookup f_Z5 = some ⟨oc_Z5, od_Z5, .func (PySem.W.fnOf "clear" "Keeper.clear" (defArgs s_Z5) (defBody s_Z5) (defScope s_Z5) .none kV_Z5 dc_Z5 pm_Z5 an_Z5 cd_Z5 ct_Z5), sl_Z5⟩)
   (c_Z5 : PySem.W.codeIn K cd_Z5 "Keeper.clear" = true)
   (k_Z5 : PySem.W.keepIn K (.ref f_Z5) = true)
   (if_Z5 : PySem.W.isFn K (.ref f_Z5) = true)
   {f_Z8 : Addr} {oc_Z8 kV_Z8 dc_Z8 pm_Z8 cd_Z8 ct_Z8 : Value} {od_Z8 an_Z8 : Option Addr} {sl_Z8 : Array (Option Value)}
   (a_Z8 : PySem.W.findIn K (.ref Y15) "many" = some (some (.ref f_Z8)))
   (l_Z8 : K.lookup f_Z8 = some ⟨oc_Z8, od_Z8, .func (PySem.W.fnOf "many" "Keeper.many" (defArgs s_Z8) (defBody s_Z8) (defScope s_Z8) .none kV_Z8 dc_Z8 pm_Z8 an_Z8 cd_Z8 ct_Z8), sl_Z8⟩)
   (c_Z8 : PySem.W.codeIn K cd_Z8 "Keeper.many" = true)
   (k_Z8 : PySem.W.keepIn K (.ref f_Z8) = true)
   (if_Z8 : PySem.W.isFn K (.ref f_Z8) = true)
   {f_Z0 : Addr} {oc_Z0 kV_Z0 dc_Z0 pm_Z0 cd_Z0 ct_Z0 : Value} {od_Z0 an_Z0 : Option Addr} {sl_Z0 : Array (Option Value)}
   (a_Z0 : PySem.W.findIn K (.ref Y15) "room_cell_of" = some (some (.ref f_Z0)))
   (l_Z0 : K.lookup f_Z0 = some ⟨oc_Z0, od_Z0, .func (PySem.W.fnOf "room_cell_of" "Keeper.room_cell_of" (defArgs s_Z0) (defBody s_Z0) (defScope s_Z0) .none kV_Z0 dc_Z0 pm_Z0 an_Z0 cd_Z0 ct_Z0), sl_Z0⟩)
   (c_Z0 : PySem.W.codeIn K cd_Z0 "Keeper.room_cell_of" = true)
   (k_Z0 : PySem.W.keepIn K (.ref f_Z0) = true)
   (if_Z0 : PySem.W.isFn K (.ref f_Z0) = true)
   {f_Z11 : Addr} {oc_Z11 kV_Z11 dc_Z11 pm_Z11 cd_Z11 ct_Z11 : Value} {od_Z11 an_Z11 : Option Addr} {sl_Z11 : Array (Option Value)}
   (a_Z11 : PySem.W.findIn K (.ref Y15) "put" = some (some (.ref f_Z11)))
   (l_Z11 : K.lookup f_Z11 = some ⟨oc_Z11, od_Z11, .func (PySem.W.fnOf "put" "Keeper.put" (defArgs s_Z11) (defBody s_Z11) (defScope s_Z11) .none kV_Z11 dc_Z11 pm_Z11 an_Z11 cd_Z11 ct_Z11), sl_Z11⟩)
   (c_Z11 : PySem.W.codeIn K cd_Z11 "Keeper.put" = true)
   (k_Z11 : PySem.W.keepIn K (.ref f_Z11) = true)
   (if_Z11 : PySem.W.isFn K (.ref f_Z11) = true)
   {f_Z9 : Addr} {oc_Z9 kV_Z9 dc_Z9 pm_Z9 cd_Z9 ct_Z9 : Value} {od_Z9 an_Z9 : Option Addr} {sl_Z9 : Array (Option Value)}
   (a_Z9 : PySem.W.findIn K (.ref Y15) "get" = some (some (.ref f_Z9)))
   (l_Z9 : K.lookup f_Z9 = some ⟨oc_Z9, od_Z9, .func (PySem.W.fnOf "get" "Keeper.get" (defArgs s_Z9) (defBody s_Z9) (defScope s_Z9) .none kV_Z9 dc_Z9 pm_Z9 an_Z9 cd_Z9 ct_Z9), sl_Z9⟩)
   (c_Z9 : PySem.W.codeIn K cd_Z9 "Keeper.get" = true)
   (k_Z9 : PySem.W.keepIn K (.ref f_Z9) = true)
   (if_Z9 : PySem.W.isFn K (.ref f_Z9) = true)
   {dt_Z33 : Addr} {dk_Z33 : Tok} {dtc_Z33 : Value} {dtd_Z33 : Option Addr} {dtn_Z33 : Nat} {dts_Z33 : Array (Option Value)}
   {f_Z33 : Addr} {oc_Z33 kV_Z33 dc_Z33 pm_Z33 cd_Z33 ct_Z33 : Value} {od_Z33 an_Z33 : Option Addr} {sl_Z33 : Array (Option Value)}
   (a_Z33 : PySem.W.findIn K (.ref Y15) "ask" = some (some (.ref f_Z33)))
   (l_Z33 : K.lookup f_Z33 = some ⟨oc_Z33, od_Z33, .func (PySem.W.fnOf "ask" "Row.ask" (defArgs s_Z33) (defBody s_Z33) (defScope s_Z33) (.ref dt_Z33) kV_Z33 dc_Z33 pm_Z33 an_Z33 cd_Z33 ct_Z33), sl_Z33⟩)
   (ld_Z33 : K.lookup dt_Z33 = some ⟨dtc_Z33, dtd_Z33, .seq [.int 1 dk_Z33].toArray dtn_Z33, dts_Z33⟩)
   (c_Z33 : PySem.W.codeIn K cd_Z33 "Row.ask" = true)
   (k_Z33 : PySem.W.keepIn K (.ref f_Z33) = true)
   (if_Z33 : PySem.W.isFn K (.ref f_Z33) = true)
   {f_Z24 : Addr} {oc_Z24 kV_Z24 dc_Z24 pm_Z24 cd_Z24 ct_Z24 : Value} {od_Z24 an_Z24 : Option Addr} {sl_Z24 : Array (Option Value)}
   (a_Z24 : PySem.W.findIn K (.ref Y15) "give" = some (some (.ref f_Z24)))
   (l_Z24 : K.lookup f_Z24 = some ⟨oc_Z24, od_Z24, .func (PySem.W.fnOf "give" "Row.give" (defArgs s_Z24) (defBody s_Z24) (defScope s_Z24) .none kV_Z24 dc_Z24 pm_Z24 an_Z24 cd_Z24 ct_Z24), sl_Z24⟩)
   (c_Z24 : PySem.W.codeIn K cd_Z24 "Row.give" = true)
   (k_Z24 : PySem.W.keepIn K (.ref f_Z24) = true)
   (if_Z24 : PySem.W.isFn K (.ref f_Z24) = true)
   {dt_Z22 : Addr} {dk_Z22 : Tok} {dtc_Z22 : Value} {dtd_Z22 : Option Addr} {dtn_Z22 : Nat} {dts_Z22 : Array (Option Value)}
   {f_Z22 : Addr} {oc_Z22 kV_Z22 dc_Z22 pm_Z22 cd_Z22 ct_Z22 : Value} {od_Z22 an_Z22 : Option Addr} {sl_Z22 : Array (Option Value)}
   (a_Z22 : PySem.W.findIn K (.ref Y15) "grow" = some (some (.ref f_Z22)))
   (l_Z22 : K.lookup f_Z22 = some ⟨oc_Z22, od_Z22, .func (PySem.W.fnOf "grow" "Row.grow" (defArgs s_Z22) (defBody s_Z22) (defScope s_Z22) (.ref dt_Z22) kV_Z22 dc_Z22 pm_Z22 an_Z22 cd_Z22 ct_Z22), sl_Z22⟩)
   (ld_Z22 : K.lookup dt_Z22 = some ⟨dtc_Z22, dtd_Z22, .seq [.int 1 dk_Z22].toArray dtn_Z22, dts_Z22⟩)
   (c_Z22 : PySem.W.codeIn K cd_Z22 "Row.grow" = true)
   (k_Z22 : PySem.W.keepIn K (.ref f_Z22) = true)
   (if_Z22 : PySem.W.isFn K (.ref f_Z22) = true) :
   ∃ fd : FuncData, (∀ (s : Shared) (v : Value), BindsTo s fd ⟨[v], []⟩ [("_law_script", v)]) ∧ ∀ base : Heap, K.In base → base.Ns mainGlobals mg → FnOk l.prog w K mg base (CXe l.prog w) 11 fa fd ["_law_script"] (spLaw K) := by
 have e := hfa.symm.trans (PySem.W.mg_of X G a_law)
 cases e
 have T : Txt K mg Y0 Y10 Y12 Y5 Y8 Y1 Y4 Y7 Y14 Y3 Y11 Y2 Y9 Y13 Y6 Y15 W0_ W1_ := ⟨PySem.W.mg_none_of X G z_ValueError, PySem.W.mg_none_of X G z_bool, PySem.W.mg_none_of X G z_int, PySem.W.mg_none_of X G z_isinstance, PySem.W.mg_none_of X G z_len, PySem.W.mg_none_of X G z_list, PySem.W.mg_none_of X G z_sum, PySem.W.mg_none_of X G z_tuple, PySem.W.mg_of X G g_LEAST_LIVE, PySem.W.mg_of X G g_MARKS, PySem.W.mg_of X G cc_StowError, PySem.W.mg_of X G cc_NoName, PySem.W.mg_of X G cc_NoSize, PySem.W.mg_of X G cc_Broken, PySem.W.mg_of X G cc_NoGive, PySem.W.mg_of X G cc_NoHandle, PySem.W.mg_of X G cc_NoPiece, PySem.W.mg_of X G cc_NoCell, PySem.W.mg_of X G cc_NoAsk, PySem.W.mg_of X G cc_NoBound, PySem.W.mg_of X G cc_NoRoom, PySem.W.mg_of X G cc_BadLine, PySem.W.mg_of X G cc_NoLine, PySem.W.mg_of X G cc_NoTurn, PySem.W.mg_of X G cc_Keeper, PySem.W.mg_of X G cc_Row, ⟨s1_Broken, ⟨_, s2_Broken, s5_Broken, s6_Broken⟩, s3_Broken, s4_Broken⟩, ⟨PySem.W.mg_of X G cc_NoSize, _, _, _, _, xx_NoSize, PySem.F.excBase_ValueError, PySem.F.excBase_ValueError.hasBase⟩, ⟨PySem.W.mg_of X G cc_NoPiece, _, _, _, _, xx_NoPiece, PySem.F.excBase_ValueError, PySem.F.excBase_ValueError.hasBase⟩, ⟨PySem.W.mg_of X G cc_NoRoom, _, _, _, _, xx_NoRoom, PySem.F.excBase_ValueError, PySem.F.excBase_ValueError.hasBase⟩, ⟨PySem.W.mg_of X G cc_NoGive, _, _, _, _, xx_NoGive, PySem.F.excBase_ValueError, PySem.F.excBase_ValueError.hasBase⟩, ⟨pg_Row, hd_Row, po_Row, sa_Row⟩, na_Row_room_cells, ⟨_, _, ⟨_, _, _, _, _, _, _, _, _, _, _, _, _, _, _, _, lc_NoRoom⟩, ⟨_, _, _, _, _, _, _, _, _, _, _, _, _, _, _, _, lc_NoRoom⟩, fb_NoRoom, fm_NoRoom_NoRoom⟩, ⟨_, _, ⟨_, _, _, _, _, _, _, _, _, _, _, _, _, _, _, _, lc_NoGive⟩, ⟨_, _, _, _, _, _, _, _, _, _, _, _, _, _, _, _, lc_StowError⟩, fb_StowError, fm_NoGive_StowError⟩, ⟨g1_NoGive, g2_NoGive, g3_NoGive, g4_NoGive, g5_NoGive⟩, i_NoGive_NoGive, i_NoGive_ValueError, i_NoGive_NoAsk, i_NoGive_NoBound, i_NoGive_NoCell, i_NoGive_NoRoom, i_NoGive_NoHandle, i_NoGive_NoName, i_NoGive_NoPiece, i_NoGive_NoSize, i_NoGive_Broken, i_NoGive_BadLine, i_NoGive_NoLine, i_NoGive_NoTurn⟩
 have S_Z18 := src_mk (st := s_Z18) X G a_Z18 l_Z18 c_Z18 k_Z18
 have S_Z2 := src_mk (st := s_Z2) X G a_Z2 l_Z2 c_Z2 k_Z2
 have S_Z30 := src_mk (st := s_Z30) X G a_Z30 l_Z30 c_Z30 k_Z30
 have S_Z32 := src_mk (st := s_Z32) X G a_Z32 l_Z32 c_Z32 k_Z32
 have S_Z31 := src_mk (st := s_Z31) X G a_Z31 l_Z31 c_Z31 k_Z31
 have S_Z19 := src_mk (st := s_Z19) X G a_Z19 l_Z19 c_Z19 k_Z19
 have S_Z7 := src_mk (st := s_Z7) X G a_Z7 l_Z7 c_Z7 k_Z7
 have S_Z35 := src_mk (st := s_Z35) X G a_Z35 l_Z35 c_Z35 k_Z35
 have S_Z14 := src_mk (st := s_Z14) X G a_Z14 l_Z14 c_Z14 k_Z14
 have S_Z44 := src_mk (st := s_Z44) X G a_Z44 l_Z44 c_Z44 k_Z44
 have S_Z17 := src_mk (st := s_Z17) X G a_Z17 l_Z17 c_Z17 k_Z17
 have S_Z20 := src_mk (st := s_Z20) X G a_Z20 l_Z20 c_Z20 k_Z20
 have S_Z26 := src_mk (st := s_Z26) X G a_Z26 l_Z26 c_Z26 k_Z26
 have S_Z28 := src_mk (st := s_Z28) X G a_Z28 l_Z28 c_Z28 k_Z28
 have S_Z25 := src_mk (st := s_Z25) X G a_Z25 l_Z25 c_Z25 k_Z25
 have S_Z27 := src_mk (st := s_Z27) X G a_Z27 l_Z27 c_Z27 k_Z27
 have S_Z15 := src_mk (st := s_Z15) X G a_Z15 l_Z15 c_Z15 k_Z15
 have S_Z34 := src_mk (st := s_Z34) X G a_Z34 l_Z34 c_Z34 k_Z34
 have S_Z29 := src_mk (st := s_Z29) X G a_Z29 l_Z29 c_Z29 k_Z29
 have S_Z37 := src_mk (st := s_Z37) X G a_Z37 l_Z37 c_Z37 k_Z37
 have S_Z21 := src_mk (st := s_Z21) X G a_Z21 l_Z21 c_Z21 k_Z21
 have S_Z23 := src_mk (st := s_Z23) X G a_Z23 l_Z23 c_Z23 k_Z23
 have S_Z10 := src_mk (st := s_Z10) X G a_Z10 l_Z10 c_Z10 k_Z10
 have S_Z16 := src_mk (st := s_Z16) X G a_Z16 l_Z16 c_Z16 k_Z16
 have S_Z36 := src_mk (st := s_Z36) X G a_Z36 l_Z36 c_Z36 k_Z36
 have S_Z38 := src_mk (st := s_Z38) X G a_Z38 l_Z38 c_Z38 k_Z38
 subst eb_Broken en_Broken eo_Broken
 have XI_Broken : XIni K mg "Broken" Y5 Y0 f_Broken_init := ⟨PySem.W.mg_of X G cc_Broken, ⟨_, _, _, _, _, _, _, _, _, _, _, _, _, _, _, lc_Broken⟩, xx_StowError, a_Broken_init, kp_Broken, ⟨_, _, _, _, l_Broken_init, rfl⟩⟩
 refine ⟨PySem.W.fnOf "law" "law" (defArgs s_law) (defBody s_law) (defScope s_law) .none kV_law dc_law pm_law an_law cd_law ct_law, fun s v => .of_eq rfl, fun base _ _ => ?_⟩
 have D_Z30 := d_Z30 (P := l.prog) (w := w) (base := base) S_Z30 T 
 have D_Z32 := d_Z32 (P := l.prog) (w := w) (base := base) S_Z32 T 
 have D_Z31 := d_Z31 (P := l.prog) (w := w) (base := base) S_Z31 T 
 have D_Z19 := d_Z19 (P := l.prog) (w := w) (base := base) S_Z19 T D_Z32 D_Z31
 have D_Z7 := d_Z7 (P := l.prog) (w := w) (base := base) S_Z7 T D_Z32 D_Z19
 have D_Broken := d_Broken (P := l.prog) (w := w) (base := base) (fun_mk l_Broken_init c_Broken_init k_Broken_init) XI_Broken T.s_Broken
 have D_Z35 := d_Z35 (P := l.prog) (w := w) (base := base) S_Z35 T D_Z32 D_Z31 D_Z7 D_Broken
 have D_Z14 := d_Z14 (P := l.prog) (w := w) (base := base) S_Z14 T D_Z30
 have D_Z44 := d_Z44 (P := l.prog) (w := w) (base := base) S_Z44 T D_Z30
 have D_Z17 := d_Z17 (P := l.prog) (w := w) (base := base) S_Z17 T D_Z44
 have D_Z20 := d_Z20 (P := l.prog) (w := w) (base := base) S_Z20 T D_Z35
 have D_Z26 := d_Z26 (P := l.prog) (w := w) (base := base) S_Z26 T D_Z20
 have D_Z28 := d_Z28 (P := l.prog) (w := w) (base := base) S_Z28 T D_Z20
 have D_Z25 := d_Z25 (P := l.prog) (w := w) (base := base) S_Z25 T D_Z28 D_Z17 D_Z44
 have D_Z18 := d_Z18 (P := l.prog) (w := w) (base := base) S_Z18 T 
 have D_Z2 := d_Z2 (P := l.prog) (w := w) (base := base) S_Z2 T D_Z18
 have D_Row := d_Row (P := l.prog) (w := w) (base := base) (fun_mk l_Keeper_init c_Keeper_init k_Keeper_init) ⟨mk_Row, a_Keeper_init, if_Keeper_init, kp_Row⟩ T D_Z14
 have D_Z12 := d_Z12 (P := l.prog) (w := w) (base := base) (fun_mk l_Z1 c_Z1 k_Z1) ⟨a_Z1, if_Z1, k_Z1⟩ T 
 have D_lay := d_lay (P := l.prog) (w := w) (base := base) (fun_mk l_Z13 c_Z13 k_Z13) ⟨a_Z13, if_Z13, k_Z13⟩ T D_Z35 D_Z12
 have D_Z39 := d_Z39 (P := l.prog) (w := w) (base := base) (fun_mk l_Z3 c_Z3 k_Z3) ⟨a_Z3, if_Z3, k_Z3⟩ T D_Z35
 have D_Z40 := d_Z40 (P := l.prog) (w := w) (base := base) (fun_mk l_Z4 c_Z4 k_Z4) ⟨a_Z4, if_Z4, k_Z4⟩ T 
 have D_Z41 := d_Z41 (P := l.prog) (w := w) (base := base) (fun_mk l_Z5 c_Z5 k_Z5) ⟨a_Z5, if_Z5, k_Z5⟩ T D_Z14 D_Z12
 have D_Z45 := d_Z45 (P := l.prog) (w := w) (base := base) (fun_mk l_Z8 c_Z8 k_Z8) ⟨a_Z8, if_Z8, k_Z8⟩ T D_Z26
 have D_Z6 := d_Z6 (P := l.prog) (w := w) (base := base) (fun_mk l_Z0 c_Z0 k_Z0) ⟨a_Z0, if_Z0, k_Z0⟩ T D_Z45
 have D_put := d_put (P := l.prog) (w := w) (base := base) (fun_mk l_Z11 c_Z11 k_Z11) ⟨a_Z11, if_Z11, k_Z11⟩ T D_Z6
 have D_get := d_get (P := l.prog) (w := w) (base := base) (fun_mk l_Z9 c_Z9 k_Z9) ⟨a_Z9, if_Z9, k_Z9⟩ T D_Z6
 have D_ask := d_ask (P := l.prog) (w := w) (base := base) (funD_mk l_Z33 c_Z33 k_Z33) ld_Z33 ⟨a_Z33, if_Z33, k_Z33⟩ T D_Z2 D_Z39 D_Z40 D_Z25 D_lay
 have D_Z42 := d_Z42 (P := l.prog) (w := w) (base := base) (fun_mk l_Z24 c_Z24 k_Z24) ⟨a_Z24, if_Z24, k_Z24⟩ T 
 have D_Z43 := d_Z43 (P := l.prog) (w := w) (base := base) (funD_mk l_Z22 c_Z22 k_Z22) ld_Z22 ⟨a_Z22, if_Z22, k_Z22⟩ T 
 have D_Z15 := d_Z15 (P := l.prog) (w := w) (base := base) S_Z15 T 
 have D_Z34 := d_Z34 (P := l.prog) (w := w) (base := base) S_Z34 T 
 have D_Z29 := d_Z29 (P := l.prog) (w := w) (base := base) S_Z29 T D_Z34
 have D_Z37 := d_Z37 (P := l.prog) (w := w) (base := base) S_Z37 T D_Z34
 have D_Z21 := d_Z21 (P := l.prog) (w := w) (base := base) S_Z21 T 
 have D_Z23 := d_Z23 (P := l.prog) (w := w) (base := base) S_Z23 T 
 have D_Z10 := d_Z10 (P := l.prog) (w := w) (base := base) S_Z10 T D_ask
 have D_Z16 := d_Z16 (P := l.prog) (w := w) (base := base) S_Z16 T D_Z42 D_Z43
 have D_Z38 := d_Z38 (P := l.prog) (w := w) (base := base) S_Z38 T D_Z23 D_Z40 D_Z29 D_Z39 D_Z37 D_Z34
 have D_Z36 := d_Z36 (P := l.prog) (w := w) (base := base) S_Z36 T D_Z10 D_Z34 D_Z21 D_put D_get D_Z16 D_Z41
 exact ok_law (fun_mk l_law c_law k_law) T D_Z15 D_Row D_Z38 D_Z36
theorem walk {l : PySem.W.OpenLaw} {q : Program} {loose : List Str} {XP : (Str → Option Value) → Heap → Prop} {YP : World → Heap → Prop} {d : DefRec} {K : Params → PySem.W.Frag} (hn : l.most = some 63) (hdf : d.params.defaults = [])
   (hY : ∀ (w : World) (h : Heap), YP w h → (K w.params).In h)
   (F : ∀ (w : World) (mg : Str → Option Value) (fa : Addr) (h : Heap), (K w.params).In h → h.Ns mainGlobals mg → mg d.name = some (.ref fa) →
     ∃ fd : FuncData, (∀ (s : Shared) (u : Value), BindsTo s fd ⟨[u], []⟩ [("_law_script", u)]) ∧ ∀ base : Heap, (K w.params).In base → base.Ns mainGlobals mg → FnOk l.prog w (K w.params) mg base (CXe l.prog w) 11 fa fd ["_law_script"] (spLaw (K w.params))) :
   PySem.W.WalkO q loose XP YP l.row.toRowW d [] (fun f vs => PySem.call f vs) :=
 L2.walk_of (n := 63) (k := 11) (x := "_law_script") (CX := fun w => (CXe l.prog w)) (sp := fun w => spLaw (K w.params)) hn (by decide) hdf ⟨rfl, by decide, by decide⟩ hY F (fun _ _ a ns hl _ hS => ⟨a, ns, rfl, hS, hl, fun _ => rfl⟩) (fun _ _ _ _ _ ⟨_, _, _, _, _, _, _, _, _, _, _, _, _, _, _, z⟩ => z)
end Stow
open PySem PySem.W PyProof.Rows
set_option maxRecDepth 100000 in
set_option maxHeartbeats 0 in
theorem PySem.Challenge.cw_stow_k36_a_row_holds : PySem.Challenge.rw_stow_k36_a_row.Holds := by
 w_on; o_law
 refine holds_open (XP := fun _ _ => True) (YP := InK Stow.heap0) Stow.left0 ?y (InK.keeps (K := Stow.heap0)) (fun _ _ => trivial) (fun _ _ _ h _ => h) rfl rfl rfl (fun _ e => recFacts_of e) rfl
   (by assumption) (by decide +kernel) ⟨rfl, rfl, rfl, rfl, rfl, by decide +kernel⟩ ?hw ?hc
 case y => exact InK.of Stow.at0_eq
 case hw => w_witness2
 k_fill
 refine Stow.walk (l := PySem.Challenge.rw_stow_k36_a_row) rfl rfl (fun w h Y => Y) ?F
 case F =>
   intro w mg fa h KX G hmg
   refine' Stow.all_mk KX G hmg ?a_Z18 ?l_Z18 ?c_Z18 ?k_Z18 ?a_Z2 ?l_Z2 ?c_Z2 ?k_Z2 ?a_Z30 ?l_Z30 ?c_Z30 ?k_Z30 ?a_Z32 ?l_Z32 ?c_Z32 ?k_Z32 ?a_Z31 ?l_Z31 ?c_Z31 ?k_Z31 ?a_Z19 ?l_Z19 ?c_Z19 ?k_Z19 ?a_Z7 ?l_Z7 ?c_Z7 ?k_Z7 ?a_Z35 ?l_Z35 ?c_Z35 ?k_Z35 ?a_Z14 ?l_Z14 ?c_Z14 ?k_Z14 ?a_Z44 ?l_Z44 ?c_Z44 ?k_Z44 ?a_Z17 ?l_Z17 ?c_Z17 ?k_Z17 ?a_Z20 ?l_Z20 ?c_Z20 ?k_Z20 ?a_Z26 ?l_Z26 ?c_Z26 ?k_Z26 ?a_Z28 ?l_Z28 ?c_Z28 ?k_Z28 ?a_Z25 ?l_Z25 ?c_Z25 ?k_Z25 ?a_Z27 ?l_Z27 ?c_Z27 ?k_Z27 ?a_Z15 ?l_Z15 ?c_Z15 ?k_Z15 ?a_Z34 ?l_Z34 ?c_Z34 ?k_Z34 ?a_Z29 ?l_Z29 ?c_Z29 ?k_Z29 ?a_Z37 ?l_Z37 ?c_Z37 ?k_Z37 ?a_Z21 ?l_Z21 ?c_Z21 ?k_Z21 ?a_Z23 ?l_Z23 ?c_Z23 ?k_Z23 ?a_Z10 ?l_Z10 ?c_Z10 ?k_Z10 ?a_Z16 ?l_Z16 ?c_Z16 ?k_Z16 ?a_Z36 ?l_Z36 ?c_Z36 ?k_Z36 ?a_Z38 ?l_Z38 ?c_Z38 ?k_Z38 ?a_law ?l_law ?c_law ?k_law ?z_ValueError ?z_bool ?z_int ?z_isinstance ?z_len ?z_list ?z_sum ?z_tuple ?g_LEAST_LIVE ?g_MARKS ?cc_StowError ?cc_NoName ?cc_NoSize ?cc_Broken ?cc_NoGive ?cc_NoHandle ?cc_NoPiece ?cc_NoCell ?cc_NoAsk ?cc_NoBound ?cc_NoRoom ?cc_BadLine ?cc_NoLine ?cc_NoTurn ?cc_Keeper ?cc_Row ?s1_Broken ?s2_Broken ?s5_Broken ?s6_Broken ?s3_Broken ?s4_Broken ?xx_NoSize ?xx_NoPiece ?xx_NoRoom ?xx_NoGive ?pg_Row ?hd_Row ?po_Row ?sa_Row ?na_Row_room_cells ?lc_NoRoom ?fb_NoRoom ?fm_NoRoom_NoRoom ?lc_NoGive ?lc_StowError ?fb_StowError ?fm_NoGive_StowError ?g1_NoGive ?g2_NoGive ?g3_NoGive ?g4_NoGive ?g5_NoGive ?i_NoGive_NoGive ?i_NoGive_ValueError ?i_NoGive_NoAsk ?i_NoGive_NoBound ?i_NoGive_NoCell ?i_NoGive_NoRoom ?i_NoGive_NoHandle ?i_NoGive_NoName ?i_NoGive_NoPiece ?i_NoGive_NoSize ?i_NoGive_Broken ?i_NoGive_BadLine ?i_NoGive_NoLine ?i_NoGive_NoTurn ?lc_Broken ?xx_StowError ?kp_Broken ?a_Broken_init ?l_Broken_init ?c_Broken_init ?k_Broken_init ?eb_Broken ?en_Broken ?eo_Broken ?a_Keeper_init ?l_Keeper_init ?c_Keeper_init ?k_Keeper_init ?if_Keeper_init ?mk_Row ?kp_Row ?a_Z1 ?l_Z1 ?c_Z1 ?k_Z1 ?if_Z1 ?a_Z13 ?l_Z13 ?c_Z13 ?k_Z13 ?if_Z13 ?a_Z3 ?l_Z3 ?c_Z3 ?k_Z3 ?if_Z3 ?a_Z4 ?l_Z4 ?c_Z4 ?k_Z4 ?if_Z4 ?a_Z5 ?l_Z5 ?c_Z5 ?k_Z5 ?if_Z5 ?a_Z8 ?l_Z8 ?c_Z8 ?k_Z8 ?if_Z8 ?a_Z0 ?l_Z0 ?c_Z0 ?k_Z0 ?if_Z0 ?a_Z11 ?l_Z11 ?c_Z11 ?k_Z11 ?if_Z11 ?a_Z9 ?l_Z9 ?c_Z9 ?k_Z9 ?if_Z9 ?a_Z33 ?l_Z33 ?ld_Z33 ?c_Z33 ?k_Z33 ?if_Z33 ?a_Z24 ?l_Z24 ?c_Z24 ?k_Z24 ?if_Z24 ?a_Z22 ?l_Z22 ?ld_Z22 ?c_Z22 ?k_Z22 ?if_Z22
   (case a_Z18 => k_is)
   (case l_Z18 => k_is)
   (case c_Z18 => k_is)
   (case k_Z18 => k_is)
   (case a_Z2 => k_is)
   (case l_Z2 => k_is)
   (case c_Z2 => k_is)
   (case k_Z2 => k_is)
   (case a_Z30 => k_is)
   (case l_Z30 => k_is)
   (case c_Z30 => k_is)
   (case k_Z30 => k_is)
   (case a_Z32 => k_is)
   (case l_Z32 => k_is)
   (case c_Z32 => k_is)
   (case k_Z32 => k_is)
   (case a_Z31 => k_is)
   (case l_Z31 => k_is)
   (case c_Z31 => k_is)
   (case k_Z31 => k_is)
   (case a_Z19 => k_is)
   (case l_Z19 => k_is)
   (case c_Z19 => k_is)
   (case k_Z19 => k_is)
   (case a_Z7 => k_is)
   (case l_Z7 => k_is)
   (case c_Z7 => k_is)
   (case k_Z7 => k_is)
   (case a_Z35 => k_is)
   (case l_Z35 => k_is)
   (case c_Z35 => k_is)
   (case k_Z35 => k_is)
   (case a_Z14 => k_is)
   (case l_Z14 => k_is)
   (case c_Z14 => k_is)
   (case k_Z14 => k_is)
   (case a_Z44 => k_is)
   (case l_Z44 => k_is)
   (case c_Z44 => k_is)
   (case k_Z44 => k_is)
   (case a_Z17 => k_is)
   (case l_Z17 => k_is)
   (case c_Z17 => k_is)
   (case k_Z17 => k_is)
   (case a_Z20 => k_is)
   (case l_Z20 => k_is)
   (case c_Z20 => k_is)
   (case k_Z20 => k_is)
   (case a_Z26 => k_is)
   (case l_Z26 => k_is)
   (case c_Z26 => k_is)
   (case k_Z26 => k_is)
   (case a_Z28 => k_is)
   (case l_Z28 => k_is)
   (case c_Z28 => k_is)
   (case k_Z28 => k_is)
   (case a_Z25 => k_is)
   (case l_Z25 => k_is)
   (case c_Z25 => k_is)
   (case k_Z25 => k_is)
   (case a_Z27 => k_is)
   (case l_Z27 => k_is)
   (case c_Z27 => k_is)
   (case k_Z27 => k_is)
   (case a_Z15 => k_is)
   (case l_Z15 => k_is)
   (case c_Z15 => k_is)
   (case k_Z15 => k_is)
   (case a_Z34 => k_is)
   (case l_Z34 => k_is)
   (case c_Z34 => k_is)
   (case k_Z34 => k_is)
   (case a_Z29 => k_is)
   (case l_Z29 => k_is)
   (case c_Z29 => k_is)
   (case k_Z29 => k_is)
   (case a_Z37 => k_is)
   (case l_Z37 => k_is)
   (case c_Z37 => k_is)
   (case k_Z37 => k_is)
   (case a_Z21 => k_is)
   (case l_Z21 => k_is)
   (case c_Z21 => k_is)
   (case k_Z21 => k_is)
   (case a_Z23 => k_is)
   (case l_Z23 => k_is)
   (case c_Z23 => k_is)
   (case k_Z23 => k_is)
   (case a_Z10 => k_is)
   (case l_Z10 => k_is)
   (case c_Z10 => k_is)
   (case k_Z10 => k_is)
   (case a_Z16 => k_is)
   (case l_Z16 => k_is)
   (case c_Z16 => k_is)
   (case k_Z16 => k_is)
   (case a_Z36 => k_is)
   (case l_Z36 => k_is)
   (case c_Z36 => k_is)
   (case k_Z36 => k_is)
   (case a_Z38 => k_is)
   (case l_Z38 => k_is)
   (case c_Z38 => k_is)
   (case k_Z38 => k_is)
   (case a_law => k_is)
   (case l_law => k_is)
   (case c_law => k_is)
   (case k_law => k_is)
   (case z_ValueError => k_is)
   (case z_bool => k_is)
   (case z_int => k_is)
   (case z_isinstance => k_is)
   (case z_len => k_is)
   (case z_list => k_is)
   (case z_sum => k_is)
   (case z_tuple => k_is)
   (case g_LEAST_LIVE => k_is)
   (case g_MARKS => k_is)
   (case cc_StowError => k_is)
   (case cc_NoName => k_is)
   (case cc_NoSize => k_is)
   (case cc_Broken => k_is)
   (case cc_NoGive => k_is)
   (case cc_NoHandle => k_is)
   (case cc_NoPiece => k_is)
   (case cc_NoCell => k_is)
   (case cc_NoAsk => k_is)
   (case cc_NoBound => k_is)
   (case cc_NoRoom => k_is)
   (case cc_BadLine => k_is)
   (case cc_NoLine => k_is)
   (case cc_NoTurn => k_is)
   (case cc_Keeper => k_is)
   (case cc_Row => k_is)
   (case s1_Broken => k_is)
   (case s2_Broken => k_is)
   (case s5_Broken => decide +kernel)
   (case s6_Broken => rfl)
   (case s3_Broken => k_is)
   (case s4_Broken => k_is)
   (case xx_NoSize => k_exc)
   (case xx_NoPiece => k_exc)
   (case xx_NoRoom => k_exc)
   (case xx_NoGive => k_exc)
   (case pg_Row => k_is)
   (case hd_Row => k_is)
   (case po_Row => k_is)
   (case sa_Row => k_is)
   (case na_Row_room_cells => k_is)
   (case lc_NoRoom => k_is)
   (case fb_NoRoom => decide +kernel)
   (case fm_NoRoom_NoRoom => decide +kernel)
   (case lc_NoGive => k_is)
   (case lc_StowError => k_is)
   (case fb_StowError => decide +kernel)
   (case fm_NoGive_StowError => decide +kernel)
   (case g1_NoGive => k_is)
   (case g2_NoGive => k_is)
   (case g3_NoGive => k_is)
   (case g4_NoGive => k_is)
   (case g5_NoGive => k_is)
   (case i_NoGive_NoGive => kit_is)
   (case i_NoGive_ValueError => kit_is)
   (case i_NoGive_NoAsk => kit_is)
   (case i_NoGive_NoBound => kit_is)
   (case i_NoGive_NoCell => kit_is)
   (case i_NoGive_NoRoom => kit_is)
   (case i_NoGive_NoHandle => kit_is)
   (case i_NoGive_NoName => kit_is)
   (case i_NoGive_NoPiece => kit_is)
   (case i_NoGive_NoSize => kit_is)
   (case i_NoGive_Broken => kit_is)
   (case i_NoGive_BadLine => kit_is)
   (case i_NoGive_NoLine => kit_is)
   (case i_NoGive_NoTurn => kit_is)
   (case lc_Broken => k_is)
   (case xx_StowError => k_exc)
   (case kp_Broken => k_is)
   (case a_Broken_init => k_is)
   (case l_Broken_init => k_is)
   (case c_Broken_init => k_is)
   (case k_Broken_init => k_is)
   (case eb_Broken => rfl)
   (case en_Broken => rfl)
   (case eo_Broken => rfl)
   (case a_Keeper_init => k_is)
   (case l_Keeper_init => k_is)
   (case c_Keeper_init => k_is)
   (case k_Keeper_init => k_is)
   (case if_Keeper_init => k_is)
   (case mk_Row => k_is)
   (case kp_Row => k_is)
   (case a_Z1 => k_is)
   (case l_Z1 => k_is)
   (case c_Z1 => k_is)
   (case k_Z1 => k_is)
   (case if_Z1 => k_is)
   (case a_Z13 => k_is)
   (case l_Z13 => k_is)
   (case c_Z13 => k_is)
   (case k_Z13 => k_is)
   (case if_Z13 => k_is)
   (case a_Z3 => k_is)
   (case l_Z3 => k_is)
   (case c_Z3 => k_is)
   (case k_Z3 => k_is)
   (case if_Z3 => k_is)
   (case a_Z4 => k_is)
   (case l_Z4 => k_is)
   (case c_Z4 => k_is)
   (case k_Z4 => k_is)
   (case if_Z4 => k_is)
   (case a_Z5 => k_is)
   (case l_Z5 => k_is)
   (case c_Z5 => k_is)
   (case k_Z5 => k_is)
   (case if_Z5 => k_is)
   (case a_Z8 => k_is)
   (case l_Z8 => k_is)
   (case c_Z8 => k_is)
   (case k_Z8 => k_is)
   (case if_Z8 => k_is)
   (case a_Z0 => k_is)
   (case l_Z0 => k_is)
   (case c_Z0 => k_is)
   (case k_Z0 => k_is)
   (case if_Z0 => k_is)
   (case a_Z11 => k_is)
   (case l_Z11 => k_is)
   (case c_Z11 => k_is)
   (case k_Z11 => k_is)
   (case if_Z11 => k_is)
   (case a_Z9 => k_is)
   (case l_Z9 => k_is)
   (case c_Z9 => k_is)
   (case k_Z9 => k_is)
   (case if_Z9 => k_is)
   (case a_Z33 => k_is)
   (case l_Z33 => k_is)
   (case ld_Z33 => k_is)
   (case c_Z33 => k_is)
   (case k_Z33 => k_is)
   (case if_Z33 => k_is)
   (case a_Z24 => k_is)
   (case l_Z24 => k_is)
   (case c_Z24 => k_is)
   (case k_Z24 => k_is)
   (case if_Z24 => k_is)
   (case a_Z22 => k_is)
   (case l_Z22 => k_is)
   (case ld_Z22 => k_is)
   (case c_Z22 => k_is)
   (case k_Z22 => k_is)
   (case if_Z22 => k_is)
