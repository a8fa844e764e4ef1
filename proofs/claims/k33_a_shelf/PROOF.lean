import PyProof.Rows.All
import Wide.All
import OpenK.AllK
import Wide.FinOn
import Lean
import PyProof.EqAt
import PyProof.EqKinds
import PyProof.TupleCall
import PyProof.NeKinds
import PyProof.StationsW
import PyProof.RulesAs
import PyProof.ExcClass3
import PyProof.ExcInit
import PyProof.ExcArgsOwn
import PyProof.IsiH_set
import PyProof.NsDelKeeps
import PyProof.CompFree
import PySem.Challenge.RW_stow_k33_a_shelf
set_option Elab.async false
set_option linter.all false
set_option maxRecDepth 100000
set_option maxHeartbeats 4000000
namespace L2
open PySem PySem.Spec PyProof.Rows
def inClass (s : Stmt) (j : Nat) : Stmt := match s with
  | .ClassDef _ _ _ body _ _ _ _ _ _ _ => body.getD j (.Pass ⟨0, 0, 0, 0⟩)
  | _ => .Pass ⟨0, 0, 0, 0⟩
def defArgs (s : Stmt) : Arguments := match s with
  | .FunctionDef _ a _ _ _ _ _ _ _ _ => a
  | _ => { posonlyargs := [], args := [], vararg := none, kwonlyargs := [], kw_defaults := [], kwarg := none, defaults := [] }
def defBody (s : Stmt) : List Stmt := match s with
  | .FunctionDef _ _ b _ _ _ _ _ _ _ => b
  | _ => []
def defScope (s : Stmt) : Scope := match s with
  | .FunctionDef _ _ _ _ _ _ sc _ _ _ => sc
  | _ => { kind := .function, names := [], isGenerator := false, isCoroutine := false }
end L2
namespace Stow
open PySem L2 PyProof.Rows
def top (i : Nat) : Stmt := PySem.Challenge.pw_stow_k33_a_shelf.main.body.getD i (.Pass ⟨0, 0, 0, 0⟩)
def en (P : Params) (s : Str) (t : Tok) (v : Value) : DictEntry := ⟨PyData.keyHash P s, .str s t, v⟩
def fo (nm qn : Str) (st : Stmt) (dV kV dc pm : Value) (an : Option Addr) (cd ct : Value) (od : Option Addr) : Obj := ⟨.type "function", od, .func (PySem.W.fnOf nm qn (defArgs st) (defBody st) (defScope st) dV kV dc pm an cd ct), #[]⟩
def fq (nm qn : Str) (st : Stmt) : Obj := ⟨.none, none, .func { name := nm, qualname := qn, params := defArgs st, body := .stmts (defBody st), scope := defScope st, globals := 0, closure := [], defaults := .none, kwdefaults := .none }, #[]⟩
def ho0 (P : Params) : Obj := ⟨(.type "tuple"), none, .seq #[] 0, #[]⟩
def ho1 (P : Params) : Obj := ⟨.none, none, .fields #[], #[]⟩
def ho2 (P : Params) : Obj := ⟨(.type "code"), none, .fields ((.str "<module>" 182) :: (.str "<module>" 183) :: (.str "/claim/cut.py" 184) :: (.int (1) 0) :: (.int (0) 0) :: (.int (0) 0) :: (.int (0) 0) :: (.int (0) 0) :: (.ref 11) :: (.bool false) :: (.int (181) 0) :: (.ref 12) :: .none :: .none :: .none :: .none :: (.int (185) 0) :: (.int (1) 0) :: (.str "/claim/cut.py" 186) :: []).toArray, #[]⟩
def ho3 (P : Params) : Obj := ⟨(.type "frame"), none, .plain, ((some (.ref 13)) :: (some (.ref 3)) :: (some (.ref 3)) :: none :: (some (.str "__main__" 164)) :: none :: (some (.ref 0)) :: []).toArray⟩
def ho4 (P : Params) : Obj := ⟨(.type "dict"), none, .dict (en P "__name__" 165 (.str "stow.errors" 194) :: en P "__doc__" 166 .none :: en P "__package__" 167 .none :: en P "__loader__" 168 (.builtin "__main__.__loader__#opaque") :: en P "__spec__" 169 .none :: en P "__annotations__" 170 (.ref 6) :: en P "__builtins__" 171 (.ref 4) :: en P "__file__" 173 (.str "/claim/cut.py" 172) :: en P "__cached__" 174 .none :: en P "_wall" 193 (.ref 21) :: en P "StowError" 213 (.ref 31) :: en P "NoName" 229 (.ref 44) :: en P "NoSize" 245 (.ref 56) :: en P "Broken" 270 (.ref 75) :: en P "NoGive" 286 (.ref 87) :: en P "NoHandle" 302 (.ref 99) :: en P "NoPiece" 318 (.ref 111) :: en P "NoCell" 334 (.ref 123) :: []).toArray 18, #[]⟩
def ho5 (P : Params) : Obj := ⟨.none, none, .fields ((.int (1) 0) :: (.int (0) 0) :: (.ref 20) :: (.int (5) 0) :: (.int (0) 0) :: (.ref 27) :: (.int (7) 0) :: (.int (0) 0) :: (.ref 40) :: (.int (9) 0) :: (.int (0) 0) :: (.ref 52) :: (.int (11) 0) :: (.int (0) 0) :: (.ref 64) :: (.int (15) 0) :: (.int (0) 0) :: (.ref 83) :: (.int (17) 0) :: (.int (0) 0) :: (.ref 95) :: (.int (19) 0) :: (.int (0) 0) :: (.ref 107) :: (.int (21) 0) :: (.int (0) 0) :: (.ref 119) :: []).toArray, #[]⟩
def ho6 (P : Params) : Obj := ⟨(.type "tuple"), none, .seq #[] 0, #[]⟩
def ho7 (P : Params) : Obj := ⟨.none, none, .fields #[], #[]⟩
def ho8 (P : Params) : Obj := ⟨(.type "tuple"), none, .seq ((.str "k" 190) :: []).toArray 0, #[]⟩
def ho9 (P : Params) : Obj := ⟨(.type "tuple"), none, .seq #[] 0, #[]⟩
def ho10 (P : Params) : Obj := fq "_wall" "_wall" (top 0)
def ho11 (P : Params) : Obj := ⟨(.type "code"), none, .fields ((.str "_wall" 187) :: (.str "_wall" 188) :: (.str "/claim/cut.py" 189) :: (.int (1) 0) :: (.int (1) 0) :: (.int (0) 0) :: (.int (0) 0) :: (.int (3) 0) :: (.ref 15) :: (.bool true) :: (.int (181) 0) :: (.ref 16) :: .none :: (.ref 17) :: (.ref 18) :: (.ref 19) :: (.int (191) 0) :: (.int (1) 0) :: (.str "/claim/cut.py" 192) :: []).toArray, #[]⟩
def ho12 (P : Params) : Obj := fo "_wall" "_wall" (top 0) .none .none .none (.str "__main__" 164) none (.ref 20) .none none
def ho13 (P : Params) : Obj := ⟨(.type "tuple"), none, .seq ((.type "ValueError") :: []).toArray 0, #[]⟩
def ho14 (P : Params) : Obj := ⟨(.type "builtin_function_or_method"), none, .fields ((.builtin "type.__prepare__") :: (.type "type") :: []).toArray, #[]⟩
def ho15 (P : Params) : Obj := ⟨(.type "dict"), none, .dict (en P "__module__" 203 (.str "stow.errors" 194) :: en P "__qualname__" 205 (.str "StowError" 204) :: en P "__firstlineno__" 207 (.int (5) 206) :: en P "__static_attributes__" 208 (.ref 29) :: []).toArray 4, #[]⟩
def ho16 (P : Params) : Obj := ⟨(.type "tuple"), none, .seq #[] 0, #[]⟩
def ho17 (P : Params) : Obj := ⟨.none, none, .fields #[], #[]⟩
def ho18 (P : Params) : Obj := ⟨(.type "code"), none, .fields ((.str "StowError" 198) :: (.str "StowError" 199) :: (.str "/claim/cut.py" 200) :: (.int (5) 0) :: (.int (0) 0) :: (.int (0) 0) :: (.int (0) 0) :: (.int (0) 0) :: (.ref 25) :: (.bool false) :: (.int (181) 0) :: (.ref 26) :: .none :: .none :: .none :: .none :: (.int (201) 0) :: (.int (5) 0) :: (.str "/claim/cut.py" 202) :: []).toArray, #[]⟩
def ho19 (P : Params) : Obj := ⟨(.type "frame"), none, .plain, ((some (.ref 27)) :: (some (.ref 3)) :: (some (.ref 24)) :: none :: (some (.str "stow.errors" 194)) :: none :: (some (.ref 0)) :: []).toArray⟩
def ho20 (P : Params) : Obj := ⟨(.type "tuple"), none, .seq #[] 0, #[]⟩
def ho21 (P : Params) : Obj := ⟨(.type "dict"), none, .dict (en P "__module__" 203 (.str "stow.errors" 194) :: en P "__firstlineno__" 207 (.int (5) 206) :: en P "__static_attributes__" 208 (.ref 29) :: en P "__weakref__" 210 (.ref 32) :: en P "__doc__" 211 .none :: []).toArray 3, #[]⟩
def ho22 (P : Params) : Obj := ⟨(.type "type"), none, .cls ⟨"StowError", [(.type "ValueError")], [(.ref 31), (.type "ValueError"), (.type "Exception"), (.type "BaseException"), (.type "object")], 30, "StowError", true, [], [(.ref 44), (.ref 56), (.ref 75), (.ref 87), (.ref 99), (.ref 111), (.ref 123)], false, none, false⟩, ((some (.ref 22)) :: none :: (some (.str "StowError" 196)) :: (some (.str "StowError" 204)) :: (some (.builtin "ValueError.__new__")) :: (some (.bool true)) :: []).toArray⟩
def ho23 (P : Params) : Obj := ⟨(.type "getset_descriptor"), none, .fields ((.str "__weakref__" 209) :: (.ref 31) :: (.builtin "ExceptionGroup.__weakref__") :: .none :: []).toArray, #[]⟩
def ho24 (P : Params) : Obj := ⟨(.type "super"), none, .fields ((.ref 31) :: (.ref 31) :: (.ref 31) :: []).toArray, #[]⟩
def ho25 (P : Params) : Obj := ⟨(.type "builtin_function_or_method"), none, .fields ((.builtin "object.__init_subclass__") :: (.ref 31) :: []).toArray, #[]⟩
def ho26 (P : Params) : Obj := ⟨(.type "tuple"), none, .seq ((.ref 31) :: []).toArray 0, #[]⟩
def ho27 (P : Params) : Obj := ⟨(.type "builtin_function_or_method"), none, .fields ((.builtin "type.__prepare__") :: (.type "type") :: []).toArray, #[]⟩
def ho28 (P : Params) : Obj := ⟨(.type "dict"), none, .dict (en P "__module__" 221 (.str "stow.errors" 194) :: en P "__qualname__" 223 (.str "NoName" 222) :: en P "__firstlineno__" 225 (.int (7) 224) :: en P "__static_attributes__" 226 (.ref 42) :: []).toArray 4, #[]⟩
def ho29 (P : Params) : Obj := ⟨(.type "tuple"), none, .seq #[] 0, #[]⟩
def ho30 (P : Params) : Obj := ⟨.none, none, .fields #[], #[]⟩
def ho31 (P : Params) : Obj := ⟨(.type "code"), none, .fields ((.str "NoName" 216) :: (.str "NoName" 217) :: (.str "/claim/cut.py" 218) :: (.int (7) 0) :: (.int (0) 0) :: (.int (0) 0) :: (.int (0) 0) :: (.int (0) 0) :: (.ref 38) :: (.bool false) :: (.int (181) 0) :: (.ref 39) :: .none :: .none :: .none :: .none :: (.int (219) 0) :: (.int (7) 0) :: (.str "/claim/cut.py" 220) :: []).toArray, #[]⟩
def ho32 (P : Params) : Obj := ⟨(.type "frame"), none, .plain, ((some (.ref 40)) :: (some (.ref 3)) :: (some (.ref 37)) :: none :: (some (.str "stow.errors" 194)) :: none :: (some (.ref 0)) :: []).toArray⟩
def ho33 (P : Params) : Obj := ⟨(.type "tuple"), none, .seq #[] 0, #[]⟩
def ho34 (P : Params) : Obj := ⟨(.type "dict"), none, .dict (en P "__module__" 221 (.str "stow.errors" 194) :: en P "__firstlineno__" 225 (.int (7) 224) :: en P "__static_attributes__" 226 (.ref 42) :: en P "__doc__" 227 .none :: []).toArray 2, #[]⟩
def ho35 (P : Params) : Obj := ⟨(.type "type"), none, .cls ⟨"NoName", [(.ref 31)], [(.ref 44), (.ref 31), (.type "ValueError"), (.type "Exception"), (.type "BaseException"), (.type "object")], 43, "NoName", true, [], [], false, none, false⟩, ((some (.ref 35)) :: none :: (some (.str "NoName" 214)) :: (some (.str "NoName" 222)) :: (some (.builtin "ValueError.__new__")) :: (some (.bool true)) :: []).toArray⟩
def ho36 (P : Params) : Obj := ⟨(.type "super"), none, .fields ((.ref 44) :: (.ref 44) :: (.ref 44) :: []).toArray, #[]⟩
def ho37 (P : Params) : Obj := ⟨(.type "builtin_function_or_method"), none, .fields ((.builtin "object.__init_subclass__") :: (.ref 44) :: []).toArray, #[]⟩
def ho38 (P : Params) : Obj := ⟨(.type "tuple"), none, .seq ((.ref 31) :: []).toArray 0, #[]⟩
def ho39 (P : Params) : Obj := ⟨(.type "builtin_function_or_method"), none, .fields ((.builtin "type.__prepare__") :: (.type "type") :: []).toArray, #[]⟩
def ho40 (P : Params) : Obj := ⟨(.type "dict"), none, .dict (en P "__module__" 237 (.str "stow.errors" 194) :: en P "__qualname__" 239 (.str "NoSize" 238) :: en P "__firstlineno__" 241 (.int (9) 240) :: en P "__static_attributes__" 242 (.ref 54) :: []).toArray 4, #[]⟩
def ho41 (P : Params) : Obj := ⟨(.type "tuple"), none, .seq #[] 0, #[]⟩
def ho42 (P : Params) : Obj := ⟨.none, none, .fields #[], #[]⟩
def ho43 (P : Params) : Obj := ⟨(.type "code"), none, .fields ((.str "NoSize" 232) :: (.str "NoSize" 233) :: (.str "/claim/cut.py" 234) :: (.int (9) 0) :: (.int (0) 0) :: (.int (0) 0) :: (.int (0) 0) :: (.int (0) 0) :: (.ref 50) :: (.bool false) :: (.int (181) 0) :: (.ref 51) :: .none :: .none :: .none :: .none :: (.int (235) 0) :: (.int (9) 0) :: (.str "/claim/cut.py" 236) :: []).toArray, #[]⟩
def ho44 (P : Params) : Obj := ⟨(.type "frame"), none, .plain, ((some (.ref 52)) :: (some (.ref 3)) :: (some (.ref 49)) :: none :: (some (.str "stow.errors" 194)) :: none :: (some (.ref 0)) :: []).toArray⟩
def ho45 (P : Params) : Obj := ⟨(.type "tuple"), none, .seq #[] 0, #[]⟩
def ho46 (P : Params) : Obj := ⟨(.type "dict"), none, .dict (en P "__module__" 237 (.str "stow.errors" 194) :: en P "__firstlineno__" 241 (.int (9) 240) :: en P "__static_attributes__" 242 (.ref 54) :: en P "__doc__" 243 .none :: []).toArray 2, #[]⟩
def ho47 (P : Params) : Obj := ⟨(.type "type"), none, .cls ⟨"NoSize", [(.ref 31)], [(.ref 56), (.ref 31), (.type "ValueError"), (.type "Exception"), (.type "BaseException"), (.type "object")], 55, "NoSize", true, [], [], false, none, false⟩, ((some (.ref 47)) :: none :: (some (.str "NoSize" 230)) :: (some (.str "NoSize" 238)) :: (some (.builtin "ValueError.__new__")) :: (some (.bool true)) :: []).toArray⟩
def ho48 (P : Params) : Obj := ⟨(.type "super"), none, .fields ((.ref 56) :: (.ref 56) :: (.ref 56) :: []).toArray, #[]⟩
def ho49 (P : Params) : Obj := ⟨(.type "builtin_function_or_method"), none, .fields ((.builtin "object.__init_subclass__") :: (.ref 56) :: []).toArray, #[]⟩
def ho50 (P : Params) : Obj := ⟨(.type "tuple"), none, .seq ((.ref 31) :: []).toArray 0, #[]⟩
def ho51 (P : Params) : Obj := ⟨(.type "builtin_function_or_method"), none, .fields ((.builtin "type.__prepare__") :: (.type "type") :: []).toArray, #[]⟩
def ho52 (P : Params) : Obj := ⟨(.type "dict"), none, .dict (en P "__module__" 253 (.str "stow.errors" 194) :: en P "__qualname__" 255 (.str "Broken" 254) :: en P "__firstlineno__" 257 (.int (11) 256) :: en P "__init__" 265 (.ref 72) :: en P "__static_attributes__" 267 (.ref 73) :: []).toArray 5, #[]⟩
def ho53 (P : Params) : Obj := ⟨(.type "tuple"), none, .seq #[] 0, #[]⟩
def ho54 (P : Params) : Obj := ⟨.none, none, .fields ((.int (13) 0) :: (.int (4) 0) :: (.ref 71) :: []).toArray, #[]⟩
def ho55 (P : Params) : Obj := ⟨(.type "code"), none, .fields ((.str "Broken" 248) :: (.str "Broken" 249) :: (.str "/claim/cut.py" 250) :: (.int (11) 0) :: (.int (0) 0) :: (.int (0) 0) :: (.int (0) 0) :: (.int (0) 0) :: (.ref 62) :: (.bool false) :: (.int (181) 0) :: (.ref 63) :: .none :: .none :: .none :: .none :: (.int (251) 0) :: (.int (11) 0) :: (.str "/claim/cut.py" 252) :: []).toArray, #[]⟩
def ho56 (P : Params) : Obj := ⟨(.type "frame"), none, .plain, ((some (.ref 64)) :: (some (.ref 3)) :: (some (.ref 61)) :: none :: (some (.str "stow.errors" 194)) :: none :: (some (.ref 0)) :: []).toArray⟩
def ho57 (P : Params) : Obj := ⟨(.type "tuple"), none, .seq #[] 0, #[]⟩
def ho58 (P : Params) : Obj := ⟨.none, none, .fields #[], #[]⟩
def ho59 (P : Params) : Obj := ⟨(.type "tuple"), none, .seq ((.str "self" 261) :: (.str "cell" 262) :: []).toArray 0, #[]⟩
def ho60 (P : Params) : Obj := ⟨(.type "tuple"), none, .seq #[] 0, #[]⟩
def ho61 (P : Params) : Obj := fq "__init__" "Broken.__init__" (inClass (top 5) 0)
def ho62 (P : Params) : Obj := ⟨(.type "code"), none, .fields ((.str "__init__" 258) :: (.str "Broken.__init__" 259) :: (.str "/claim/cut.py" 260) :: (.int (13) 0) :: (.int (2) 0) :: (.int (0) 0) :: (.int (0) 0) :: (.int (3) 0) :: (.ref 66) :: (.bool true) :: (.int (181) 0) :: (.ref 67) :: .none :: (.ref 68) :: (.ref 69) :: (.ref 70) :: (.int (263) 0) :: (.int (13) 0) :: (.str "/claim/cut.py" 264) :: []).toArray, #[]⟩
def ho63 (P : Params) : Obj := fo "__init__" "Broken.__init__" (inClass (top 5) 0) .none .none .none (.str "stow.errors" 194) none (.ref 71) .none none
def ho64 (P : Params) : Obj := ⟨(.type "tuple"), none, .seq ((.str "cell" 266) :: []).toArray 0, #[]⟩
def ho65 (P : Params) : Obj := ⟨(.type "dict"), none, .dict (en P "__module__" 253 (.str "stow.errors" 194) :: en P "__firstlineno__" 257 (.int (11) 256) :: en P "__init__" 265 (.ref 72) :: en P "__static_attributes__" 267 (.ref 73) :: en P "__doc__" 268 .none :: []).toArray 2, #[]⟩
def ho66 (P : Params) : Obj := ⟨(.type "type"), none, .cls ⟨"Broken", [(.ref 31)], [(.ref 75), (.ref 31), (.type "ValueError"), (.type "Exception"), (.type "BaseException"), (.type "object")], 74, "Broken", true, [], [], false, none, false⟩, ((some (.ref 59)) :: none :: (some (.str "Broken" 246)) :: (some (.str "Broken" 254)) :: (some (.builtin "ValueError.__new__")) :: (some (.bool true)) :: []).toArray⟩
def ho67 (P : Params) : Obj := ⟨(.type "super"), none, .fields ((.ref 75) :: (.ref 75) :: (.ref 75) :: []).toArray, #[]⟩
def ho68 (P : Params) : Obj := ⟨(.type "builtin_function_or_method"), none, .fields ((.builtin "object.__init_subclass__") :: (.ref 75) :: []).toArray, #[]⟩
def ho69 (P : Params) : Obj := ⟨(.type "tuple"), none, .seq ((.ref 31) :: []).toArray 0, #[]⟩
def ho70 (P : Params) : Obj := ⟨(.type "builtin_function_or_method"), none, .fields ((.builtin "type.__prepare__") :: (.type "type") :: []).toArray, #[]⟩
def ho71 (P : Params) : Obj := ⟨(.type "dict"), none, .dict (en P "__module__" 278 (.str "stow.errors" 194) :: en P "__qualname__" 280 (.str "NoGive" 279) :: en P "__firstlineno__" 282 (.int (15) 281) :: en P "__static_attributes__" 283 (.ref 85) :: []).toArray 4, #[]⟩
def ho72 (P : Params) : Obj := ⟨(.type "tuple"), none, .seq #[] 0, #[]⟩
def ho73 (P : Params) : Obj := ⟨.none, none, .fields #[], #[]⟩
def ho74 (P : Params) : Obj := ⟨(.type "code"), none, .fields ((.str "NoGive" 273) :: (.str "NoGive" 274) :: (.str "/claim/cut.py" 275) :: (.int (15) 0) :: (.int (0) 0) :: (.int (0) 0) :: (.int (0) 0) :: (.int (0) 0) :: (.ref 81) :: (.bool false) :: (.int (181) 0) :: (.ref 82) :: .none :: .none :: .none :: .none :: (.int (276) 0) :: (.int (15) 0) :: (.str "/claim/cut.py" 277) :: []).toArray, #[]⟩
def ho75 (P : Params) : Obj := ⟨(.type "frame"), none, .plain, ((some (.ref 83)) :: (some (.ref 3)) :: (some (.ref 80)) :: none :: (some (.str "stow.errors" 194)) :: none :: (some (.ref 0)) :: []).toArray⟩
def ho76 (P : Params) : Obj := ⟨(.type "tuple"), none, .seq #[] 0, #[]⟩
def ho77 (P : Params) : Obj := ⟨(.type "dict"), none, .dict (en P "__module__" 278 (.str "stow.errors" 194) :: en P "__firstlineno__" 282 (.int (15) 281) :: en P "__static_attributes__" 283 (.ref 85) :: en P "__doc__" 284 .none :: []).toArray 2, #[]⟩
def ho78 (P : Params) : Obj := ⟨(.type "type"), none, .cls ⟨"NoGive", [(.ref 31)], [(.ref 87), (.ref 31), (.type "ValueError"), (.type "Exception"), (.type "BaseException"), (.type "object")], 86, "NoGive", true, [], [], false, none, false⟩, ((some (.ref 78)) :: none :: (some (.str "NoGive" 271)) :: (some (.str "NoGive" 279)) :: (some (.builtin "ValueError.__new__")) :: (some (.bool true)) :: []).toArray⟩
def ho79 (P : Params) : Obj := ⟨(.type "super"), none, .fields ((.ref 87) :: (.ref 87) :: (.ref 87) :: []).toArray, #[]⟩
def ho80 (P : Params) : Obj := ⟨(.type "builtin_function_or_method"), none, .fields ((.builtin "object.__init_subclass__") :: (.ref 87) :: []).toArray, #[]⟩
def ho81 (P : Params) : Obj := ⟨(.type "tuple"), none, .seq ((.ref 31) :: []).toArray 0, #[]⟩
def ho82 (P : Params) : Obj := ⟨(.type "builtin_function_or_method"), none, .fields ((.builtin "type.__prepare__") :: (.type "type") :: []).toArray, #[]⟩
def ho83 (P : Params) : Obj := ⟨(.type "dict"), none, .dict (en P "__module__" 294 (.str "stow.errors" 194) :: en P "__qualname__" 296 (.str "NoHandle" 295) :: en P "__firstlineno__" 298 (.int (17) 297) :: en P "__static_attributes__" 299 (.ref 97) :: []).toArray 4, #[]⟩
def ho84 (P : Params) : Obj := ⟨(.type "tuple"), none, .seq #[] 0, #[]⟩
def ho85 (P : Params) : Obj := ⟨.none, none, .fields #[], #[]⟩
def ho86 (P : Params) : Obj := ⟨(.type "code"), none, .fields ((.str "NoHandle" 289) :: (.str "NoHandle" 290) :: (.str "/claim/cut.py" 291) :: (.int (17) 0) :: (.int (0) 0) :: (.int (0) 0) :: (.int (0) 0) :: (.int (0) 0) :: (.ref 93) :: (.bool false) :: (.int (181) 0) :: (.ref 94) :: .none :: .none :: .none :: .none :: (.int (292) 0) :: (.int (17) 0) :: (.str "/claim/cut.py" 293) :: []).toArray, #[]⟩
def ho87 (P : Params) : Obj := ⟨(.type "frame"), none, .plain, ((some (.ref 95)) :: (some (.ref 3)) :: (some (.ref 92)) :: none :: (some (.str "stow.errors" 194)) :: none :: (some (.ref 0)) :: []).toArray⟩
def ho88 (P : Params) : Obj := ⟨(.type "tuple"), none, .seq #[] 0, #[]⟩
def ho89 (P : Params) : Obj := ⟨(.type "dict"), none, .dict (en P "__module__" 294 (.str "stow.errors" 194) :: en P "__firstlineno__" 298 (.int (17) 297) :: en P "__static_attributes__" 299 (.ref 97) :: en P "__doc__" 300 .none :: []).toArray 2, #[]⟩
def ho90 (P : Params) : Obj := ⟨(.type "type"), none, .cls ⟨"NoHandle", [(.ref 31)], [(.ref 99), (.ref 31), (.type "ValueError"), (.type "Exception"), (.type "BaseException"), (.type "object")], 98, "NoHandle", true, [], [], false, none, false⟩, ((some (.ref 90)) :: none :: (some (.str "NoHandle" 287)) :: (some (.str "NoHandle" 295)) :: (some (.builtin "ValueError.__new__")) :: (some (.bool true)) :: []).toArray⟩
def ho91 (P : Params) : Obj := ⟨(.type "super"), none, .fields ((.ref 99) :: (.ref 99) :: (.ref 99) :: []).toArray, #[]⟩
def ho92 (P : Params) : Obj := ⟨(.type "builtin_function_or_method"), none, .fields ((.builtin "object.__init_subclass__") :: (.ref 99) :: []).toArray, #[]⟩
def ho93 (P : Params) : Obj := ⟨(.type "tuple"), none, .seq ((.ref 31) :: []).toArray 0, #[]⟩
def ho94 (P : Params) : Obj := ⟨(.type "builtin_function_or_method"), none, .fields ((.builtin "type.__prepare__") :: (.type "type") :: []).toArray, #[]⟩
def ho95 (P : Params) : Obj := ⟨(.type "dict"), none, .dict (en P "__module__" 310 (.str "stow.errors" 194) :: en P "__qualname__" 312 (.str "NoPiece" 311) :: en P "__firstlineno__" 314 (.int (19) 313) :: en P "__static_attributes__" 315 (.ref 109) :: []).toArray 4, #[]⟩
def ho96 (P : Params) : Obj := ⟨(.type "tuple"), none, .seq #[] 0, #[]⟩
def ho97 (P : Params) : Obj := ⟨.none, none, .fields #[], #[]⟩
def ho98 (P : Params) : Obj := ⟨(.type "code"), none, .fields ((.str "NoPiece" 305) :: (.str "NoPiece" 306) :: (.str "/claim/cut.py" 307) :: (.int (19) 0) :: (.int (0) 0) :: (.int (0) 0) :: (.int (0) 0) :: (.int (0) 0) :: (.ref 105) :: (.bool false) :: (.int (181) 0) :: (.ref 106) :: .none :: .none :: .none :: .none :: (.int (308) 0) :: (.int (19) 0) :: (.str "/claim/cut.py" 309) :: []).toArray, #[]⟩
def ho99 (P : Params) : Obj := ⟨(.type "frame"), none, .plain, ((some (.ref 107)) :: (some (.ref 3)) :: (some (.ref 104)) :: none :: (some (.str "stow.errors" 194)) :: none :: (some (.ref 0)) :: []).toArray⟩
def ho100 (P : Params) : Obj := ⟨(.type "tuple"), none, .seq #[] 0, #[]⟩
def ho101 (P : Params) : Obj := ⟨(.type "dict"), none, .dict (en P "__module__" 310 (.str "stow.errors" 194) :: en P "__firstlineno__" 314 (.int (19) 313) :: en P "__static_attributes__" 315 (.ref 109) :: en P "__doc__" 316 .none :: []).toArray 2, #[]⟩
def ho102 (P : Params) : Obj := ⟨(.type "type"), none, .cls ⟨"NoPiece", [(.ref 31)], [(.ref 111), (.ref 31), (.type "ValueError"), (.type "Exception"), (.type "BaseException"), (.type "object")], 110, "NoPiece", true, [], [], false, none, false⟩, ((some (.ref 102)) :: none :: (some (.str "NoPiece" 303)) :: (some (.str "NoPiece" 311)) :: (some (.builtin "ValueError.__new__")) :: (some (.bool true)) :: []).toArray⟩
def ho103 (P : Params) : Obj := ⟨(.type "super"), none, .fields ((.ref 111) :: (.ref 111) :: (.ref 111) :: []).toArray, #[]⟩
def ho104 (P : Params) : Obj := ⟨(.type "builtin_function_or_method"), none, .fields ((.builtin "object.__init_subclass__") :: (.ref 111) :: []).toArray, #[]⟩
def ho105 (P : Params) : Obj := ⟨(.type "tuple"), none, .seq ((.ref 31) :: []).toArray 0, #[]⟩
def ho106 (P : Params) : Obj := ⟨(.type "builtin_function_or_method"), none, .fields ((.builtin "type.__prepare__") :: (.type "type") :: []).toArray, #[]⟩
def ho107 (P : Params) : Obj := ⟨(.type "dict"), none, .dict (en P "__module__" 326 (.str "stow.errors" 194) :: en P "__qualname__" 328 (.str "NoCell" 327) :: en P "__firstlineno__" 330 (.int (21) 329) :: en P "__static_attributes__" 331 (.ref 121) :: []).toArray 4, #[]⟩
def ho108 (P : Params) : Obj := ⟨(.type "tuple"), none, .seq #[] 0, #[]⟩
def ho109 (P : Params) : Obj := ⟨.none, none, .fields #[], #[]⟩
def ho110 (P : Params) : Obj := ⟨(.type "code"), none, .fields ((.str "NoCell" 321) :: (.str "NoCell" 322) :: (.str "/claim/cut.py" 323) :: (.int (21) 0) :: (.int (0) 0) :: (.int (0) 0) :: (.int (0) 0) :: (.int (0) 0) :: (.ref 117) :: (.bool false) :: (.int (181) 0) :: (.ref 118) :: .none :: .none :: .none :: .none :: (.int (324) 0) :: (.int (21) 0) :: (.str "/claim/cut.py" 325) :: []).toArray, #[]⟩
def ho111 (P : Params) : Obj := ⟨(.type "frame"), none, .plain, ((some (.ref 119)) :: (some (.ref 3)) :: (some (.ref 116)) :: none :: (some (.str "stow.errors" 194)) :: none :: (some (.ref 0)) :: []).toArray⟩
def ho112 (P : Params) : Obj := ⟨(.type "tuple"), none, .seq #[] 0, #[]⟩
def ho113 (P : Params) : Obj := ⟨(.type "dict"), none, .dict (en P "__module__" 326 (.str "stow.errors" 194) :: en P "__firstlineno__" 330 (.int (21) 329) :: en P "__static_attributes__" 331 (.ref 121) :: en P "__doc__" 332 .none :: []).toArray 2, #[]⟩
def ho114 (P : Params) : Obj := ⟨(.type "type"), none, .cls ⟨"NoCell", [(.ref 31)], [(.ref 123), (.ref 31), (.type "ValueError"), (.type "Exception"), (.type "BaseException"), (.type "object")], 122, "NoCell", true, [], [], false, none, false⟩, ((some (.ref 114)) :: none :: (some (.str "NoCell" 319)) :: (some (.str "NoCell" 327)) :: (some (.builtin "ValueError.__new__")) :: (some (.bool true)) :: []).toArray⟩
def ho115 (P : Params) : Obj := ⟨(.type "super"), none, .fields ((.ref 123) :: (.ref 123) :: (.ref 123) :: []).toArray, #[]⟩
def ho116 (P : Params) : Obj := ⟨(.type "builtin_function_or_method"), none, .fields ((.builtin "object.__init_subclass__") :: (.ref 123) :: []).toArray, #[]⟩
def ho117 (P : Params) : Obj := ⟨(.type "dict"), none, .dict (en P "__name__" 165 (.str "stow.pieces" 525) :: en P "__doc__" 166 .none :: en P "__package__" 167 .none :: en P "__loader__" 168 (.builtin "__main__.__loader__#opaque") :: en P "__spec__" 169 .none :: en P "__annotations__" 170 (.ref 6) :: en P "__builtins__" 171 (.ref 4) :: en P "__file__" 173 (.str "/claim/cut.py" 172) :: en P "__cached__" 174 .none :: en P "_wall" 193 (.ref 21) :: en P "StowError" 213 (.ref 31) :: en P "NoName" 229 (.ref 44) :: en P "NoSize" 245 (.ref 56) :: en P "Broken" 270 (.ref 75) :: en P "NoGive" 286 (.ref 87) :: en P "NoHandle" 302 (.ref 99) :: en P "NoPiece" 318 (.ref 111) :: en P "NoCell" 334 (.ref 123) :: en P "NoAsk" 350 (.ref 135) :: en P "NoBound" 366 (.ref 147) :: en P "NoRoom" 382 (.ref 159) :: en P "BadLine" 407 (.ref 178) :: en P "NoLine" 423 (.ref 190) :: en P "NoTurn" 439 (.ref 202) :: en P "MARKS" 443 (.int (2) 442) :: en P "check_ask" 451 (.ref 211) :: en P "check_plain_ask" 459 (.ref 218) :: en P "mark_of" 469 (.ref 225) :: en P "long_of" 476 (.ref 232) :: en P "live_of" 483 (.ref 239) :: en P "LEAST_LIVE" 487 (.int (3) 486) :: en P "can_begin" 496 (.ref 246) :: en P "bad_of_piece" 505 (.ref 253) :: en P "looked" 516 (.ref 260) :: en P "fresh_room" 524 (.ref 267) :: en P "laid" 537 (.ref 274) :: en P "piece_at" 546 (.ref 281) :: []).toArray 37, #[]⟩
def ho118 (P : Params) : Obj := ⟨.none, none, .fields ((.int (1) 0) :: (.int (0) 0) :: (.ref 20) :: (.int (5) 0) :: (.int (0) 0) :: (.ref 27) :: (.int (7) 0) :: (.int (0) 0) :: (.ref 40) :: (.int (9) 0) :: (.int (0) 0) :: (.ref 52) :: (.int (11) 0) :: (.int (0) 0) :: (.ref 64) :: (.int (15) 0) :: (.int (0) 0) :: (.ref 83) :: (.int (17) 0) :: (.int (0) 0) :: (.ref 95) :: (.int (19) 0) :: (.int (0) 0) :: (.ref 107) :: (.int (21) 0) :: (.int (0) 0) :: (.ref 119) :: (.int (23) 0) :: (.int (0) 0) :: (.ref 131) :: (.int (25) 0) :: (.int (0) 0) :: (.ref 143) :: (.int (27) 0) :: (.int (0) 0) :: (.ref 155) :: (.int (29) 0) :: (.int (0) 0) :: (.ref 167) :: (.int (33) 0) :: (.int (0) 0) :: (.ref 186) :: (.int (35) 0) :: (.int (0) 0) :: (.ref 198) :: (.int (39) 0) :: (.int (0) 0) :: (.ref 210) :: (.int (42) 0) :: (.int (0) 0) :: (.ref 217) :: (.int (47) 0) :: (.int (0) 0) :: (.ref 224) :: (.int (51) 0) :: (.int (0) 0) :: (.ref 231) :: (.int (53) 0) :: (.int (0) 0) :: (.ref 238) :: (.int (57) 0) :: (.int (0) 0) :: (.ref 245) :: (.int (62) 0) :: (.int (0) 0) :: (.ref 252) :: (.int (69) 0) :: (.int (0) 0) :: (.ref 259) :: (.int (80) 0) :: (.int (0) 0) :: (.ref 266) :: (.int (88) 0) :: (.int (0) 0) :: (.ref 273) :: (.int (93) 0) :: (.int (0) 0) :: (.ref 280) :: []).toArray, #[]⟩
def ho119 (P : Params) : Obj := ⟨(.type "type"), none, .cls ⟨"StowError", [(.type "ValueError")], [(.ref 31), (.type "ValueError"), (.type "Exception"), (.type "BaseException"), (.type "object")], 30, "StowError", true, [], [(.ref 44), (.ref 56), (.ref 75), (.ref 87), (.ref 99), (.ref 111), (.ref 123), (.ref 135), (.ref 147), (.ref 159), (.ref 178), (.ref 190), (.ref 202)], false, none, false⟩, ((some (.ref 22)) :: none :: (some (.str "StowError" 196)) :: (some (.str "StowError" 204)) :: (some (.builtin "ValueError.__new__")) :: (some (.bool true)) :: []).toArray⟩
def ho120 (P : Params) : Obj := ⟨(.type "tuple"), none, .seq ((.ref 31) :: []).toArray 0, #[]⟩
def ho121 (P : Params) : Obj := ⟨(.type "builtin_function_or_method"), none, .fields ((.builtin "type.__prepare__") :: (.type "type") :: []).toArray, #[]⟩
def ho122 (P : Params) : Obj := ⟨(.type "dict"), none, .dict (en P "__module__" 342 (.str "stow.errors" 194) :: en P "__qualname__" 344 (.str "NoAsk" 343) :: en P "__firstlineno__" 346 (.int (23) 345) :: en P "__static_attributes__" 347 (.ref 133) :: []).toArray 4, #[]⟩
def ho123 (P : Params) : Obj := ⟨(.type "tuple"), none, .seq #[] 0, #[]⟩
def ho124 (P : Params) : Obj := ⟨.none, none, .fields #[], #[]⟩
def ho125 (P : Params) : Obj := ⟨(.type "code"), none, .fields ((.str "NoAsk" 337) :: (.str "NoAsk" 338) :: (.str "/claim/cut.py" 339) :: (.int (23) 0) :: (.int (0) 0) :: (.int (0) 0) :: (.int (0) 0) :: (.int (0) 0) :: (.ref 129) :: (.bool false) :: (.int (181) 0) :: (.ref 130) :: .none :: .none :: .none :: .none :: (.int (340) 0) :: (.int (23) 0) :: (.str "/claim/cut.py" 341) :: []).toArray, #[]⟩
def ho126 (P : Params) : Obj := ⟨(.type "frame"), none, .plain, ((some (.ref 131)) :: (some (.ref 3)) :: (some (.ref 128)) :: none :: (some (.str "stow.errors" 194)) :: none :: (some (.ref 0)) :: []).toArray⟩
def ho127 (P : Params) : Obj := ⟨(.type "tuple"), none, .seq #[] 0, #[]⟩
def ho128 (P : Params) : Obj := ⟨(.type "dict"), none, .dict (en P "__module__" 342 (.str "stow.errors" 194) :: en P "__firstlineno__" 346 (.int (23) 345) :: en P "__static_attributes__" 347 (.ref 133) :: en P "__doc__" 348 .none :: []).toArray 2, #[]⟩
def ho129 (P : Params) : Obj := ⟨(.type "type"), none, .cls ⟨"NoAsk", [(.ref 31)], [(.ref 135), (.ref 31), (.type "ValueError"), (.type "Exception"), (.type "BaseException"), (.type "object")], 134, "NoAsk", true, [], [], false, none, false⟩, ((some (.ref 126)) :: none :: (some (.str "NoAsk" 335)) :: (some (.str "NoAsk" 343)) :: (some (.builtin "ValueError.__new__")) :: (some (.bool true)) :: []).toArray⟩
def ho130 (P : Params) : Obj := ⟨(.type "super"), none, .fields ((.ref 135) :: (.ref 135) :: (.ref 135) :: []).toArray, #[]⟩
def ho131 (P : Params) : Obj := ⟨(.type "builtin_function_or_method"), none, .fields ((.builtin "object.__init_subclass__") :: (.ref 135) :: []).toArray, #[]⟩
def ho132 (P : Params) : Obj := ⟨(.type "tuple"), none, .seq ((.ref 31) :: []).toArray 0, #[]⟩
def ho133 (P : Params) : Obj := ⟨(.type "builtin_function_or_method"), none, .fields ((.builtin "type.__prepare__") :: (.type "type") :: []).toArray, #[]⟩
def ho134 (P : Params) : Obj := ⟨(.type "dict"), none, .dict (en P "__module__" 358 (.str "stow.errors" 194) :: en P "__qualname__" 360 (.str "NoBound" 359) :: en P "__firstlineno__" 362 (.int (25) 361) :: en P "__static_attributes__" 363 (.ref 145) :: []).toArray 4, #[]⟩
def ho135 (P : Params) : Obj := ⟨(.type "tuple"), none, .seq #[] 0, #[]⟩
def ho136 (P : Params) : Obj := ⟨.none, none, .fields #[], #[]⟩
def ho137 (P : Params) : Obj := ⟨(.type "code"), none, .fields ((.str "NoBound" 353) :: (.str "NoBound" 354) :: (.str "/claim/cut.py" 355) :: (.int (25) 0) :: (.int (0) 0) :: (.int (0) 0) :: (.int (0) 0) :: (.int (0) 0) :: (.ref 141) :: (.bool false) :: (.int (181) 0) :: (.ref 142) :: .none :: .none :: .none :: .none :: (.int (356) 0) :: (.int (25) 0) :: (.str "/claim/cut.py" 357) :: []).toArray, #[]⟩
def ho138 (P : Params) : Obj := ⟨(.type "frame"), none, .plain, ((some (.ref 143)) :: (some (.ref 3)) :: (some (.ref 140)) :: none :: (some (.str "stow.errors" 194)) :: none :: (some (.ref 0)) :: []).toArray⟩
def ho139 (P : Params) : Obj := ⟨(.type "tuple"), none, .seq #[] 0, #[]⟩
def ho140 (P : Params) : Obj := ⟨(.type "dict"), none, .dict (en P "__module__" 358 (.str "stow.errors" 194) :: en P "__firstlineno__" 362 (.int (25) 361) :: en P "__static_attributes__" 363 (.ref 145) :: en P "__doc__" 364 .none :: []).toArray 2, #[]⟩
def ho141 (P : Params) : Obj := ⟨(.type "type"), none, .cls ⟨"NoBound", [(.ref 31)], [(.ref 147), (.ref 31), (.type "ValueError"), (.type "Exception"), (.type "BaseException"), (.type "object")], 146, "NoBound", true, [], [], false, none, false⟩, ((some (.ref 138)) :: none :: (some (.str "NoBound" 351)) :: (some (.str "NoBound" 359)) :: (some (.builtin "ValueError.__new__")) :: (some (.bool true)) :: []).toArray⟩
def ho142 (P : Params) : Obj := ⟨(.type "super"), none, .fields ((.ref 147) :: (.ref 147) :: (.ref 147) :: []).toArray, #[]⟩
def ho143 (P : Params) : Obj := ⟨(.type "builtin_function_or_method"), none, .fields ((.builtin "object.__init_subclass__") :: (.ref 147) :: []).toArray, #[]⟩
def ho144 (P : Params) : Obj := ⟨(.type "tuple"), none, .seq ((.ref 31) :: []).toArray 0, #[]⟩
def ho145 (P : Params) : Obj := ⟨(.type "builtin_function_or_method"), none, .fields ((.builtin "type.__prepare__") :: (.type "type") :: []).toArray, #[]⟩
def ho146 (P : Params) : Obj := ⟨(.type "dict"), none, .dict (en P "__module__" 374 (.str "stow.errors" 194) :: en P "__qualname__" 376 (.str "NoRoom" 375) :: en P "__firstlineno__" 378 (.int (27) 377) :: en P "__static_attributes__" 379 (.ref 157) :: []).toArray 4, #[]⟩
def ho147 (P : Params) : Obj := ⟨(.type "tuple"), none, .seq #[] 0, #[]⟩
def ho148 (P : Params) : Obj := ⟨.none, none, .fields #[], #[]⟩
def ho149 (P : Params) : Obj := ⟨(.type "code"), none, .fields ((.str "NoRoom" 369) :: (.str "NoRoom" 370) :: (.str "/claim/cut.py" 371) :: (.int (27) 0) :: (.int (0) 0) :: (.int (0) 0) :: (.int (0) 0) :: (.int (0) 0) :: (.ref 153) :: (.bool false) :: (.int (181) 0) :: (.ref 154) :: .none :: .none :: .none :: .none :: (.int (372) 0) :: (.int (27) 0) :: (.str "/claim/cut.py" 373) :: []).toArray, #[]⟩
def ho150 (P : Params) : Obj := ⟨(.type "frame"), none, .plain, ((some (.ref 155)) :: (some (.ref 3)) :: (some (.ref 152)) :: none :: (some (.str "stow.errors" 194)) :: none :: (some (.ref 0)) :: []).toArray⟩
def ho151 (P : Params) : Obj := ⟨(.type "tuple"), none, .seq #[] 0, #[]⟩
def ho152 (P : Params) : Obj := ⟨(.type "dict"), none, .dict (en P "__module__" 374 (.str "stow.errors" 194) :: en P "__firstlineno__" 378 (.int (27) 377) :: en P "__static_attributes__" 379 (.ref 157) :: en P "__doc__" 380 .none :: []).toArray 2, #[]⟩
def ho153 (P : Params) : Obj := ⟨(.type "type"), none, .cls ⟨"NoRoom", [(.ref 31)], [(.ref 159), (.ref 31), (.type "ValueError"), (.type "Exception"), (.type "BaseException"), (.type "object")], 158, "NoRoom", true, [], [], false, none, false⟩, ((some (.ref 150)) :: none :: (some (.str "NoRoom" 367)) :: (some (.str "NoRoom" 375)) :: (some (.builtin "ValueError.__new__")) :: (some (.bool true)) :: []).toArray⟩
def ho154 (P : Params) : Obj := ⟨(.type "super"), none, .fields ((.ref 159) :: (.ref 159) :: (.ref 159) :: []).toArray, #[]⟩
def ho155 (P : Params) : Obj := ⟨(.type "builtin_function_or_method"), none, .fields ((.builtin "object.__init_subclass__") :: (.ref 159) :: []).toArray, #[]⟩
def ho156 (P : Params) : Obj := ⟨(.type "tuple"), none, .seq ((.ref 31) :: []).toArray 0, #[]⟩
def ho157 (P : Params) : Obj := ⟨(.type "builtin_function_or_method"), none, .fields ((.builtin "type.__prepare__") :: (.type "type") :: []).toArray, #[]⟩
def ho158 (P : Params) : Obj := ⟨(.type "dict"), none, .dict (en P "__module__" 390 (.str "stow.errors" 194) :: en P "__qualname__" 392 (.str "BadLine" 391) :: en P "__firstlineno__" 394 (.int (29) 393) :: en P "__init__" 402 (.ref 175) :: en P "__static_attributes__" 404 (.ref 176) :: []).toArray 5, #[]⟩
def ho159 (P : Params) : Obj := ⟨(.type "tuple"), none, .seq #[] 0, #[]⟩
def ho160 (P : Params) : Obj := ⟨.none, none, .fields ((.int (31) 0) :: (.int (4) 0) :: (.ref 174) :: []).toArray, #[]⟩
def ho161 (P : Params) : Obj := ⟨(.type "code"), none, .fields ((.str "BadLine" 385) :: (.str "BadLine" 386) :: (.str "/claim/cut.py" 387) :: (.int (29) 0) :: (.int (0) 0) :: (.int (0) 0) :: (.int (0) 0) :: (.int (0) 0) :: (.ref 165) :: (.bool false) :: (.int (181) 0) :: (.ref 166) :: .none :: .none :: .none :: .none :: (.int (388) 0) :: (.int (29) 0) :: (.str "/claim/cut.py" 389) :: []).toArray, #[]⟩
def ho162 (P : Params) : Obj := ⟨(.type "frame"), none, .plain, ((some (.ref 167)) :: (some (.ref 3)) :: (some (.ref 164)) :: none :: (some (.str "stow.errors" 194)) :: none :: (some (.ref 0)) :: []).toArray⟩
def ho163 (P : Params) : Obj := ⟨(.type "tuple"), none, .seq #[] 0, #[]⟩
def ho164 (P : Params) : Obj := ⟨.none, none, .fields #[], #[]⟩
def ho165 (P : Params) : Obj := ⟨(.type "tuple"), none, .seq ((.str "self" 398) :: (.str "line" 399) :: []).toArray 0, #[]⟩
def ho166 (P : Params) : Obj := ⟨(.type "tuple"), none, .seq #[] 0, #[]⟩
def ho167 (P : Params) : Obj := fq "__init__" "BadLine.__init__" (inClass (top 13) 0)
def ho168 (P : Params) : Obj := ⟨(.type "code"), none, .fields ((.str "__init__" 395) :: (.str "BadLine.__init__" 396) :: (.str "/claim/cut.py" 397) :: (.int (31) 0) :: (.int (2) 0) :: (.int (0) 0) :: (.int (0) 0) :: (.int (3) 0) :: (.ref 169) :: (.bool true) :: (.int (181) 0) :: (.ref 170) :: .none :: (.ref 171) :: (.ref 172) :: (.ref 173) :: (.int (400) 0) :: (.int (31) 0) :: (.str "/claim/cut.py" 401) :: []).toArray, #[]⟩
def ho169 (P : Params) : Obj := fo "__init__" "BadLine.__init__" (inClass (top 13) 0) .none .none .none (.str "stow.errors" 194) none (.ref 174) .none none
def ho170 (P : Params) : Obj := ⟨(.type "tuple"), none, .seq ((.str "line" 403) :: []).toArray 0, #[]⟩
def ho171 (P : Params) : Obj := ⟨(.type "dict"), none, .dict (en P "__module__" 390 (.str "stow.errors" 194) :: en P "__firstlineno__" 394 (.int (29) 393) :: en P "__init__" 402 (.ref 175) :: en P "__static_attributes__" 404 (.ref 176) :: en P "__doc__" 405 .none :: []).toArray 2, #[]⟩
def ho172 (P : Params) : Obj := ⟨(.type "type"), none, .cls ⟨"BadLine", [(.ref 31)], [(.ref 178), (.ref 31), (.type "ValueError"), (.type "Exception"), (.type "BaseException"), (.type "object")], 177, "BadLine", true, [], [], false, none, false⟩, ((some (.ref 162)) :: none :: (some (.str "BadLine" 383)) :: (some (.str "BadLine" 391)) :: (some (.builtin "ValueError.__new__")) :: (some (.bool true)) :: []).toArray⟩
def ho173 (P : Params) : Obj := ⟨(.type "super"), none, .fields ((.ref 178) :: (.ref 178) :: (.ref 178) :: []).toArray, #[]⟩
def ho174 (P : Params) : Obj := ⟨(.type "builtin_function_or_method"), none, .fields ((.builtin "object.__init_subclass__") :: (.ref 178) :: []).toArray, #[]⟩
def ho175 (P : Params) : Obj := ⟨(.type "tuple"), none, .seq ((.ref 31) :: []).toArray 0, #[]⟩
def ho176 (P : Params) : Obj := ⟨(.type "builtin_function_or_method"), none, .fields ((.builtin "type.__prepare__") :: (.type "type") :: []).toArray, #[]⟩
def ho177 (P : Params) : Obj := ⟨(.type "dict"), none, .dict (en P "__module__" 415 (.str "stow.errors" 194) :: en P "__qualname__" 417 (.str "NoLine" 416) :: en P "__firstlineno__" 419 (.int (33) 418) :: en P "__static_attributes__" 420 (.ref 188) :: []).toArray 4, #[]⟩
def ho178 (P : Params) : Obj := ⟨(.type "tuple"), none, .seq #[] 0, #[]⟩
def ho179 (P : Params) : Obj := ⟨.none, none, .fields #[], #[]⟩
def ho180 (P : Params) : Obj := ⟨(.type "code"), none, .fields ((.str "NoLine" 410) :: (.str "NoLine" 411) :: (.str "/claim/cut.py" 412) :: (.int (33) 0) :: (.int (0) 0) :: (.int (0) 0) :: (.int (0) 0) :: (.int (0) 0) :: (.ref 184) :: (.bool false) :: (.int (181) 0) :: (.ref 185) :: .none :: .none :: .none :: .none :: (.int (413) 0) :: (.int (33) 0) :: (.str "/claim/cut.py" 414) :: []).toArray, #[]⟩
def ho181 (P : Params) : Obj := ⟨(.type "frame"), none, .plain, ((some (.ref 186)) :: (some (.ref 3)) :: (some (.ref 183)) :: none :: (some (.str "stow.errors" 194)) :: none :: (some (.ref 0)) :: []).toArray⟩
def ho182 (P : Params) : Obj := ⟨(.type "tuple"), none, .seq #[] 0, #[]⟩
def ho183 (P : Params) : Obj := ⟨(.type "dict"), none, .dict (en P "__module__" 415 (.str "stow.errors" 194) :: en P "__firstlineno__" 419 (.int (33) 418) :: en P "__static_attributes__" 420 (.ref 188) :: en P "__doc__" 421 .none :: []).toArray 2, #[]⟩
def ho184 (P : Params) : Obj := ⟨(.type "type"), none, .cls ⟨"NoLine", [(.ref 31)], [(.ref 190), (.ref 31), (.type "ValueError"), (.type "Exception"), (.type "BaseException"), (.type "object")], 189, "NoLine", true, [], [], false, none, false⟩, ((some (.ref 181)) :: none :: (some (.str "NoLine" 408)) :: (some (.str "NoLine" 416)) :: (some (.builtin "ValueError.__new__")) :: (some (.bool true)) :: []).toArray⟩
def ho185 (P : Params) : Obj := ⟨(.type "super"), none, .fields ((.ref 190) :: (.ref 190) :: (.ref 190) :: []).toArray, #[]⟩
def ho186 (P : Params) : Obj := ⟨(.type "builtin_function_or_method"), none, .fields ((.builtin "object.__init_subclass__") :: (.ref 190) :: []).toArray, #[]⟩
def ho187 (P : Params) : Obj := ⟨(.type "tuple"), none, .seq ((.ref 31) :: []).toArray 0, #[]⟩
def ho188 (P : Params) : Obj := ⟨(.type "builtin_function_or_method"), none, .fields ((.builtin "type.__prepare__") :: (.type "type") :: []).toArray, #[]⟩
def ho189 (P : Params) : Obj := ⟨(.type "dict"), none, .dict (en P "__module__" 431 (.str "stow.errors" 194) :: en P "__qualname__" 433 (.str "NoTurn" 432) :: en P "__firstlineno__" 435 (.int (35) 434) :: en P "__static_attributes__" 436 (.ref 200) :: []).toArray 4, #[]⟩
def ho190 (P : Params) : Obj := ⟨(.type "tuple"), none, .seq #[] 0, #[]⟩
def ho191 (P : Params) : Obj := ⟨.none, none, .fields #[], #[]⟩
def ho192 (P : Params) : Obj := ⟨(.type "code"), none, .fields ((.str "NoTurn" 426) :: (.str "NoTurn" 427) :: (.str "/claim/cut.py" 428) :: (.int (35) 0) :: (.int (0) 0) :: (.int (0) 0) :: (.int (0) 0) :: (.int (0) 0) :: (.ref 196) :: (.bool false) :: (.int (181) 0) :: (.ref 197) :: .none :: .none :: .none :: .none :: (.int (429) 0) :: (.int (35) 0) :: (.str "/claim/cut.py" 430) :: []).toArray, #[]⟩
def ho193 (P : Params) : Obj := ⟨(.type "frame"), none, .plain, ((some (.ref 198)) :: (some (.ref 3)) :: (some (.ref 195)) :: none :: (some (.str "stow.errors" 194)) :: none :: (some (.ref 0)) :: []).toArray⟩
def ho194 (P : Params) : Obj := ⟨(.type "tuple"), none, .seq #[] 0, #[]⟩
def ho195 (P : Params) : Obj := ⟨(.type "dict"), none, .dict (en P "__module__" 431 (.str "stow.errors" 194) :: en P "__firstlineno__" 435 (.int (35) 434) :: en P "__static_attributes__" 436 (.ref 200) :: en P "__doc__" 437 .none :: []).toArray 2, #[]⟩
def ho196 (P : Params) : Obj := ⟨(.type "type"), none, .cls ⟨"NoTurn", [(.ref 31)], [(.ref 202), (.ref 31), (.type "ValueError"), (.type "Exception"), (.type "BaseException"), (.type "object")], 201, "NoTurn", true, [], [], false, none, false⟩, ((some (.ref 193)) :: none :: (some (.str "NoTurn" 424)) :: (some (.str "NoTurn" 432)) :: (some (.builtin "ValueError.__new__")) :: (some (.bool true)) :: []).toArray⟩
def ho197 (P : Params) : Obj := ⟨(.type "super"), none, .fields ((.ref 202) :: (.ref 202) :: (.ref 202) :: []).toArray, #[]⟩
def ho198 (P : Params) : Obj := ⟨(.type "builtin_function_or_method"), none, .fields ((.builtin "object.__init_subclass__") :: (.ref 202) :: []).toArray, #[]⟩
def ho199 (P : Params) : Obj := ⟨(.type "tuple"), none, .seq #[] 0, #[]⟩
def ho200 (P : Params) : Obj := ⟨.none, none, .fields #[], #[]⟩
def ho201 (P : Params) : Obj := ⟨(.type "tuple"), none, .seq ((.str "count" 447) :: (.str "bound" 448) :: []).toArray 0, #[]⟩
def ho202 (P : Params) : Obj := ⟨(.type "tuple"), none, .seq #[] 0, #[]⟩
def ho203 (P : Params) : Obj := fq "check_ask" "check_ask" (top 18)
def ho204 (P : Params) : Obj := ⟨(.type "code"), none, .fields ((.str "check_ask" 444) :: (.str "check_ask" 445) :: (.str "/claim/cut.py" 446) :: (.int (39) 0) :: (.int (2) 0) :: (.int (0) 0) :: (.int (0) 0) :: (.int (3) 0) :: (.ref 205) :: (.bool true) :: (.int (181) 0) :: (.ref 206) :: .none :: (.ref 207) :: (.ref 208) :: (.ref 209) :: (.int (449) 0) :: (.int (39) 0) :: (.str "/claim/cut.py" 450) :: []).toArray, #[]⟩
def ho205 (P : Params) : Obj := fo "check_ask" "check_ask" (top 18) .none .none .none (.str "stow.asks" 440) none (.ref 210) .none none
def ho206 (P : Params) : Obj := ⟨(.type "tuple"), none, .seq #[] 0, #[]⟩
def ho207 (P : Params) : Obj := ⟨.none, none, .fields #[], #[]⟩
def ho208 (P : Params) : Obj := ⟨(.type "tuple"), none, .seq ((.str "count" 455) :: (.str "bound" 456) :: []).toArray 0, #[]⟩
def ho209 (P : Params) : Obj := ⟨(.type "tuple"), none, .seq #[] 0, #[]⟩
def ho210 (P : Params) : Obj := fq "check_plain_ask" "check_plain_ask" (top 19)
def ho211 (P : Params) : Obj := ⟨(.type "code"), none, .fields ((.str "check_plain_ask" 452) :: (.str "check_plain_ask" 453) :: (.str "/claim/cut.py" 454) :: (.int (42) 0) :: (.int (2) 0) :: (.int (0) 0) :: (.int (0) 0) :: (.int (3) 0) :: (.ref 212) :: (.bool true) :: (.int (181) 0) :: (.ref 213) :: .none :: (.ref 214) :: (.ref 215) :: (.ref 216) :: (.int (457) 0) :: (.int (42) 0) :: (.str "/claim/cut.py" 458) :: []).toArray, #[]⟩
def ho212 (P : Params) : Obj := fo "check_plain_ask" "check_plain_ask" (top 19) .none .none .none (.str "stow.asks" 440) none (.ref 217) .none none
def ho213 (P : Params) : Obj := ⟨(.type "tuple"), none, .seq #[] 0, #[]⟩
def ho214 (P : Params) : Obj := ⟨.none, none, .fields #[], #[]⟩
def ho215 (P : Params) : Obj := ⟨(.type "tuple"), none, .seq ((.str "long" 465) :: (.str "live" 466) :: []).toArray 0, #[]⟩
def ho216 (P : Params) : Obj := ⟨(.type "tuple"), none, .seq #[] 0, #[]⟩
def ho217 (P : Params) : Obj := fq "mark_of" "mark_of" (top 21)
def ho218 (P : Params) : Obj := ⟨(.type "code"), none, .fields ((.str "mark_of" 462) :: (.str "mark_of" 463) :: (.str "/claim/cut.py" 464) :: (.int (47) 0) :: (.int (2) 0) :: (.int (0) 0) :: (.int (0) 0) :: (.int (3) 0) :: (.ref 219) :: (.bool true) :: (.int (181) 0) :: (.ref 220) :: .none :: (.ref 221) :: (.ref 222) :: (.ref 223) :: (.int (467) 0) :: (.int (47) 0) :: (.str "/claim/cut.py" 468) :: []).toArray, #[]⟩
def ho219 (P : Params) : Obj := fo "mark_of" "mark_of" (top 21) .none .none .none (.str "stow.marks" 460) none (.ref 224) .none none
def ho220 (P : Params) : Obj := ⟨(.type "tuple"), none, .seq #[] 0, #[]⟩
def ho221 (P : Params) : Obj := ⟨.none, none, .fields #[], #[]⟩
def ho222 (P : Params) : Obj := ⟨(.type "tuple"), none, .seq ((.str "number" 473) :: []).toArray 0, #[]⟩
def ho223 (P : Params) : Obj := ⟨(.type "tuple"), none, .seq #[] 0, #[]⟩
def ho224 (P : Params) : Obj := fq "long_of" "long_of" (top 22)
def ho225 (P : Params) : Obj := ⟨(.type "code"), none, .fields ((.str "long_of" 470) :: (.str "long_of" 471) :: (.str "/claim/cut.py" 472) :: (.int (51) 0) :: (.int (1) 0) :: (.int (0) 0) :: (.int (0) 0) :: (.int (3) 0) :: (.ref 226) :: (.bool true) :: (.int (181) 0) :: (.ref 227) :: .none :: (.ref 228) :: (.ref 229) :: (.ref 230) :: (.int (474) 0) :: (.int (51) 0) :: (.str "/claim/cut.py" 475) :: []).toArray, #[]⟩
def ho226 (P : Params) : Obj := fo "long_of" "long_of" (top 22) .none .none .none (.str "stow.marks" 460) none (.ref 231) .none none
def ho227 (P : Params) : Obj := ⟨(.type "tuple"), none, .seq #[] 0, #[]⟩
def ho228 (P : Params) : Obj := ⟨.none, none, .fields #[], #[]⟩
def ho229 (P : Params) : Obj := ⟨(.type "tuple"), none, .seq ((.str "number" 480) :: []).toArray 0, #[]⟩
def ho230 (P : Params) : Obj := ⟨(.type "tuple"), none, .seq #[] 0, #[]⟩
def ho231 (P : Params) : Obj := fq "live_of" "live_of" (top 23)
def ho232 (P : Params) : Obj := ⟨(.type "code"), none, .fields ((.str "live_of" 477) :: (.str "live_of" 478) :: (.str "/claim/cut.py" 479) :: (.int (53) 0) :: (.int (1) 0) :: (.int (0) 0) :: (.int (0) 0) :: (.int (3) 0) :: (.ref 233) :: (.bool true) :: (.int (181) 0) :: (.ref 234) :: .none :: (.ref 235) :: (.ref 236) :: (.ref 237) :: (.int (481) 0) :: (.int (53) 0) :: (.str "/claim/cut.py" 482) :: []).toArray, #[]⟩
def ho233 (P : Params) : Obj := fo "live_of" "live_of" (top 23) .none .none .none (.str "stow.marks" 460) none (.ref 238) .none none
def ho234 (P : Params) : Obj := ⟨(.type "tuple"), none, .seq #[] 0, #[]⟩
def ho235 (P : Params) : Obj := ⟨.none, none, .fields #[], #[]⟩
def ho236 (P : Params) : Obj := ⟨(.type "tuple"), none, .seq ((.str "cells" 491) :: (.str "at" 492) :: (.str "long" 493) :: []).toArray 0, #[]⟩
def ho237 (P : Params) : Obj := ⟨(.type "tuple"), none, .seq #[] 0, #[]⟩
def ho238 (P : Params) : Obj := fq "can_begin" "can_begin" (top 26)
def ho239 (P : Params) : Obj := ⟨(.type "code"), none, .fields ((.str "can_begin" 488) :: (.str "can_begin" 489) :: (.str "/claim/cut.py" 490) :: (.int (57) 0) :: (.int (2) 0) :: (.int (0) 0) :: (.int (0) 0) :: (.int (3) 0) :: (.ref 240) :: (.bool true) :: (.int (181) 0) :: (.ref 241) :: .none :: (.ref 242) :: (.ref 243) :: (.ref 244) :: (.int (494) 0) :: (.int (57) 0) :: (.str "/claim/cut.py" 495) :: []).toArray, #[]⟩
def ho240 (P : Params) : Obj := fo "can_begin" "can_begin" (top 26) .none .none .none (.str "stow.looks" 484) none (.ref 245) .none none
def ho241 (P : Params) : Obj := ⟨(.type "tuple"), none, .seq #[] 0, #[]⟩
def ho242 (P : Params) : Obj := ⟨.none, none, .fields #[], #[]⟩
def ho243 (P : Params) : Obj := ⟨(.type "tuple"), none, .seq ((.str "cells" 500) :: (.str "at" 501) :: (.str "last" 502) :: []).toArray 0, #[]⟩
def ho244 (P : Params) : Obj := ⟨(.type "tuple"), none, .seq #[] 0, #[]⟩
def ho245 (P : Params) : Obj := fq "bad_of_piece" "bad_of_piece" (top 27)
def ho246 (P : Params) : Obj := ⟨(.type "code"), none, .fields ((.str "bad_of_piece" 497) :: (.str "bad_of_piece" 498) :: (.str "/claim/cut.py" 499) :: (.int (62) 0) :: (.int (2) 0) :: (.int (0) 0) :: (.int (0) 0) :: (.int (3) 0) :: (.ref 247) :: (.bool true) :: (.int (181) 0) :: (.ref 248) :: .none :: (.ref 249) :: (.ref 250) :: (.ref 251) :: (.int (503) 0) :: (.int (62) 0) :: (.str "/claim/cut.py" 504) :: []).toArray, #[]⟩
def ho247 (P : Params) : Obj := fo "bad_of_piece" "bad_of_piece" (top 27) .none .none .none (.str "stow.looks" 484) none (.ref 252) .none none
def ho248 (P : Params) : Obj := ⟨(.type "tuple"), none, .seq #[] 0, #[]⟩
def ho249 (P : Params) : Obj := ⟨.none, none, .fields #[], #[]⟩
def ho250 (P : Params) : Obj := ⟨(.type "tuple"), none, .seq ((.str "cells" 509) :: (.str "pieces" 510) :: (.str "at" 511) :: (.str "bad" 512) :: (.str "long" 513) :: []).toArray 0, #[]⟩
def ho251 (P : Params) : Obj := ⟨(.type "tuple"), none, .seq #[] 0, #[]⟩
def ho252 (P : Params) : Obj := fq "looked" "looked" (top 28)
def ho253 (P : Params) : Obj := ⟨(.type "code"), none, .fields ((.str "looked" 506) :: (.str "looked" 507) :: (.str "/claim/cut.py" 508) :: (.int (69) 0) :: (.int (1) 0) :: (.int (0) 0) :: (.int (0) 0) :: (.int (3) 0) :: (.ref 254) :: (.bool true) :: (.int (181) 0) :: (.ref 255) :: .none :: (.ref 256) :: (.ref 257) :: (.ref 258) :: (.int (514) 0) :: (.int (69) 0) :: (.str "/claim/cut.py" 515) :: []).toArray, #[]⟩
def ho254 (P : Params) : Obj := fo "looked" "looked" (top 28) .none .none .none (.str "stow.looks" 484) none (.ref 259) .none none
def ho255 (P : Params) : Obj := ⟨(.type "tuple"), none, .seq #[] 0, #[]⟩
def ho256 (P : Params) : Obj := ⟨.none, none, .fields #[], #[]⟩
def ho257 (P : Params) : Obj := ⟨(.type "tuple"), none, .seq ((.str "count" 520) :: (.str "cells" 521) :: []).toArray 0, #[]⟩
def ho258 (P : Params) : Obj := ⟨(.type "tuple"), none, .seq #[] 0, #[]⟩
def ho259 (P : Params) : Obj := fq "fresh_room" "fresh_room" (top 29)
def ho260 (P : Params) : Obj := ⟨(.type "code"), none, .fields ((.str "fresh_room" 517) :: (.str "fresh_room" 518) :: (.str "/claim/cut.py" 519) :: (.int (80) 0) :: (.int (1) 0) :: (.int (0) 0) :: (.int (0) 0) :: (.int (3) 0) :: (.ref 261) :: (.bool true) :: (.int (181) 0) :: (.ref 262) :: .none :: (.ref 263) :: (.ref 264) :: (.ref 265) :: (.int (522) 0) :: (.int (80) 0) :: (.str "/claim/cut.py" 523) :: []).toArray, #[]⟩
def ho261 (P : Params) : Obj := fo "fresh_room" "fresh_room" (top 29) .none .none .none (.str "stow.looks" 484) none (.ref 266) .none none
def ho262 (P : Params) : Obj := ⟨(.type "tuple"), none, .seq #[] 0, #[]⟩
def ho263 (P : Params) : Obj := ⟨.none, none, .fields #[], #[]⟩
def ho264 (P : Params) : Obj := ⟨(.type "tuple"), none, .seq ((.str "cells" 530) :: (.str "at" 531) :: (.str "long" 532) :: (.str "live" 533) :: (.str "row" 534) :: []).toArray 0, #[]⟩
def ho265 (P : Params) : Obj := ⟨(.type "tuple"), none, .seq #[] 0, #[]⟩
def ho266 (P : Params) : Obj := fq "laid" "laid" (top 31)
def ho267 (P : Params) : Obj := ⟨(.type "code"), none, .fields ((.str "laid" 527) :: (.str "laid" 528) :: (.str "/claim/cut.py" 529) :: (.int (88) 0) :: (.int (4) 0) :: (.int (0) 0) :: (.int (0) 0) :: (.int (3) 0) :: (.ref 268) :: (.bool true) :: (.int (181) 0) :: (.ref 269) :: .none :: (.ref 270) :: (.ref 271) :: (.ref 272) :: (.int (535) 0) :: (.int (88) 0) :: (.str "/claim/cut.py" 536) :: []).toArray, #[]⟩
def ho268 (P : Params) : Obj := fo "laid" "laid" (top 31) .none .none .none (.str "stow.pieces" 525) none (.ref 273) .none none
def ho269 (P : Params) : Obj := ⟨(.type "tuple"), none, .seq #[] 0, #[]⟩
def ho270 (P : Params) : Obj := ⟨.none, none, .fields #[], #[]⟩
def ho271 (P : Params) : Obj := ⟨(.type "tuple"), none, .seq ((.str "cells" 541) :: (.str "at" 542) :: (.str "piece" 543) :: []).toArray 0, #[]⟩
def ho272 (P : Params) : Obj := ⟨(.type "tuple"), none, .seq #[] 0, #[]⟩
def ho273 (P : Params) : Obj := fq "piece_at" "piece_at" (top 32)
def ho274 (P : Params) : Obj := ⟨(.type "code"), none, .fields ((.str "piece_at" 538) :: (.str "piece_at" 539) :: (.str "/claim/cut.py" 540) :: (.int (93) 0) :: (.int (2) 0) :: (.int (0) 0) :: (.int (0) 0) :: (.int (3) 0) :: (.ref 275) :: (.bool true) :: (.int (181) 0) :: (.ref 276) :: .none :: (.ref 277) :: (.ref 278) :: (.ref 279) :: (.int (544) 0) :: (.int (93) 0) :: (.str "/claim/cut.py" 545) :: []).toArray, #[]⟩
def ho275 (P : Params) : Obj := fo "piece_at" "piece_at" (top 32) .none .none .none (.str "stow.pieces" 525) none (.ref 280) .none none
def ho276 (P : Params) : Obj := ⟨(.type "dict"), none, .dict (en P "__name__" 165 (.str "law_stow_k33_a_shelf" 822) :: en P "__doc__" 166 .none :: en P "__package__" 167 .none :: en P "__loader__" 168 (.builtin "__main__.__loader__#opaque") :: en P "__spec__" 169 .none :: en P "__annotations__" 170 (.ref 6) :: en P "__builtins__" 171 (.ref 4) :: en P "__file__" 173 (.str "/claim/cut.py" 172) :: en P "__cached__" 174 .none :: en P "_wall" 193 (.ref 21) :: en P "StowError" 213 (.ref 31) :: en P "NoName" 229 (.ref 44) :: en P "NoSize" 245 (.ref 56) :: en P "Broken" 270 (.ref 75) :: en P "NoGive" 286 (.ref 87) :: en P "NoHandle" 302 (.ref 99) :: en P "NoPiece" 318 (.ref 111) :: en P "NoCell" 334 (.ref 123) :: en P "NoAsk" 350 (.ref 135) :: en P "NoBound" 366 (.ref 147) :: en P "NoRoom" 382 (.ref 159) :: en P "BadLine" 407 (.ref 178) :: en P "NoLine" 423 (.ref 190) :: en P "NoTurn" 439 (.ref 202) :: en P "MARKS" 443 (.int (2) 442) :: en P "check_ask" 451 (.ref 211) :: en P "check_plain_ask" 459 (.ref 218) :: en P "mark_of" 469 (.ref 225) :: en P "long_of" 476 (.ref 232) :: en P "live_of" 483 (.ref 239) :: en P "LEAST_LIVE" 487 (.int (3) 486) :: en P "can_begin" 496 (.ref 246) :: en P "bad_of_piece" 505 (.ref 253) :: en P "looked" 516 (.ref 260) :: en P "fresh_room" 524 (.ref 267) :: en P "laid" 537 (.ref 274) :: en P "piece_at" 546 (.ref 281) :: en P "live_at" 555 (.ref 288) :: en P "Keeper" 705 (.ref 398) :: en P "all_whole" 715 (.ref 409) :: en P "begin_of" 723 (.ref 416) :: en P "whole_ones" 729 (.ref 421) :: en P "free_slots" 735 (.ref 426) :: en P "cut_for" 748 (.ref 433) :: en P "with_slot" 758 (.ref 440) :: en P "has_live" 764 (.ref 445) :: en P "Shelves" 821 (.ref 484) :: en P "_law_cell_at" 831 (.ref 493) :: en P "_law_whole" 838 (.ref 500) :: en P "_law_alike" 847 (.ref 507) :: en P "_law_asked" 860 (.ref 514) :: en P "_law_no_room_of" 870 (.ref 521) :: en P "law" 876 (.ref 526) :: []).toArray 53, #[]⟩
def ho277 (P : Params) : Obj := ⟨.none, none, .fields ((.int (1) 0) :: (.int (0) 0) :: (.ref 20) :: (.int (5) 0) :: (.int (0) 0) :: (.ref 27) :: (.int (7) 0) :: (.int (0) 0) :: (.ref 40) :: (.int (9) 0) :: (.int (0) 0) :: (.ref 52) :: (.int (11) 0) :: (.int (0) 0) :: (.ref 64) :: (.int (15) 0) :: (.int (0) 0) :: (.ref 83) :: (.int (17) 0) :: (.int (0) 0) :: (.ref 95) :: (.int (19) 0) :: (.int (0) 0) :: (.ref 107) :: (.int (21) 0) :: (.int (0) 0) :: (.ref 119) :: (.int (23) 0) :: (.int (0) 0) :: (.ref 131) :: (.int (25) 0) :: (.int (0) 0) :: (.ref 143) :: (.int (27) 0) :: (.int (0) 0) :: (.ref 155) :: (.int (29) 0) :: (.int (0) 0) :: (.ref 167) :: (.int (33) 0) :: (.int (0) 0) :: (.ref 186) :: (.int (35) 0) :: (.int (0) 0) :: (.ref 198) :: (.int (39) 0) :: (.int (0) 0) :: (.ref 210) :: (.int (42) 0) :: (.int (0) 0) :: (.ref 217) :: (.int (47) 0) :: (.int (0) 0) :: (.ref 224) :: (.int (51) 0) :: (.int (0) 0) :: (.ref 231) :: (.int (53) 0) :: (.int (0) 0) :: (.ref 238) :: (.int (57) 0) :: (.int (0) 0) :: (.ref 245) :: (.int (62) 0) :: (.int (0) 0) :: (.ref 252) :: (.int (69) 0) :: (.int (0) 0) :: (.ref 259) :: (.int (80) 0) :: (.int (0) 0) :: (.ref 266) :: (.int (88) 0) :: (.int (0) 0) :: (.ref 273) :: (.int (93) 0) :: (.int (0) 0) :: (.ref 280) :: (.int (98) 0) :: (.int (0) 0) :: (.ref 287) :: (.int (104) 0) :: (.int (0) 0) :: (.ref 294) :: (.int (157) 0) :: (.int (0) 0) :: (.ref 408) :: (.int (161) 0) :: (.int (0) 0) :: (.ref 415) :: (.int (163) 0) :: (.int (0) 0) :: (.ref 420) :: (.int (165) 0) :: (.int (0) 0) :: (.ref 425) :: (.int (168) 0) :: (.int (0) 0) :: (.ref 432) :: (.int (174) 0) :: (.int (0) 0) :: (.ref 439) :: (.int (181) 0) :: (.int (0) 0) :: (.ref 444) :: (.int (183) 0) :: (.int (0) 0) :: (.ref 451) :: (.int (209) 0) :: (.int (0) 0) :: (.ref 492) :: (.int (213) 0) :: (.int (0) 0) :: (.ref 499) :: (.int (215) 0) :: (.int (0) 0) :: (.ref 506) :: (.int (224) 0) :: (.int (0) 0) :: (.ref 513) :: (.int (239) 0) :: (.int (0) 0) :: (.ref 520) :: (.int (246) 0) :: (.int (0) 0) :: (.ref 525) :: []).toArray, #[]⟩
def ho278 (P : Params) : Obj := ⟨(.type "tuple"), none, .seq #[] 0, #[]⟩
def ho279 (P : Params) : Obj := ⟨.none, none, .fields #[], #[]⟩
def ho280 (P : Params) : Obj := ⟨(.type "tuple"), none, .seq ((.str "cells" 550) :: (.str "at" 551) :: (.str "piece" 552) :: []).toArray 0, #[]⟩
def ho281 (P : Params) : Obj := ⟨(.type "tuple"), none, .seq #[] 0, #[]⟩
def ho282 (P : Params) : Obj := fq "live_at" "live_at" (top 33)
def ho283 (P : Params) : Obj := ⟨(.type "code"), none, .fields ((.str "live_at" 547) :: (.str "live_at" 548) :: (.str "/claim/cut.py" 549) :: (.int (98) 0) :: (.int (2) 0) :: (.int (0) 0) :: (.int (0) 0) :: (.int (3) 0) :: (.ref 282) :: (.bool true) :: (.int (181) 0) :: (.ref 283) :: .none :: (.ref 284) :: (.ref 285) :: (.ref 286) :: (.int (553) 0) :: (.int (98) 0) :: (.str "/claim/cut.py" 554) :: []).toArray, #[]⟩
def ho284 (P : Params) : Obj := fo "live_at" "live_at" (top 33) .none .none .none (.str "stow.pieces" 525) none (.ref 287) .none none
def ho285 (P : Params) : Obj := ⟨(.type "tuple"), none, .seq #[] 0, #[]⟩
def ho286 (P : Params) : Obj := ⟨(.type "builtin_function_or_method"), none, .fields ((.builtin "type.__prepare__") :: (.type "type") :: []).toArray, #[]⟩
def ho287 (P : Params) : Obj := ⟨(.type "dict"), none, .dict (en P "__module__" 565 (.str "stow.keepers" 556) :: en P "__qualname__" 567 (.str "Keeper" 566) :: en P "__firstlineno__" 569 (.int (104) 568) :: en P "__init__" 577 (.ref 302) :: en P "cells" 584 (.ref 309) :: en P "pieces" 591 (.ref 316) :: en P "lay" 599 (.ref 323) :: en P "clear" 606 (.ref 330) :: en P "many" 617 (.ref 337) :: en P "get" 626 (.ref 344) :: en P "put" 636 (.ref 351) :: en P "ask" 646 (.ref 359) :: en P "give" 657 (.ref 366) :: en P "grow" 668 (.ref 374) :: en P "room_begin" 676 (.ref 381) :: en P "room_cell_of" 686 (.ref 388) :: en P "room_moved" 696 (.ref 395) :: en P "__static_attributes__" 698 (.ref 396) :: []).toArray 18, #[]⟩
def ho288 (P : Params) : Obj := ⟨(.type "tuple"), none, .seq #[] 0, #[]⟩
def ho289 (P : Params) : Obj := ⟨.none, none, .fields ((.int (106) 0) :: (.int (4) 0) :: (.ref 301) :: (.int (109) 0) :: (.int (4) 0) :: (.ref 308) :: (.int (112) 0) :: (.int (4) 0) :: (.ref 315) :: (.int (115) 0) :: (.int (4) 0) :: (.ref 322) :: (.int (121) 0) :: (.int (4) 0) :: (.ref 329) :: (.int (124) 0) :: (.int (4) 0) :: (.ref 336) :: (.int (128) 0) :: (.int (4) 0) :: (.ref 343) :: (.int (131) 0) :: (.int (4) 0) :: (.ref 350) :: (.int (134) 0) :: (.int (4) 0) :: (.ref 358) :: (.int (138) 0) :: (.int (4) 0) :: (.ref 365) :: (.int (142) 0) :: (.int (4) 0) :: (.ref 373) :: (.int (145) 0) :: (.int (4) 0) :: (.ref 380) :: (.int (148) 0) :: (.int (4) 0) :: (.ref 387) :: (.int (154) 0) :: (.int (4) 0) :: (.ref 394) :: []).toArray, #[]⟩
def ho290 (P : Params) : Obj := ⟨(.type "code"), none, .fields ((.str "Keeper" 560) :: (.str "Keeper" 561) :: (.str "/claim/cut.py" 562) :: (.int (104) 0) :: (.int (0) 0) :: (.int (0) 0) :: (.int (0) 0) :: (.int (0) 0) :: (.ref 292) :: (.bool false) :: (.int (181) 0) :: (.ref 293) :: .none :: .none :: .none :: .none :: (.int (563) 0) :: (.int (104) 0) :: (.str "/claim/cut.py" 564) :: []).toArray, #[]⟩
def ho291 (P : Params) : Obj := ⟨(.type "frame"), none, .plain, ((some (.ref 294)) :: (some (.ref 3)) :: (some (.ref 291)) :: none :: (some (.str "stow.keepers" 556)) :: none :: (some (.ref 0)) :: []).toArray⟩
def ho292 (P : Params) : Obj := ⟨(.type "tuple"), none, .seq #[] 0, #[]⟩
def ho293 (P : Params) : Obj := ⟨.none, none, .fields #[], #[]⟩
def ho294 (P : Params) : Obj := ⟨(.type "tuple"), none, .seq ((.str "self" 573) :: (.str "size" 574) :: []).toArray 0, #[]⟩
def ho295 (P : Params) : Obj := ⟨(.type "tuple"), none, .seq #[] 0, #[]⟩
def ho296 (P : Params) : Obj := fq "__init__" "Keeper.__init__" (inClass (top 35) 0)
def ho297 (P : Params) : Obj := ⟨(.type "code"), none, .fields ((.str "__init__" 570) :: (.str "Keeper.__init__" 571) :: (.str "/claim/cut.py" 572) :: (.int (106) 0) :: (.int (2) 0) :: (.int (0) 0) :: (.int (0) 0) :: (.int (3) 0) :: (.ref 296) :: (.bool true) :: (.int (181) 0) :: (.ref 297) :: .none :: (.ref 298) :: (.ref 299) :: (.ref 300) :: (.int (575) 0) :: (.int (106) 0) :: (.str "/claim/cut.py" 576) :: []).toArray, #[]⟩
def ho298 (P : Params) : Obj := fo "__init__" "Keeper.__init__" (inClass (top 35) 0) .none .none .none (.str "stow.keepers" 556) none (.ref 301) .none none
def ho299 (P : Params) : Obj := ⟨(.type "tuple"), none, .seq #[] 0, #[]⟩
def ho300 (P : Params) : Obj := ⟨.none, none, .fields #[], #[]⟩
def ho301 (P : Params) : Obj := ⟨(.type "tuple"), none, .seq ((.str "self" 581) :: []).toArray 0, #[]⟩
def ho302 (P : Params) : Obj := ⟨(.type "tuple"), none, .seq #[] 0, #[]⟩
def ho303 (P : Params) : Obj := fq "cells" "Keeper.cells" (inClass (top 35) 1)
def ho304 (P : Params) : Obj := ⟨(.type "code"), none, .fields ((.str "cells" 578) :: (.str "Keeper.cells" 579) :: (.str "/claim/cut.py" 580) :: (.int (109) 0) :: (.int (1) 0) :: (.int (0) 0) :: (.int (0) 0) :: (.int (3) 0) :: (.ref 303) :: (.bool true) :: (.int (181) 0) :: (.ref 304) :: .none :: (.ref 305) :: (.ref 306) :: (.ref 307) :: (.int (582) 0) :: (.int (109) 0) :: (.str "/claim/cut.py" 583) :: []).toArray, #[]⟩
def ho305 (P : Params) : Obj := fo "cells" "Keeper.cells" (inClass (top 35) 1) .none .none .none (.str "stow.keepers" 556) none (.ref 308) .none none
def ho306 (P : Params) : Obj := ⟨(.type "tuple"), none, .seq #[] 0, #[]⟩
def ho307 (P : Params) : Obj := ⟨.none, none, .fields #[], #[]⟩
def ho308 (P : Params) : Obj := ⟨(.type "tuple"), none, .seq ((.str "self" 588) :: []).toArray 0, #[]⟩
def ho309 (P : Params) : Obj := ⟨(.type "tuple"), none, .seq #[] 0, #[]⟩
def ho310 (P : Params) : Obj := fq "pieces" "Keeper.pieces" (inClass (top 35) 2)
def ho311 (P : Params) : Obj := ⟨(.type "code"), none, .fields ((.str "pieces" 585) :: (.str "Keeper.pieces" 586) :: (.str "/claim/cut.py" 587) :: (.int (112) 0) :: (.int (1) 0) :: (.int (0) 0) :: (.int (0) 0) :: (.int (3) 0) :: (.ref 310) :: (.bool true) :: (.int (181) 0) :: (.ref 311) :: .none :: (.ref 312) :: (.ref 313) :: (.ref 314) :: (.int (589) 0) :: (.int (112) 0) :: (.str "/claim/cut.py" 590) :: []).toArray, #[]⟩
def ho312 (P : Params) : Obj := fo "pieces" "Keeper.pieces" (inClass (top 35) 2) .none .none .none (.str "stow.keepers" 556) none (.ref 315) .none none
def ho313 (P : Params) : Obj := ⟨(.type "tuple"), none, .seq #[] 0, #[]⟩
def ho314 (P : Params) : Obj := ⟨.none, none, .fields #[], #[]⟩
def ho315 (P : Params) : Obj := ⟨(.type "tuple"), none, .seq ((.str "self" 595) :: (.str "cells" 596) :: []).toArray 0, #[]⟩
def ho316 (P : Params) : Obj := ⟨(.type "tuple"), none, .seq #[] 0, #[]⟩
def ho317 (P : Params) : Obj := fq "lay" "Keeper.lay" (inClass (top 35) 3)
def ho318 (P : Params) : Obj := ⟨(.type "code"), none, .fields ((.str "lay" 592) :: (.str "Keeper.lay" 593) :: (.str "/claim/cut.py" 594) :: (.int (115) 0) :: (.int (2) 0) :: (.int (0) 0) :: (.int (0) 0) :: (.int (3) 0) :: (.ref 317) :: (.bool true) :: (.int (181) 0) :: (.ref 318) :: .none :: (.ref 319) :: (.ref 320) :: (.ref 321) :: (.int (597) 0) :: (.int (115) 0) :: (.str "/claim/cut.py" 598) :: []).toArray, #[]⟩
def ho319 (P : Params) : Obj := fo "lay" "Keeper.lay" (inClass (top 35) 3) .none .none .none (.str "stow.keepers" 556) none (.ref 322) .none none
def ho320 (P : Params) : Obj := ⟨(.type "tuple"), none, .seq #[] 0, #[]⟩
def ho321 (P : Params) : Obj := ⟨.none, none, .fields #[], #[]⟩
def ho322 (P : Params) : Obj := ⟨(.type "tuple"), none, .seq ((.str "self" 603) :: []).toArray 0, #[]⟩
def ho323 (P : Params) : Obj := ⟨(.type "tuple"), none, .seq #[] 0, #[]⟩
def ho324 (P : Params) : Obj := fq "clear" "Keeper.clear" (inClass (top 35) 4)
def ho325 (P : Params) : Obj := ⟨(.type "code"), none, .fields ((.str "clear" 600) :: (.str "Keeper.clear" 601) :: (.str "/claim/cut.py" 602) :: (.int (121) 0) :: (.int (1) 0) :: (.int (0) 0) :: (.int (0) 0) :: (.int (3) 0) :: (.ref 324) :: (.bool true) :: (.int (181) 0) :: (.ref 325) :: .none :: (.ref 326) :: (.ref 327) :: (.ref 328) :: (.int (604) 0) :: (.int (121) 0) :: (.str "/claim/cut.py" 605) :: []).toArray, #[]⟩
def ho326 (P : Params) : Obj := fo "clear" "Keeper.clear" (inClass (top 35) 4) .none .none .none (.str "stow.keepers" 556) none (.ref 329) .none none
def ho327 (P : Params) : Obj := ⟨(.type "tuple"), none, .seq #[] 0, #[]⟩
def ho328 (P : Params) : Obj := ⟨.none, none, .fields #[], #[]⟩
def ho329 (P : Params) : Obj := ⟨(.type "tuple"), none, .seq ((.str "self" 610) :: (.str "place" 611) :: (.str "at" 612) :: (.str "long" 613) :: (.str "live" 614) :: []).toArray 0, #[]⟩
def ho330 (P : Params) : Obj := ⟨(.type "tuple"), none, .seq #[] 0, #[]⟩
def ho331 (P : Params) : Obj := fq "many" "Keeper.many" (inClass (top 35) 5)
def ho332 (P : Params) : Obj := ⟨(.type "code"), none, .fields ((.str "many" 607) :: (.str "Keeper.many" 608) :: (.str "/claim/cut.py" 609) :: (.int (124) 0) :: (.int (2) 0) :: (.int (0) 0) :: (.int (0) 0) :: (.int (3) 0) :: (.ref 331) :: (.bool true) :: (.int (181) 0) :: (.ref 332) :: .none :: (.ref 333) :: (.ref 334) :: (.ref 335) :: (.int (615) 0) :: (.int (124) 0) :: (.str "/claim/cut.py" 616) :: []).toArray, #[]⟩
def ho333 (P : Params) : Obj := fo "many" "Keeper.many" (inClass (top 35) 5) .none .none .none (.str "stow.keepers" 556) none (.ref 336) .none none
def ho334 (P : Params) : Obj := ⟨(.type "tuple"), none, .seq #[] 0, #[]⟩
def ho335 (P : Params) : Obj := ⟨.none, none, .fields #[], #[]⟩
def ho336 (P : Params) : Obj := ⟨(.type "tuple"), none, .seq ((.str "self" 621) :: (.str "place" 622) :: (.str "k" 623) :: []).toArray 0, #[]⟩
def ho337 (P : Params) : Obj := ⟨(.type "tuple"), none, .seq #[] 0, #[]⟩
def ho338 (P : Params) : Obj := fq "get" "Keeper.get" (inClass (top 35) 6)
def ho339 (P : Params) : Obj := ⟨(.type "code"), none, .fields ((.str "get" 618) :: (.str "Keeper.get" 619) :: (.str "/claim/cut.py" 620) :: (.int (128) 0) :: (.int (3) 0) :: (.int (0) 0) :: (.int (0) 0) :: (.int (3) 0) :: (.ref 338) :: (.bool true) :: (.int (181) 0) :: (.ref 339) :: .none :: (.ref 340) :: (.ref 341) :: (.ref 342) :: (.int (624) 0) :: (.int (128) 0) :: (.str "/claim/cut.py" 625) :: []).toArray, #[]⟩
def ho340 (P : Params) : Obj := fo "get" "Keeper.get" (inClass (top 35) 6) .none .none .none (.str "stow.keepers" 556) none (.ref 343) .none none
def ho341 (P : Params) : Obj := ⟨(.type "tuple"), none, .seq #[] 0, #[]⟩
def ho342 (P : Params) : Obj := ⟨.none, none, .fields #[], #[]⟩
def ho343 (P : Params) : Obj := ⟨(.type "tuple"), none, .seq ((.str "self" 630) :: (.str "place" 631) :: (.str "k" 632) :: (.str "number" 633) :: []).toArray 0, #[]⟩
def ho344 (P : Params) : Obj := ⟨(.type "tuple"), none, .seq #[] 0, #[]⟩
def ho345 (P : Params) : Obj := fq "put" "Keeper.put" (inClass (top 35) 7)
def ho346 (P : Params) : Obj := ⟨(.type "code"), none, .fields ((.str "put" 627) :: (.str "Keeper.put" 628) :: (.str "/claim/cut.py" 629) :: (.int (131) 0) :: (.int (4) 0) :: (.int (0) 0) :: (.int (0) 0) :: (.int (3) 0) :: (.ref 345) :: (.bool true) :: (.int (181) 0) :: (.ref 346) :: .none :: (.ref 347) :: (.ref 348) :: (.ref 349) :: (.int (634) 0) :: (.int (131) 0) :: (.str "/claim/cut.py" 635) :: []).toArray, #[]⟩
def ho347 (P : Params) : Obj := fo "put" "Keeper.put" (inClass (top 35) 7) .none .none .none (.str "stow.keepers" 556) none (.ref 350) .none none
def ho348 (P : Params) : Obj := ⟨(.type "tuple"), none, .seq ((.int (1) 637) :: []).toArray 0, #[]⟩
def ho349 (P : Params) : Obj := ⟨(.type "tuple"), none, .seq #[] 0, #[]⟩
def ho350 (P : Params) : Obj := ⟨.none, none, .fields #[], #[]⟩
def ho351 (P : Params) : Obj := ⟨(.type "tuple"), none, .seq ((.str "self" 641) :: (.str "count" 642) :: (.str "bound" 643) :: []).toArray 0, #[]⟩
def ho352 (P : Params) : Obj := ⟨(.type "tuple"), none, .seq #[] 0, #[]⟩
def ho353 (P : Params) : Obj := fq "ask" "Keeper.ask" (inClass (top 35) 8)
def ho354 (P : Params) : Obj := ⟨(.type "code"), none, .fields ((.str "ask" 638) :: (.str "Keeper.ask" 639) :: (.str "/claim/cut.py" 640) :: (.int (134) 0) :: (.int (3) 0) :: (.int (0) 0) :: (.int (0) 0) :: (.int (3) 0) :: (.ref 353) :: (.bool true) :: (.int (181) 0) :: (.ref 354) :: .none :: (.ref 355) :: (.ref 356) :: (.ref 357) :: (.int (644) 0) :: (.int (134) 0) :: (.str "/claim/cut.py" 645) :: []).toArray, #[]⟩
def ho355 (P : Params) : Obj := fo "ask" "Keeper.ask" (inClass (top 35) 8) (.ref 352) .none .none (.str "stow.keepers" 556) none (.ref 358) .none none
def ho356 (P : Params) : Obj := ⟨(.type "tuple"), none, .seq #[] 0, #[]⟩
def ho357 (P : Params) : Obj := ⟨.none, none, .fields #[], #[]⟩
def ho358 (P : Params) : Obj := ⟨(.type "tuple"), none, .seq ((.str "self" 650) :: (.str "place" 651) :: (.str "at" 652) :: (.str "long" 653) :: (.str "live" 654) :: []).toArray 0, #[]⟩
def ho359 (P : Params) : Obj := ⟨(.type "tuple"), none, .seq #[] 0, #[]⟩
def ho360 (P : Params) : Obj := fq "give" "Keeper.give" (inClass (top 35) 9)
def ho361 (P : Params) : Obj := ⟨(.type "code"), none, .fields ((.str "give" 647) :: (.str "Keeper.give" 648) :: (.str "/claim/cut.py" 649) :: (.int (138) 0) :: (.int (2) 0) :: (.int (0) 0) :: (.int (0) 0) :: (.int (3) 0) :: (.ref 360) :: (.bool true) :: (.int (181) 0) :: (.ref 361) :: .none :: (.ref 362) :: (.ref 363) :: (.ref 364) :: (.int (655) 0) :: (.int (138) 0) :: (.str "/claim/cut.py" 656) :: []).toArray, #[]⟩
def ho362 (P : Params) : Obj := fo "give" "Keeper.give" (inClass (top 35) 9) .none .none .none (.str "stow.keepers" 556) none (.ref 365) .none none
def ho363 (P : Params) : Obj := ⟨(.type "tuple"), none, .seq ((.int (1) 658) :: []).toArray 0, #[]⟩
def ho364 (P : Params) : Obj := ⟨(.type "tuple"), none, .seq #[] 0, #[]⟩
def ho365 (P : Params) : Obj := ⟨.none, none, .fields #[], #[]⟩
def ho366 (P : Params) : Obj := ⟨(.type "tuple"), none, .seq ((.str "self" 662) :: (.str "place" 663) :: (.str "count" 664) :: (.str "bound" 665) :: []).toArray 0, #[]⟩
def ho367 (P : Params) : Obj := ⟨(.type "tuple"), none, .seq #[] 0, #[]⟩
def ho368 (P : Params) : Obj := fq "grow" "Keeper.grow" (inClass (top 35) 10)
def ho369 (P : Params) : Obj := ⟨(.type "code"), none, .fields ((.str "grow" 659) :: (.str "Keeper.grow" 660) :: (.str "/claim/cut.py" 661) :: (.int (142) 0) :: (.int (4) 0) :: (.int (0) 0) :: (.int (0) 0) :: (.int (3) 0) :: (.ref 368) :: (.bool true) :: (.int (181) 0) :: (.ref 369) :: .none :: (.ref 370) :: (.ref 371) :: (.ref 372) :: (.int (666) 0) :: (.int (142) 0) :: (.str "/claim/cut.py" 667) :: []).toArray, #[]⟩
def ho370 (P : Params) : Obj := fo "grow" "Keeper.grow" (inClass (top 35) 10) (.ref 367) .none .none (.str "stow.keepers" 556) none (.ref 373) .none none
def ho371 (P : Params) : Obj := ⟨(.type "tuple"), none, .seq #[] 0, #[]⟩
def ho372 (P : Params) : Obj := ⟨.none, none, .fields #[], #[]⟩
def ho373 (P : Params) : Obj := ⟨(.type "tuple"), none, .seq ((.str "self" 672) :: (.str "cells" 673) :: []).toArray 0, #[]⟩
def ho374 (P : Params) : Obj := ⟨(.type "tuple"), none, .seq #[] 0, #[]⟩
def ho375 (P : Params) : Obj := fq "room_begin" "Keeper.room_begin" (inClass (top 35) 11)
def ho376 (P : Params) : Obj := ⟨(.type "code"), none, .fields ((.str "room_begin" 669) :: (.str "Keeper.room_begin" 670) :: (.str "/claim/cut.py" 671) :: (.int (145) 0) :: (.int (2) 0) :: (.int (0) 0) :: (.int (0) 0) :: (.int (3) 0) :: (.ref 375) :: (.bool true) :: (.int (181) 0) :: (.ref 376) :: .none :: (.ref 377) :: (.ref 378) :: (.ref 379) :: (.int (674) 0) :: (.int (145) 0) :: (.str "/claim/cut.py" 675) :: []).toArray, #[]⟩
def ho377 (P : Params) : Obj := fo "room_begin" "Keeper.room_begin" (inClass (top 35) 11) .none .none .none (.str "stow.keepers" 556) none (.ref 380) .none none
def ho378 (P : Params) : Obj := ⟨(.type "tuple"), none, .seq #[] 0, #[]⟩
def ho379 (P : Params) : Obj := ⟨.none, none, .fields #[], #[]⟩
def ho380 (P : Params) : Obj := ⟨(.type "tuple"), none, .seq ((.str "self" 680) :: (.str "place" 681) :: (.str "k" 682) :: (.str "many" 683) :: []).toArray 0, #[]⟩
def ho381 (P : Params) : Obj := ⟨(.type "tuple"), none, .seq #[] 0, #[]⟩
def ho382 (P : Params) : Obj := fq "room_cell_of" "Keeper.room_cell_of" (inClass (top 35) 12)
def ho383 (P : Params) : Obj := ⟨(.type "code"), none, .fields ((.str "room_cell_of" 677) :: (.str "Keeper.room_cell_of" 678) :: (.str "/claim/cut.py" 679) :: (.int (148) 0) :: (.int (3) 0) :: (.int (0) 0) :: (.int (0) 0) :: (.int (3) 0) :: (.ref 382) :: (.bool true) :: (.int (181) 0) :: (.ref 383) :: .none :: (.ref 384) :: (.ref 385) :: (.ref 386) :: (.int (684) 0) :: (.int (148) 0) :: (.str "/claim/cut.py" 685) :: []).toArray, #[]⟩
def ho384 (P : Params) : Obj := fo "room_cell_of" "Keeper.room_cell_of" (inClass (top 35) 12) .none .none .none (.str "stow.keepers" 556) none (.ref 387) .none none
def ho385 (P : Params) : Obj := ⟨(.type "tuple"), none, .seq #[] 0, #[]⟩
def ho386 (P : Params) : Obj := ⟨.none, none, .fields #[], #[]⟩
def ho387 (P : Params) : Obj := ⟨(.type "tuple"), none, .seq ((.str "self" 690) :: (.str "place" 691) :: (.str "count" 692) :: (.str "bound" 693) :: []).toArray 0, #[]⟩
def ho388 (P : Params) : Obj := ⟨(.type "tuple"), none, .seq #[] 0, #[]⟩
def ho389 (P : Params) : Obj := fq "room_moved" "Keeper.room_moved" (inClass (top 35) 13)
def ho390 (P : Params) : Obj := ⟨(.type "code"), none, .fields ((.str "room_moved" 687) :: (.str "Keeper.room_moved" 688) :: (.str "/claim/cut.py" 689) :: (.int (154) 0) :: (.int (4) 0) :: (.int (0) 0) :: (.int (0) 0) :: (.int (3) 0) :: (.ref 389) :: (.bool true) :: (.int (181) 0) :: (.ref 390) :: .none :: (.ref 391) :: (.ref 392) :: (.ref 393) :: (.int (694) 0) :: (.int (154) 0) :: (.str "/claim/cut.py" 695) :: []).toArray, #[]⟩
def ho391 (P : Params) : Obj := fo "room_moved" "Keeper.room_moved" (inClass (top 35) 13) .none .none .none (.str "stow.keepers" 556) none (.ref 394) .none none
def ho392 (P : Params) : Obj := ⟨(.type "tuple"), none, .seq ((.str "room_cells" 697) :: []).toArray 0, #[]⟩
def ho393 (P : Params) : Obj := ⟨(.type "dict"), none, .dict (en P "__module__" 565 (.str "stow.keepers" 556) :: en P "__firstlineno__" 569 (.int (104) 568) :: en P "__init__" 577 (.ref 302) :: en P "cells" 584 (.ref 309) :: en P "pieces" 591 (.ref 316) :: en P "lay" 599 (.ref 323) :: en P "clear" 606 (.ref 330) :: en P "many" 617 (.ref 337) :: en P "get" 626 (.ref 344) :: en P "put" 636 (.ref 351) :: en P "ask" 646 (.ref 359) :: en P "give" 657 (.ref 366) :: en P "grow" 668 (.ref 374) :: en P "room_begin" 676 (.ref 381) :: en P "room_cell_of" 686 (.ref 388) :: en P "room_moved" 696 (.ref 395) :: en P "__static_attributes__" 698 (.ref 396) :: en P "__dict__" 700 (.ref 399) :: en P "__weakref__" 702 (.ref 400) :: en P "__doc__" 703 .none :: []).toArray 4, #[]⟩
def ho394 (P : Params) : Obj := ⟨(.type "type"), none, .cls ⟨"Keeper", [(.type "object")], [(.ref 398), (.type "object")], 397, "Keeper", true, [], [(.ref 484)], false, none, false⟩, (none :: none :: (some (.str "Keeper" 558)) :: (some (.str "Keeper" 566)) :: (some (.builtin "object.__new__")) :: (some (.bool true)) :: []).toArray⟩
def ho395 (P : Params) : Obj := ⟨(.type "getset_descriptor"), none, .fields ((.str "__dict__" 699) :: (.ref 398) :: (.builtin "function.__dict__") :: (.builtin "function.__dict__#set") :: []).toArray, #[]⟩
def ho396 (P : Params) : Obj := ⟨(.type "getset_descriptor"), none, .fields ((.str "__weakref__" 701) :: (.ref 398) :: (.builtin "ExceptionGroup.__weakref__") :: .none :: []).toArray, #[]⟩
def ho397 (P : Params) : Obj := ⟨(.type "super"), none, .fields ((.ref 398) :: (.ref 398) :: (.ref 398) :: []).toArray, #[]⟩
def ho398 (P : Params) : Obj := ⟨(.type "builtin_function_or_method"), none, .fields ((.builtin "object.__init_subclass__") :: (.ref 398) :: []).toArray, #[]⟩
def ho399 (P : Params) : Obj := ⟨(.type "tuple"), none, .seq #[] 0, #[]⟩
def ho400 (P : Params) : Obj := ⟨.none, none, .fields #[], #[]⟩
def ho401 (P : Params) : Obj := ⟨(.type "tuple"), none, .seq ((.str "size" 711) :: (.str "shelf" 712) :: []).toArray 0, #[]⟩
def ho402 (P : Params) : Obj := ⟨(.type "tuple"), none, .seq #[] 0, #[]⟩
def ho403 (P : Params) : Obj := fq "all_whole" "all_whole" (top 37)
def ho404 (P : Params) : Obj := ⟨(.type "code"), none, .fields ((.str "all_whole" 708) :: (.str "all_whole" 709) :: (.str "/claim/cut.py" 710) :: (.int (157) 0) :: (.int (2) 0) :: (.int (0) 0) :: (.int (0) 0) :: (.int (3) 0) :: (.ref 403) :: (.bool true) :: (.int (181) 0) :: (.ref 404) :: .none :: (.ref 405) :: (.ref 406) :: (.ref 407) :: (.int (713) 0) :: (.int (157) 0) :: (.str "/claim/cut.py" 714) :: []).toArray, #[]⟩
def ho405 (P : Params) : Obj := fo "all_whole" "all_whole" (top 37) .none .none .none (.str "stow.shelves" 706) none (.ref 408) .none none
def ho406 (P : Params) : Obj := ⟨(.type "tuple"), none, .seq #[] 0, #[]⟩
def ho407 (P : Params) : Obj := ⟨.none, none, .fields #[], #[]⟩
def ho408 (P : Params) : Obj := ⟨(.type "tuple"), none, .seq ((.str "at" 719) :: (.str "shelf" 720) :: []).toArray 0, #[]⟩
def ho409 (P : Params) : Obj := ⟨(.type "tuple"), none, .seq #[] 0, #[]⟩
def ho410 (P : Params) : Obj := fq "begin_of" "begin_of" (top 38)
def ho411 (P : Params) : Obj := ⟨(.type "code"), none, .fields ((.str "begin_of" 716) :: (.str "begin_of" 717) :: (.str "/claim/cut.py" 718) :: (.int (161) 0) :: (.int (2) 0) :: (.int (0) 0) :: (.int (0) 0) :: (.int (3) 0) :: (.ref 410) :: (.bool true) :: (.int (181) 0) :: (.ref 411) :: .none :: (.ref 412) :: (.ref 413) :: (.ref 414) :: (.int (721) 0) :: (.int (161) 0) :: (.str "/claim/cut.py" 722) :: []).toArray, #[]⟩
def ho412 (P : Params) : Obj := fo "begin_of" "begin_of" (top 38) .none .none .none (.str "stow.shelves" 706) none (.ref 415) .none none
def ho413 (P : Params) : Obj := ⟨(.type "tuple"), none, .seq #[] 0, #[]⟩
def ho414 (P : Params) : Obj := ⟨.none, none, .fields #[], #[]⟩
def ho415 (P : Params) : Obj := fq "whole_ones" "whole_ones" (top 39)
def ho416 (P : Params) : Obj := ⟨(.type "code"), none, .fields ((.str "whole_ones" 724) :: (.str "whole_ones" 725) :: (.str "/claim/cut.py" 726) :: (.int (163) 0) :: (.int (2) 0) :: (.int (0) 0) :: (.int (0) 0) :: (.int (3) 0) :: (.ref 417) :: (.bool true) :: (.int (181) 0) :: (.ref 418) :: .none :: .none :: .none :: (.ref 419) :: (.int (727) 0) :: (.int (163) 0) :: (.str "/claim/cut.py" 728) :: []).toArray, #[]⟩
def ho417 (P : Params) : Obj := fo "whole_ones" "whole_ones" (top 39) .none .none .none (.str "stow.shelves" 706) none (.ref 420) .none none
def ho418 (P : Params) : Obj := ⟨(.type "tuple"), none, .seq #[] 0, #[]⟩
def ho419 (P : Params) : Obj := ⟨.none, none, .fields #[], #[]⟩
def ho420 (P : Params) : Obj := fq "free_slots" "free_slots" (top 40)
def ho421 (P : Params) : Obj := ⟨(.type "code"), none, .fields ((.str "free_slots" 730) :: (.str "free_slots" 731) :: (.str "/claim/cut.py" 732) :: (.int (165) 0) :: (.int (3) 0) :: (.int (0) 0) :: (.int (0) 0) :: (.int (3) 0) :: (.ref 422) :: (.bool true) :: (.int (181) 0) :: (.ref 423) :: .none :: .none :: .none :: (.ref 424) :: (.int (733) 0) :: (.int (165) 0) :: (.str "/claim/cut.py" 734) :: []).toArray, #[]⟩
def ho422 (P : Params) : Obj := fo "free_slots" "free_slots" (top 40) .none .none .none (.str "stow.shelves" 706) none (.ref 425) .none none
def ho423 (P : Params) : Obj := ⟨(.type "tuple"), none, .seq #[] 0, #[]⟩
def ho424 (P : Params) : Obj := ⟨.none, none, .fields #[], #[]⟩
def ho425 (P : Params) : Obj := ⟨(.type "tuple"), none, .seq ((.str "cells" 739) :: (.str "begin" 740) :: (.str "shelf" 741) :: (.str "size" 742) :: (.str "row" 743) :: (.str "end" 744) :: (.str "at" 745) :: []).toArray 0, #[]⟩
def ho426 (P : Params) : Obj := ⟨(.type "tuple"), none, .seq #[] 0, #[]⟩
def ho427 (P : Params) : Obj := fq "cut_for" "cut_for" (top 41)
def ho428 (P : Params) : Obj := ⟨(.type "code"), none, .fields ((.str "cut_for" 736) :: (.str "cut_for" 737) :: (.str "/claim/cut.py" 738) :: (.int (168) 0) :: (.int (4) 0) :: (.int (0) 0) :: (.int (0) 0) :: (.int (3) 0) :: (.ref 427) :: (.bool true) :: (.int (181) 0) :: (.ref 428) :: .none :: (.ref 429) :: (.ref 430) :: (.ref 431) :: (.int (746) 0) :: (.int (168) 0) :: (.str "/claim/cut.py" 747) :: []).toArray, #[]⟩
def ho429 (P : Params) : Obj := fo "cut_for" "cut_for" (top 41) .none .none .none (.str "stow.shelves" 706) none (.ref 432) .none none
def ho430 (P : Params) : Obj := ⟨(.type "tuple"), none, .seq #[] 0, #[]⟩
def ho431 (P : Params) : Obj := ⟨.none, none, .fields #[], #[]⟩
def ho432 (P : Params) : Obj := ⟨(.type "tuple"), none, .seq ((.str "cells" 752) :: (.str "shelf" 753) :: (.str "size" 754) :: (.str "begins" 755) :: []).toArray 0, #[]⟩
def ho433 (P : Params) : Obj := ⟨(.type "tuple"), none, .seq #[] 0, #[]⟩
def ho434 (P : Params) : Obj := fq "with_slot" "with_slot" (top 42)
def ho435 (P : Params) : Obj := ⟨(.type "code"), none, .fields ((.str "with_slot" 749) :: (.str "with_slot" 750) :: (.str "/claim/cut.py" 751) :: (.int (174) 0) :: (.int (3) 0) :: (.int (0) 0) :: (.int (0) 0) :: (.int (3) 0) :: (.ref 434) :: (.bool true) :: (.int (181) 0) :: (.ref 435) :: .none :: (.ref 436) :: (.ref 437) :: (.ref 438) :: (.int (756) 0) :: (.int (174) 0) :: (.str "/claim/cut.py" 757) :: []).toArray, #[]⟩
def ho436 (P : Params) : Obj := fo "with_slot" "with_slot" (top 42) .none .none .none (.str "stow.shelves" 706) none (.ref 439) .none none
def ho437 (P : Params) : Obj := ⟨(.type "tuple"), none, .seq #[] 0, #[]⟩
def ho438 (P : Params) : Obj := ⟨.none, none, .fields #[], #[]⟩
def ho439 (P : Params) : Obj := fq "has_live" "has_live" (top 43)
def ho440 (P : Params) : Obj := ⟨(.type "code"), none, .fields ((.str "has_live" 759) :: (.str "has_live" 760) :: (.str "/claim/cut.py" 761) :: (.int (181) 0) :: (.int (3) 0) :: (.int (0) 0) :: (.int (0) 0) :: (.int (3) 0) :: (.ref 441) :: (.bool true) :: (.int (181) 0) :: (.ref 442) :: .none :: .none :: .none :: (.ref 443) :: (.int (762) 0) :: (.int (181) 0) :: (.str "/claim/cut.py" 763) :: []).toArray, #[]⟩
def ho441 (P : Params) : Obj := fo "has_live" "has_live" (top 43) .none .none .none (.str "stow.shelves" 706) none (.ref 444) .none none
def ho442 (P : Params) : Obj := ⟨(.type "tuple"), none, .seq ((.ref 398) :: []).toArray 0, #[]⟩
def ho443 (P : Params) : Obj := ⟨(.type "builtin_function_or_method"), none, .fields ((.builtin "type.__prepare__") :: (.type "type") :: []).toArray, #[]⟩
def ho444 (P : Params) : Obj := ⟨(.type "dict"), none, .dict (en P "__module__" 772 (.str "stow.shelves" 706) :: en P "__qualname__" 774 (.str "Shelves" 773) :: en P "__firstlineno__" 776 (.int (183) 775) :: en P "__init__" 786 (.ref 459) :: en P "clear" 793 (.ref 466) :: en P "ask" 806 (.ref 474) :: en P "give" 816 (.ref 481) :: en P "__static_attributes__" 818 (.ref 482) :: []).toArray 8, #[]⟩
def ho445 (P : Params) : Obj := ⟨(.type "tuple"), none, .seq #[] 0, #[]⟩
def ho446 (P : Params) : Obj := ⟨.none, none, .fields ((.int (185) 0) :: (.int (4) 0) :: (.ref 458) :: (.int (191) 0) :: (.int (4) 0) :: (.ref 465) :: (.int (194) 0) :: (.int (4) 0) :: (.ref 473) :: (.int (202) 0) :: (.int (4) 0) :: (.ref 480) :: []).toArray, #[]⟩
def ho447 (P : Params) : Obj := ⟨(.type "code"), none, .fields ((.str "Shelves" 767) :: (.str "Shelves" 768) :: (.str "/claim/cut.py" 769) :: (.int (183) 0) :: (.int (0) 0) :: (.int (0) 0) :: (.int (0) 0) :: (.int (0) 0) :: (.ref 449) :: (.bool false) :: (.int (181) 0) :: (.ref 450) :: .none :: .none :: .none :: .none :: (.int (770) 0) :: (.int (183) 0) :: (.str "/claim/cut.py" 771) :: []).toArray, #[]⟩
def ho448 (P : Params) : Obj := ⟨(.type "frame"), none, .plain, ((some (.ref 451)) :: (some (.ref 3)) :: (some (.ref 448)) :: none :: (some (.str "stow.shelves" 706)) :: none :: (some (.ref 0)) :: []).toArray⟩
def ho449 (P : Params) : Obj := ⟨(.type "tuple"), none, .seq #[] 0, #[]⟩
def ho450 (P : Params) : Obj := ⟨.none, none, .fields #[], #[]⟩
def ho451 (P : Params) : Obj := ⟨(.type "tuple"), none, .seq ((.str "self" 780) :: (.str "size" 781) :: (.str "shelf" 782) :: (.str "cells" 783) :: []).toArray 0, #[]⟩
def ho452 (P : Params) : Obj := ⟨(.type "tuple"), none, .seq #[] 0, #[]⟩
def ho453 (P : Params) : Obj := fq "__init__" "Shelves.__init__" (inClass (top 44) 0)
def ho454 (P : Params) : Obj := ⟨(.type "code"), none, .fields ((.str "__init__" 777) :: (.str "Shelves.__init__" 778) :: (.str "/claim/cut.py" 779) :: (.int (185) 0) :: (.int (3) 0) :: (.int (0) 0) :: (.int (0) 0) :: (.int (3) 0) :: (.ref 453) :: (.bool true) :: (.int (181) 0) :: (.ref 454) :: .none :: (.ref 455) :: (.ref 456) :: (.ref 457) :: (.int (784) 0) :: (.int (185) 0) :: (.str "/claim/cut.py" 785) :: []).toArray, #[]⟩
def ho455 (P : Params) : Obj := fo "__init__" "Shelves.__init__" (inClass (top 44) 0) .none .none .none (.str "stow.shelves" 706) none (.ref 458) .none none
def ho456 (P : Params) : Obj := ⟨(.type "tuple"), none, .seq #[] 0, #[]⟩
def ho457 (P : Params) : Obj := ⟨.none, none, .fields #[], #[]⟩
def ho458 (P : Params) : Obj := ⟨(.type "tuple"), none, .seq ((.str "self" 790) :: []).toArray 0, #[]⟩
def ho459 (P : Params) : Obj := ⟨(.type "tuple"), none, .seq #[] 0, #[]⟩
def ho460 (P : Params) : Obj := fq "clear" "Shelves.clear" (inClass (top 44) 1)
def ho461 (P : Params) : Obj := ⟨(.type "code"), none, .fields ((.str "clear" 787) :: (.str "Shelves.clear" 788) :: (.str "/claim/cut.py" 789) :: (.int (191) 0) :: (.int (1) 0) :: (.int (0) 0) :: (.int (0) 0) :: (.int (3) 0) :: (.ref 460) :: (.bool true) :: (.int (181) 0) :: (.ref 461) :: .none :: (.ref 462) :: (.ref 463) :: (.ref 464) :: (.int (791) 0) :: (.int (191) 0) :: (.str "/claim/cut.py" 792) :: []).toArray, #[]⟩
def ho462 (P : Params) : Obj := fo "clear" "Shelves.clear" (inClass (top 44) 1) .none .none .none (.str "stow.shelves" 706) none (.ref 465) .none none
def ho463 (P : Params) : Obj := ⟨(.type "tuple"), none, .seq ((.int (1) 794) :: []).toArray 0, #[]⟩
def ho464 (P : Params) : Obj := ⟨(.type "tuple"), none, .seq #[] 0, #[]⟩
def ho465 (P : Params) : Obj := ⟨.none, none, .fields #[], #[]⟩
def ho466 (P : Params) : Obj := ⟨(.type "tuple"), none, .seq ((.str "self" 798) :: (.str "count" 799) :: (.str "bound" 800) :: (.str "size" 801) :: (.str "cells" 802) :: (.str "at" 803) :: []).toArray 0, #[]⟩
def ho467 (P : Params) : Obj := ⟨(.type "tuple"), none, .seq #[] 0, #[]⟩
def ho468 (P : Params) : Obj := fq "ask" "Shelves.ask" (inClass (top 44) 2)
def ho469 (P : Params) : Obj := ⟨(.type "code"), none, .fields ((.str "ask" 795) :: (.str "Shelves.ask" 796) :: (.str "/claim/cut.py" 797) :: (.int (194) 0) :: (.int (3) 0) :: (.int (0) 0) :: (.int (0) 0) :: (.int (3) 0) :: (.ref 468) :: (.bool true) :: (.int (181) 0) :: (.ref 469) :: .none :: (.ref 470) :: (.ref 471) :: (.ref 472) :: (.int (804) 0) :: (.int (194) 0) :: (.str "/claim/cut.py" 805) :: []).toArray, #[]⟩
def ho470 (P : Params) : Obj := fo "ask" "Shelves.ask" (inClass (top 44) 2) (.ref 467) .none .none (.str "stow.shelves" 706) none (.ref 473) .none none
def ho471 (P : Params) : Obj := ⟨(.type "tuple"), none, .seq #[] 0, #[]⟩
def ho472 (P : Params) : Obj := ⟨.none, none, .fields #[], #[]⟩
def ho473 (P : Params) : Obj := ⟨(.type "tuple"), none, .seq ((.str "self" 810) :: (.str "place" 811) :: (.str "cells" 812) :: (.str "begin" 813) :: []).toArray 0, #[]⟩
def ho474 (P : Params) : Obj := ⟨(.type "tuple"), none, .seq #[] 0, #[]⟩
def ho475 (P : Params) : Obj := fq "give" "Shelves.give" (inClass (top 44) 3)
def ho476 (P : Params) : Obj := ⟨(.type "code"), none, .fields ((.str "give" 807) :: (.str "Shelves.give" 808) :: (.str "/claim/cut.py" 809) :: (.int (202) 0) :: (.int (2) 0) :: (.int (0) 0) :: (.int (0) 0) :: (.int (3) 0) :: (.ref 475) :: (.bool true) :: (.int (181) 0) :: (.ref 476) :: .none :: (.ref 477) :: (.ref 478) :: (.ref 479) :: (.int (814) 0) :: (.int (202) 0) :: (.str "/claim/cut.py" 815) :: []).toArray, #[]⟩
def ho477 (P : Params) : Obj := fo "give" "Shelves.give" (inClass (top 44) 3) .none .none .none (.str "stow.shelves" 706) none (.ref 480) .none none
def ho478 (P : Params) : Obj := ⟨(.type "tuple"), none, .seq ((.str "shelf" 817) :: []).toArray 0, #[]⟩
def ho479 (P : Params) : Obj := ⟨(.type "dict"), none, .dict (en P "__module__" 772 (.str "stow.shelves" 706) :: en P "__firstlineno__" 776 (.int (183) 775) :: en P "__init__" 786 (.ref 459) :: en P "clear" 793 (.ref 466) :: en P "ask" 806 (.ref 474) :: en P "give" 816 (.ref 481) :: en P "__static_attributes__" 818 (.ref 482) :: en P "__doc__" 819 .none :: []).toArray 2, #[]⟩
def ho480 (P : Params) : Obj := ⟨(.type "type"), none, .cls ⟨"Shelves", [(.ref 398)], [(.ref 484), (.ref 398), (.type "object")], 483, "Shelves", true, [], [], false, none, false⟩, ((some (.ref 446)) :: none :: (some (.str "Shelves" 765)) :: (some (.str "Shelves" 773)) :: (some (.builtin "object.__new__")) :: (some (.bool true)) :: []).toArray⟩
def ho481 (P : Params) : Obj := ⟨(.type "super"), none, .fields ((.ref 484) :: (.ref 484) :: (.ref 484) :: []).toArray, #[]⟩
def ho482 (P : Params) : Obj := ⟨(.type "builtin_function_or_method"), none, .fields ((.builtin "object.__init_subclass__") :: (.ref 484) :: []).toArray, #[]⟩
def ho483 (P : Params) : Obj := ⟨(.type "tuple"), none, .seq #[] 0, #[]⟩
def ho484 (P : Params) : Obj := ⟨.none, none, .fields #[], #[]⟩
def ho485 (P : Params) : Obj := ⟨(.type "tuple"), none, .seq ((.str "_law_script" 827) :: (.str "_law_k" 828) :: []).toArray 0, #[]⟩
def ho486 (P : Params) : Obj := ⟨(.type "tuple"), none, .seq #[] 0, #[]⟩
def ho487 (P : Params) : Obj := fq "_law_cell_at" "_law_cell_at" (top 46)
def ho488 (P : Params) : Obj := ⟨(.type "code"), none, .fields ((.str "_law_cell_at" 824) :: (.str "_law_cell_at" 825) :: (.str "/claim/cut.py" 826) :: (.int (209) 0) :: (.int (2) 0) :: (.int (0) 0) :: (.int (0) 0) :: (.int (3) 0) :: (.ref 487) :: (.bool true) :: (.int (181) 0) :: (.ref 488) :: .none :: (.ref 489) :: (.ref 490) :: (.ref 491) :: (.int (829) 0) :: (.int (209) 0) :: (.str "/claim/cut.py" 830) :: []).toArray, #[]⟩
def ho489 (P : Params) : Obj := fo "_law_cell_at" "_law_cell_at" (top 46) .none .none .none (.str "law_stow_k33_a_shelf" 822) none (.ref 492) .none none
def ho490 (P : Params) : Obj := ⟨(.type "tuple"), none, .seq #[] 0, #[]⟩
def ho491 (P : Params) : Obj := ⟨.none, none, .fields #[], #[]⟩
def ho492 (P : Params) : Obj := ⟨(.type "tuple"), none, .seq ((.str "_law_found" 835) :: []).toArray 0, #[]⟩
def ho493 (P : Params) : Obj := ⟨(.type "tuple"), none, .seq #[] 0, #[]⟩
def ho494 (P : Params) : Obj := fq "_law_whole" "_law_whole" (top 47)
def ho495 (P : Params) : Obj := ⟨(.type "code"), none, .fields ((.str "_law_whole" 832) :: (.str "_law_whole" 833) :: (.str "/claim/cut.py" 834) :: (.int (213) 0) :: (.int (1) 0) :: (.int (0) 0) :: (.int (0) 0) :: (.int (3) 0) :: (.ref 494) :: (.bool true) :: (.int (181) 0) :: (.ref 495) :: .none :: (.ref 496) :: (.ref 497) :: (.ref 498) :: (.int (836) 0) :: (.int (213) 0) :: (.str "/claim/cut.py" 837) :: []).toArray, #[]⟩
def ho496 (P : Params) : Obj := fo "_law_whole" "_law_whole" (top 47) .none .none .none (.str "law_stow_k33_a_shelf" 822) none (.ref 499) .none none
def ho497 (P : Params) : Obj := ⟨(.type "tuple"), none, .seq #[] 0, #[]⟩
def ho498 (P : Params) : Obj := ⟨.none, none, .fields #[], #[]⟩
def ho499 (P : Params) : Obj := ⟨(.type "tuple"), none, .seq ((.str "_law_found" 842) :: (.str "_law_due" 843) :: (.str "_law_piece" 844) :: []).toArray 0, #[]⟩
def ho500 (P : Params) : Obj := ⟨(.type "tuple"), none, .seq #[] 0, #[]⟩
def ho501 (P : Params) : Obj := fq "_law_alike" "_law_alike" (top 48)
def ho502 (P : Params) : Obj := ⟨(.type "code"), none, .fields ((.str "_law_alike" 839) :: (.str "_law_alike" 840) :: (.str "/claim/cut.py" 841) :: (.int (215) 0) :: (.int (2) 0) :: (.int (0) 0) :: (.int (0) 0) :: (.int (3) 0) :: (.ref 501) :: (.bool true) :: (.int (181) 0) :: (.ref 502) :: .none :: (.ref 503) :: (.ref 504) :: (.ref 505) :: (.int (845) 0) :: (.int (215) 0) :: (.str "/claim/cut.py" 846) :: []).toArray, #[]⟩
def ho503 (P : Params) : Obj := fo "_law_alike" "_law_alike" (top 48) .none .none .none (.str "law_stow_k33_a_shelf" 822) none (.ref 506) .none none
def ho504 (P : Params) : Obj := ⟨(.type "tuple"), none, .seq #[] 0, #[]⟩
def ho505 (P : Params) : Obj := ⟨.none, none, .fields #[], #[]⟩
def ho506 (P : Params) : Obj := ⟨(.type "tuple"), none, .seq ((.str "_law_keeper" 851) :: (.str "_law_count" 852) :: (.str "_law_bare" 853) :: (.str "_law_place" 854) :: (.str "_law_flags" 855) :: (.str "e" 856) :: (.str "_law_others" 857) :: []).toArray 0, #[]⟩
def ho507 (P : Params) : Obj := ⟨(.type "tuple"), none, .seq #[] 0, #[]⟩
def ho508 (P : Params) : Obj := fq "_law_asked" "_law_asked" (top 49)
def ho509 (P : Params) : Obj := ⟨(.type "code"), none, .fields ((.str "_law_asked" 848) :: (.str "_law_asked" 849) :: (.str "/claim/cut.py" 850) :: (.int (224) 0) :: (.int (3) 0) :: (.int (0) 0) :: (.int (0) 0) :: (.int (3) 0) :: (.ref 508) :: (.bool true) :: (.int (181) 0) :: (.ref 509) :: .none :: (.ref 510) :: (.ref 511) :: (.ref 512) :: (.int (858) 0) :: (.int (224) 0) :: (.str "/claim/cut.py" 859) :: []).toArray, #[]⟩
def ho510 (P : Params) : Obj := fo "_law_asked" "_law_asked" (top 49) .none .none .none (.str "law_stow_k33_a_shelf" 822) none (.ref 513) .none none
def ho511 (P : Params) : Obj := ⟨(.type "tuple"), none, .seq #[] 0, #[]⟩
def ho512 (P : Params) : Obj := ⟨.none, none, .fields #[], #[]⟩
def ho513 (P : Params) : Obj := ⟨(.type "tuple"), none, .seq ((.str "_law_size" 864) :: (.str "_law_shelf" 865) :: (.str "_law_fine" 866) :: (.str "e" 867) :: []).toArray 0, #[]⟩
def ho514 (P : Params) : Obj := ⟨(.type "tuple"), none, .seq #[] 0, #[]⟩
def ho515 (P : Params) : Obj := fq "_law_no_room_of" "_law_no_room_of" (top 50)
def ho516 (P : Params) : Obj := ⟨(.type "code"), none, .fields ((.str "_law_no_room_of" 861) :: (.str "_law_no_room_of" 862) :: (.str "/claim/cut.py" 863) :: (.int (239) 0) :: (.int (2) 0) :: (.int (0) 0) :: (.int (0) 0) :: (.int (3) 0) :: (.ref 515) :: (.bool true) :: (.int (181) 0) :: (.ref 516) :: .none :: (.ref 517) :: (.ref 518) :: (.ref 519) :: (.int (868) 0) :: (.int (239) 0) :: (.str "/claim/cut.py" 869) :: []).toArray, #[]⟩
def ho517 (P : Params) : Obj := fo "_law_no_room_of" "_law_no_room_of" (top 50) .none .none .none (.str "law_stow_k33_a_shelf" 822) none (.ref 520) .none none
def ho518 (P : Params) : Obj := ⟨(.type "tuple"), none, .seq #[] 0, #[]⟩
def ho519 (P : Params) : Obj := ⟨.none, none, .fields #[], #[]⟩
def ho520 (P : Params) : Obj := fq "law" "law" (top 51)
def ho521 (P : Params) : Obj := ⟨(.type "code"), none, .fields ((.str "law" 871) :: (.str "law" 872) :: (.str "/claim/cut.py" 873) :: (.int (246) 0) :: (.int (1) 0) :: (.int (0) 0) :: (.int (0) 0) :: (.int (3) 0) :: (.ref 522) :: (.bool true) :: (.int (181) 0) :: (.ref 523) :: .none :: .none :: .none :: (.ref 524) :: (.int (874) 0) :: (.int (246) 0) :: (.str "/claim/cut.py" 875) :: []).toArray, #[]⟩
def ho522 (P : Params) : Obj := fo "law" "law" (top 51) .none .none .none (.str "law_stow_k33_a_shelf" 822) none (.ref 525) .none none
noncomputable def heapA : Params → Heap := fun P => ⟨Array.mk (PySem.W.boot_o_0 P :: PySem.W.boot_o_1 P :: PySem.W.boot_o_2 P :: PySem.W.boot_o_3 P :: PySem.W.boot_o_4 P :: PySem.W.boot_o_5 P :: PySem.W.boot_o_6 P :: PySem.W.boot_o_7 P :: PySem.W.boot_o_8 P :: PySem.W.boot_o_9 P :: PySem.W.boot_o_10 P :: ho0 P :: ho1 P :: ho2 P :: ho3 P :: []), ⟨[], [], [], 0, [], [], false, #[], [], 0, false, false, false, 0, [2000, 10, 10], false, 0, true, [], [], 0, false⟩⟩
def body0 : List Stmt := PySem.W.behindTheImports PySem.Challenge.pw_stow_k33_a_shelf
def sts0 : List Stmt := (body0.drop 0).take 10
def sts1 : List Stmt := (body0.drop 10).take 23
def sts2 : List Stmt := (body0.drop 33).take 19
def all0 : List Stmt := sts0 ++ (sts1 ++ (sts2 ++ []))
def env0 : Env := { scope := (PySem.Challenge.pw_stow_k33_a_shelf).main.scope, locals := mainNs, globals := mainNs, cells := [], code := (.ref 13), frame := some 14 }
def code0 : Code := .body all0 env0
theorem pre0 (w : World) (os : OsState) : PySem.W.topGo treeTable PySem.Challenge.pw_stow_k33_a_shelf w 11 (some (.ref 6)) 12 ⟨PySem.W.boot_heap w.params, Array.mk [], PySem.W.boot_drawn, PySem.W.boot_toks, os⟩ (PySem.W.topStub PySem.Challenge.pw_stow_k33_a_shelf) = some (⟨heapA w.params, #[], ⟨0, 0, 0, 0⟩, 187, os⟩, ⟨denote treeTable (.body all0 env0), code0, ⟨0, 0, 0, 0⟩, [PySem.W.topFrame ⟨0, 0, 0, 0⟩]⟩) := by kernel_rfl
noncomputable def treeB : Params → PySem.W.BT := fun P => (.node (PySem.W.boot_o_0 P) (.node (PySem.W.boot_o_1 P) (.node (PySem.W.boot_o_3 P) (.node (PySem.W.boot_o_7 P) .nil .nil) (.node (ho0 P) .nil .nil)) (.node (PySem.W.boot_o_5 P) (.node (PySem.W.boot_o_9 P) .nil .nil) (.node (ho2 P) .nil .nil))) (.node (PySem.W.boot_o_2 P) (.node (PySem.W.boot_o_4 P) (.node (PySem.W.boot_o_8 P) .nil .nil) (.node (ho1 P) .nil .nil)) (.node (PySem.W.boot_o_6 P) (.node (PySem.W.boot_o_10 P) .nil .nil) (.node (ho3 P) .nil .nil))))
theorem blk0 (w : World) (os : OsState) : PySem.W.segRun treeTable PySem.Challenge.pw_stow_k33_a_shelf w 11 (some (.ref 6)) 1 1 ⟨heapA w.params, #[], ⟨0, 0, 0, 0⟩, 187, os⟩ (PySem.W.blockOf all0 env0 code0 ⟨0, 0, 0, 0⟩ [PySem.W.topFrame ⟨0, 0, 0, 0⟩]) = some (.next, (PySem.W.SharedT.mk (treeB w.params) 15 ⟨[], [], [], 0, [], [], false, #[], [], 0, false, false, false, 0, [2000, 10, 10], false, 0, true, [], [], 0, false⟩ #[] ⟨0, 0, 0, 0⟩ 187 os).abs, code0, ⟨0, 0, 0, 0⟩) := by kernel_rfl
noncomputable def treeG10 : Params → PySem.W.BT := fun P => (.node (PySem.W.boot_o_0 P) (.node (PySem.W.boot_o_1 P) (.node (ho4 P) (.node (PySem.W.boot_o_7 P) (.node (ho6 P) (.node (ho22 P) (.node (ho54 P) .nil .nil) (.node (ho86 P) .nil .nil)) (.node (ho38 P) (.node (ho70 P) .nil .nil) (.node (ho102 P) .nil .nil))) (.node (ho14 P) (.node (ho30 P) (.node (ho62 P) .nil .nil) (.node (ho94 P) .nil .nil)) (.node (ho46 P) (.node (ho78 P) .nil .nil) (.node (ho110 P) .nil .nil)))) (.node (ho0 P) (.node (ho10 P) (.node (ho26 P) (.node (ho58 P) .nil .nil) (.node (ho90 P) .nil .nil)) (.node (ho42 P) (.node (ho74 P) .nil .nil) (.node (ho106 P) .nil .nil))) (.node (ho18 P) (.node (ho34 P) (.node (ho66 P) .nil .nil) (.node (ho98 P) .nil .nil)) (.node (ho50 P) (.node (ho82 P) .nil .nil) (.node (ho114 P) .nil .nil))))) (.node (PySem.W.boot_o_5 P) (.node (PySem.W.boot_o_9 P) (.node (ho8 P) (.node (ho24 P) (.node (ho56 P) .nil .nil) (.node (ho88 P) .nil .nil)) (.node (ho40 P) (.node (ho72 P) .nil .nil) (.node (ho104 P) .nil .nil))) (.node (ho16 P) (.node (ho32 P) (.node (ho64 P) .nil .nil) (.node (ho96 P) .nil .nil)) (.node (ho48 P) (.node (ho80 P) .nil .nil) (.node (ho112 P) .nil .nil)))) (.node (ho2 P) (.node (ho12 P) (.node (ho28 P) (.node (ho60 P) .nil .nil) (.node (ho92 P) .nil .nil)) (.node (ho44 P) (.node (ho76 P) .nil .nil) (.node (ho108 P) .nil .nil))) (.node (ho20 P) (.node (ho36 P) (.node (ho68 P) .nil .nil) (.node (ho100 P) .nil .nil)) (.node (ho52 P) (.node (ho84 P) .nil .nil) (.node (ho116 P) .nil .nil)))))) (.node (PySem.W.boot_o_2 P) (.node (PySem.W.boot_o_4 P) (.node (PySem.W.boot_o_8 P) (.node (ho7 P) (.node (ho23 P) (.node (ho55 P) .nil .nil) (.node (ho87 P) .nil .nil)) (.node (ho39 P) (.node (ho71 P) .nil .nil) (.node (ho103 P) .nil .nil))) (.node (ho15 P) (.node (ho31 P) (.node (ho63 P) .nil .nil) (.node (ho95 P) .nil .nil)) (.node (ho47 P) (.node (ho79 P) .nil .nil) (.node (ho111 P) .nil .nil)))) (.node (ho5 P) (.node (ho11 P) (.node (ho27 P) (.node (ho59 P) .nil .nil) (.node (ho91 P) .nil .nil)) (.node (ho43 P) (.node (ho75 P) .nil .nil) (.node (ho107 P) .nil .nil))) (.node (ho19 P) (.node (ho35 P) (.node (ho67 P) .nil .nil) (.node (ho99 P) .nil .nil)) (.node (ho51 P) (.node (ho83 P) .nil .nil) (.node (ho115 P) .nil .nil))))) (.node (PySem.W.boot_o_6 P) (.node (PySem.W.boot_o_10 P) (.node (ho9 P) (.node (ho25 P) (.node (ho57 P) .nil .nil) (.node (ho89 P) .nil .nil)) (.node (ho41 P) (.node (ho73 P) .nil .nil) (.node (ho105 P) .nil .nil))) (.node (ho17 P) (.node (ho33 P) (.node (ho65 P) .nil .nil) (.node (ho97 P) .nil .nil)) (.node (ho49 P) (.node (ho81 P) .nil .nil) (.node (ho113 P) .nil .nil)))) (.node (ho3 P) (.node (ho13 P) (.node (ho29 P) (.node (ho61 P) .nil .nil) (.node (ho93 P) .nil .nil)) (.node (ho45 P) (.node (ho77 P) .nil .nil) (.node (ho109 P) .nil .nil))) (.node (ho21 P) (.node (ho37 P) (.node (ho69 P) .nil .nil) (.node (ho101 P) .nil .nil)) (.node (ho53 P) (.node (ho85 P) .nil .nil) .nil))))))
theorem grp0 (w : World) (os : OsState) : PySem.W.segRunT treeTable PySem.Challenge.pw_stow_k33_a_shelf w 11 (some (.ref 6)) 1 1748 (PySem.W.SharedT.mk (treeB w.params) 15 ⟨[], [], [], 0, [], [], false, #[], [], 0, false, false, false, 0, [2000, 10, 10], false, 0, true, [], [], 0, false⟩ #[] ⟨0, 0, 0, 0⟩ 187 os) (PySem.W.piecesOf sts0 env0 code0 ⟨0, 0, 0, 0⟩ [PySem.W.topFrame ⟨0, 0, 0, 0⟩]) = some (.next, (PySem.W.SharedT.mk (treeG10 w.params) 126 ⟨[], [], [], 0, [], [], false, #[], [], 0, false, false, false, 0, [2000, 10, 10], false, 0, true, [], [], 0, false⟩ #[] ⟨0, 0, 0, 0⟩ 335 os), code0, ⟨21, 0, 22, 8⟩) := by kernel_rfl
noncomputable def treeG33 : Params → PySem.W.BT := fun P => (.node (PySem.W.boot_o_0 P) (.node (PySem.W.boot_o_1 P) (.node (ho117 P) (.node (PySem.W.boot_o_7 P) (.node (ho6 P) (.node (ho119 P) (.node (ho54 P) (.node (ho121 P) (.node (ho249 P) .nil .nil) .nil) (.node (ho185 P) .nil .nil)) (.node (ho86 P) (.node (ho153 P) .nil .nil) (.node (ho217 P) .nil .nil))) (.node (ho38 P) (.node (ho70 P) (.node (ho137 P) (.node (ho265 P) .nil .nil) .nil) (.node (ho201 P) .nil .nil)) (.node (ho102 P) (.node (ho169 P) .nil .nil) (.node (ho233 P) .nil .nil)))) (.node (ho14 P) (.node (ho30 P) (.node (ho62 P) (.node (ho129 P) (.node (ho257 P) .nil .nil) .nil) (.node (ho193 P) .nil .nil)) (.node (ho94 P) (.node (ho161 P) .nil .nil) (.node (ho225 P) .nil .nil))) (.node (ho46 P) (.node (ho78 P) (.node (ho145 P) (.node (ho273 P) .nil .nil) .nil) (.node (ho209 P) .nil .nil)) (.node (ho110 P) (.node (ho177 P) .nil .nil) (.node (ho241 P) .nil .nil))))) (.node (ho0 P) (.node (ho10 P) (.node (ho26 P) (.node (ho58 P) (.node (ho125 P) (.node (ho253 P) .nil .nil) .nil) (.node (ho189 P) .nil .nil)) (.node (ho90 P) (.node (ho157 P) .nil .nil) (.node (ho221 P) .nil .nil))) (.node (ho42 P) (.node (ho74 P) (.node (ho141 P) (.node (ho269 P) .nil .nil) .nil) (.node (ho205 P) .nil .nil)) (.node (ho106 P) (.node (ho173 P) .nil .nil) (.node (ho237 P) .nil .nil)))) (.node (ho18 P) (.node (ho34 P) (.node (ho66 P) (.node (ho133 P) (.node (ho261 P) .nil .nil) .nil) (.node (ho197 P) .nil .nil)) (.node (ho98 P) (.node (ho165 P) .nil .nil) (.node (ho229 P) .nil .nil))) (.node (ho50 P) (.node (ho82 P) (.node (ho149 P) .nil .nil) (.node (ho213 P) .nil .nil)) (.node (ho114 P) (.node (ho181 P) .nil .nil) (.node (ho245 P) .nil .nil)))))) (.node (PySem.W.boot_o_5 P) (.node (PySem.W.boot_o_9 P) (.node (ho8 P) (.node (ho24 P) (.node (ho56 P) (.node (ho123 P) (.node (ho251 P) .nil .nil) .nil) (.node (ho187 P) .nil .nil)) (.node (ho88 P) (.node (ho155 P) .nil .nil) (.node (ho219 P) .nil .nil))) (.node (ho40 P) (.node (ho72 P) (.node (ho139 P) (.node (ho267 P) .nil .nil) .nil) (.node (ho203 P) .nil .nil)) (.node (ho104 P) (.node (ho171 P) .nil .nil) (.node (ho235 P) .nil .nil)))) (.node (ho16 P) (.node (ho32 P) (.node (ho64 P) (.node (ho131 P) (.node (ho259 P) .nil .nil) .nil) (.node (ho195 P) .nil .nil)) (.node (ho96 P) (.node (ho163 P) .nil .nil) (.node (ho227 P) .nil .nil))) (.node (ho48 P) (.node (ho80 P) (.node (ho147 P) (.node (ho275 P) .nil .nil) .nil) (.node (ho211 P) .nil .nil)) (.node (ho112 P) (.node (ho179 P) .nil .nil) (.node (ho243 P) .nil .nil))))) (.node (ho2 P) (.node (ho12 P) (.node (ho28 P) (.node (ho60 P) (.node (ho127 P) (.node (ho255 P) .nil .nil) .nil) (.node (ho191 P) .nil .nil)) (.node (ho92 P) (.node (ho159 P) .nil .nil) (.node (ho223 P) .nil .nil))) (.node (ho44 P) (.node (ho76 P) (.node (ho143 P) (.node (ho271 P) .nil .nil) .nil) (.node (ho207 P) .nil .nil)) (.node (ho108 P) (.node (ho175 P) .nil .nil) (.node (ho239 P) .nil .nil)))) (.node (ho20 P) (.node (ho36 P) (.node (ho68 P) (.node (ho135 P) (.node (ho263 P) .nil .nil) .nil) (.node (ho199 P) .nil .nil)) (.node (ho100 P) (.node (ho167 P) .nil .nil) (.node (ho231 P) .nil .nil))) (.node (ho52 P) (.node (ho84 P) (.node (ho151 P) .nil .nil) (.node (ho215 P) .nil .nil)) (.node (ho116 P) (.node (ho183 P) .nil .nil) (.node (ho247 P) .nil .nil))))))) (.node (PySem.W.boot_o_2 P) (.node (PySem.W.boot_o_4 P) (.node (PySem.W.boot_o_8 P) (.node (ho7 P) (.node (ho23 P) (.node (ho55 P) (.node (ho122 P) (.node (ho250 P) .nil .nil) .nil) (.node (ho186 P) .nil .nil)) (.node (ho87 P) (.node (ho154 P) .nil .nil) (.node (ho218 P) .nil .nil))) (.node (ho39 P) (.node (ho71 P) (.node (ho138 P) (.node (ho266 P) .nil .nil) .nil) (.node (ho202 P) .nil .nil)) (.node (ho103 P) (.node (ho170 P) .nil .nil) (.node (ho234 P) .nil .nil)))) (.node (ho15 P) (.node (ho31 P) (.node (ho63 P) (.node (ho130 P) (.node (ho258 P) .nil .nil) .nil) (.node (ho194 P) .nil .nil)) (.node (ho95 P) (.node (ho162 P) .nil .nil) (.node (ho226 P) .nil .nil))) (.node (ho47 P) (.node (ho79 P) (.node (ho146 P) (.node (ho274 P) .nil .nil) .nil) (.node (ho210 P) .nil .nil)) (.node (ho111 P) (.node (ho178 P) .nil .nil) (.node (ho242 P) .nil .nil))))) (.node (ho118 P) (.node (ho11 P) (.node (ho27 P) (.node (ho59 P) (.node (ho126 P) (.node (ho254 P) .nil .nil) .nil) (.node (ho190 P) .nil .nil)) (.node (ho91 P) (.node (ho158 P) .nil .nil) (.node (ho222 P) .nil .nil))) (.node (ho43 P) (.node (ho75 P) (.node (ho142 P) (.node (ho270 P) .nil .nil) .nil) (.node (ho206 P) .nil .nil)) (.node (ho107 P) (.node (ho174 P) .nil .nil) (.node (ho238 P) .nil .nil)))) (.node (ho19 P) (.node (ho35 P) (.node (ho67 P) (.node (ho134 P) (.node (ho262 P) .nil .nil) .nil) (.node (ho198 P) .nil .nil)) (.node (ho99 P) (.node (ho166 P) .nil .nil) (.node (ho230 P) .nil .nil))) (.node (ho51 P) (.node (ho83 P) (.node (ho150 P) .nil .nil) (.node (ho214 P) .nil .nil)) (.node (ho115 P) (.node (ho182 P) .nil .nil) (.node (ho246 P) .nil .nil)))))) (.node (PySem.W.boot_o_6 P) (.node (PySem.W.boot_o_10 P) (.node (ho9 P) (.node (ho25 P) (.node (ho57 P) (.node (ho124 P) (.node (ho252 P) .nil .nil) .nil) (.node (ho188 P) .nil .nil)) (.node (ho89 P) (.node (ho156 P) .nil .nil) (.node (ho220 P) .nil .nil))) (.node (ho41 P) (.node (ho73 P) (.node (ho140 P) (.node (ho268 P) .nil .nil) .nil) (.node (ho204 P) .nil .nil)) (.node (ho105 P) (.node (ho172 P) .nil .nil) (.node (ho236 P) .nil .nil)))) (.node (ho17 P) (.node (ho33 P) (.node (ho65 P) (.node (ho132 P) (.node (ho260 P) .nil .nil) .nil) (.node (ho196 P) .nil .nil)) (.node (ho97 P) (.node (ho164 P) .nil .nil) (.node (ho228 P) .nil .nil))) (.node (ho49 P) (.node (ho81 P) (.node (ho148 P) .nil .nil) (.node (ho212 P) .nil .nil)) (.node (ho113 P) (.node (ho180 P) .nil .nil) (.node (ho244 P) .nil .nil))))) (.node (ho3 P) (.node (ho13 P) (.node (ho29 P) (.node (ho61 P) (.node (ho128 P) (.node (ho256 P) .nil .nil) .nil) (.node (ho192 P) .nil .nil)) (.node (ho93 P) (.node (ho160 P) .nil .nil) (.node (ho224 P) .nil .nil))) (.node (ho45 P) (.node (ho77 P) (.node (ho144 P) (.node (ho272 P) .nil .nil) .nil) (.node (ho208 P) .nil .nil)) (.node (ho109 P) (.node (ho176 P) .nil .nil) (.node (ho240 P) .nil .nil)))) (.node (ho21 P) (.node (ho37 P) (.node (ho69 P) (.node (ho136 P) (.node (ho264 P) .nil .nil) .nil) (.node (ho200 P) .nil .nil)) (.node (ho101 P) (.node (ho168 P) .nil .nil) (.node (ho232 P) .nil .nil))) (.node (ho53 P) (.node (ho85 P) (.node (ho152 P) .nil .nil) (.node (ho216 P) .nil .nil)) (.node (ho120 P) (.node (ho184 P) .nil .nil) (.node (ho248 P) .nil .nil))))))))
theorem grp1 (w : World) (os : OsState) : PySem.W.segRunT treeTable PySem.Challenge.pw_stow_k33_a_shelf w 11 (some (.ref 6)) 1 1702 (PySem.W.SharedT.mk (treeG10 w.params) 126 ⟨[], [], [], 0, [], [], false, #[], [], 0, false, false, false, 0, [2000, 10, 10], false, 0, true, [], [], 0, false⟩ #[] ⟨0, 0, 0, 0⟩ 335 os) (PySem.W.piecesOf sts1 env0 code0 ⟨21, 0, 22, 8⟩ [PySem.W.topFrame ⟨0, 0, 0, 0⟩]) = some (.next, (PySem.W.SharedT.mk (treeG33 w.params) 282 ⟨[], [], [], 0, [], [], false, #[], [], 0, false, false, false, 0, [2000, 10, 10], false, 0, true, [], [], 0, false⟩ #[] ⟨0, 0, 0, 0⟩ 547 os), code0, ⟨93, 0, 97, 49⟩) := by kernel_rfl
noncomputable def treeG52 : Params → PySem.W.BT := fun P => (.node (PySem.W.boot_o_0 P) (.node (PySem.W.boot_o_1 P) (.node (ho276 P) (.node (PySem.W.boot_o_7 P) (.node (ho6 P) (.node (ho119 P) (.node (ho54 P) (.node (ho121 P) (.node (ho249 P) (.node (ho507 P) .nil .nil) .nil) (.node (ho379 P) .nil .nil)) (.node (ho185 P) (.node (ho315 P) .nil .nil) (.node (ho443 P) .nil .nil))) (.node (ho86 P) (.node (ho153 P) (.node (ho283 P) .nil .nil) (.node (ho411 P) .nil .nil)) (.node (ho217 P) (.node (ho347 P) .nil .nil) (.node (ho475 P) .nil .nil)))) (.node (ho38 P) (.node (ho70 P) (.node (ho137 P) (.node (ho265 P) .nil .nil) (.node (ho395 P) .nil .nil)) (.node (ho201 P) (.node (ho331 P) .nil .nil) (.node (ho459 P) .nil .nil))) (.node (ho102 P) (.node (ho169 P) (.node (ho299 P) .nil .nil) (.node (ho427 P) .nil .nil)) (.node (ho233 P) (.node (ho363 P) .nil .nil) (.node (ho491 P) .nil .nil))))) (.node (ho14 P) (.node (ho30 P) (.node (ho62 P) (.node (ho129 P) (.node (ho257 P) (.node (ho515 P) .nil .nil) .nil) (.node (ho387 P) .nil .nil)) (.node (ho193 P) (.node (ho323 P) .nil .nil) (.node (ho451 P) .nil .nil))) (.node (ho94 P) (.node (ho161 P) (.node (ho291 P) .nil .nil) (.node (ho419 P) .nil .nil)) (.node (ho225 P) (.node (ho355 P) .nil .nil) (.node (ho483 P) .nil .nil)))) (.node (ho46 P) (.node (ho78 P) (.node (ho145 P) (.node (ho273 P) .nil .nil) (.node (ho403 P) .nil .nil)) (.node (ho209 P) (.node (ho339 P) .nil .nil) (.node (ho467 P) .nil .nil))) (.node (ho110 P) (.node (ho177 P) (.node (ho307 P) .nil .nil) (.node (ho435 P) .nil .nil)) (.node (ho241 P) (.node (ho371 P) .nil .nil) (.node (ho499 P) .nil .nil)))))) (.node (ho0 P) (.node (ho10 P) (.node (ho26 P) (.node (ho58 P) (.node (ho125 P) (.node (ho253 P) (.node (ho511 P) .nil .nil) .nil) (.node (ho383 P) .nil .nil)) (.node (ho189 P) (.node (ho319 P) .nil .nil) (.node (ho447 P) .nil .nil))) (.node (ho90 P) (.node (ho157 P) (.node (ho287 P) .nil .nil) (.node (ho415 P) .nil .nil)) (.node (ho221 P) (.node (ho351 P) .nil .nil) (.node (ho479 P) .nil .nil)))) (.node (ho42 P) (.node (ho74 P) (.node (ho141 P) (.node (ho269 P) .nil .nil) (.node (ho399 P) .nil .nil)) (.node (ho205 P) (.node (ho335 P) .nil .nil) (.node (ho463 P) .nil .nil))) (.node (ho106 P) (.node (ho173 P) (.node (ho303 P) .nil .nil) (.node (ho431 P) .nil .nil)) (.node (ho237 P) (.node (ho367 P) .nil .nil) (.node (ho495 P) .nil .nil))))) (.node (ho18 P) (.node (ho34 P) (.node (ho66 P) (.node (ho133 P) (.node (ho261 P) (.node (ho519 P) .nil .nil) .nil) (.node (ho391 P) .nil .nil)) (.node (ho197 P) (.node (ho327 P) .nil .nil) (.node (ho455 P) .nil .nil))) (.node (ho98 P) (.node (ho165 P) (.node (ho295 P) .nil .nil) (.node (ho423 P) .nil .nil)) (.node (ho229 P) (.node (ho359 P) .nil .nil) (.node (ho487 P) .nil .nil)))) (.node (ho50 P) (.node (ho82 P) (.node (ho149 P) (.node (ho279 P) .nil .nil) (.node (ho407 P) .nil .nil)) (.node (ho213 P) (.node (ho343 P) .nil .nil) (.node (ho471 P) .nil .nil))) (.node (ho114 P) (.node (ho181 P) (.node (ho311 P) .nil .nil) (.node (ho439 P) .nil .nil)) (.node (ho245 P) (.node (ho375 P) .nil .nil) (.node (ho503 P) .nil .nil))))))) (.node (PySem.W.boot_o_5 P) (.node (PySem.W.boot_o_9 P) (.node (ho8 P) (.node (ho24 P) (.node (ho56 P) (.node (ho123 P) (.node (ho251 P) (.node (ho509 P) .nil .nil) .nil) (.node (ho381 P) .nil .nil)) (.node (ho187 P) (.node (ho317 P) .nil .nil) (.node (ho445 P) .nil .nil))) (.node (ho88 P) (.node (ho155 P) (.node (ho285 P) .nil .nil) (.node (ho413 P) .nil .nil)) (.node (ho219 P) (.node (ho349 P) .nil .nil) (.node (ho477 P) .nil .nil)))) (.node (ho40 P) (.node (ho72 P) (.node (ho139 P) (.node (ho267 P) .nil .nil) (.node (ho397 P) .nil .nil)) (.node (ho203 P) (.node (ho333 P) .nil .nil) (.node (ho461 P) .nil .nil))) (.node (ho104 P) (.node (ho171 P) (.node (ho301 P) .nil .nil) (.node (ho429 P) .nil .nil)) (.node (ho235 P) (.node (ho365 P) .nil .nil) (.node (ho493 P) .nil .nil))))) (.node (ho16 P) (.node (ho32 P) (.node (ho64 P) (.node (ho131 P) (.node (ho259 P) (.node (ho517 P) .nil .nil) .nil) (.node (ho389 P) .nil .nil)) (.node (ho195 P) (.node (ho325 P) .nil .nil) (.node (ho453 P) .nil .nil))) (.node (ho96 P) (.node (ho163 P) (.node (ho293 P) .nil .nil) (.node (ho421 P) .nil .nil)) (.node (ho227 P) (.node (ho357 P) .nil .nil) (.node (ho485 P) .nil .nil)))) (.node (ho48 P) (.node (ho80 P) (.node (ho147 P) (.node (ho275 P) .nil .nil) (.node (ho405 P) .nil .nil)) (.node (ho211 P) (.node (ho341 P) .nil .nil) (.node (ho469 P) .nil .nil))) (.node (ho112 P) (.node (ho179 P) (.node (ho309 P) .nil .nil) (.node (ho437 P) .nil .nil)) (.node (ho243 P) (.node (ho373 P) .nil .nil) (.node (ho501 P) .nil .nil)))))) (.node (ho2 P) (.node (ho12 P) (.node (ho28 P) (.node (ho60 P) (.node (ho127 P) (.node (ho255 P) (.node (ho513 P) .nil .nil) .nil) (.node (ho385 P) .nil .nil)) (.node (ho191 P) (.node (ho321 P) .nil .nil) (.node (ho449 P) .nil .nil))) (.node (ho92 P) (.node (ho159 P) (.node (ho289 P) .nil .nil) (.node (ho417 P) .nil .nil)) (.node (ho223 P) (.node (ho353 P) .nil .nil) (.node (ho481 P) .nil .nil)))) (.node (ho44 P) (.node (ho76 P) (.node (ho143 P) (.node (ho271 P) .nil .nil) (.node (ho401 P) .nil .nil)) (.node (ho207 P) (.node (ho337 P) .nil .nil) (.node (ho465 P) .nil .nil))) (.node (ho108 P) (.node (ho175 P) (.node (ho305 P) .nil .nil) (.node (ho433 P) .nil .nil)) (.node (ho239 P) (.node (ho369 P) .nil .nil) (.node (ho497 P) .nil .nil))))) (.node (ho20 P) (.node (ho36 P) (.node (ho68 P) (.node (ho135 P) (.node (ho263 P) (.node (ho521 P) .nil .nil) .nil) (.node (ho393 P) .nil .nil)) (.node (ho199 P) (.node (ho329 P) .nil .nil) (.node (ho457 P) .nil .nil))) (.node (ho100 P) (.node (ho167 P) (.node (ho297 P) .nil .nil) (.node (ho425 P) .nil .nil)) (.node (ho231 P) (.node (ho361 P) .nil .nil) (.node (ho489 P) .nil .nil)))) (.node (ho52 P) (.node (ho84 P) (.node (ho151 P) (.node (ho281 P) .nil .nil) (.node (ho409 P) .nil .nil)) (.node (ho215 P) (.node (ho345 P) .nil .nil) (.node (ho473 P) .nil .nil))) (.node (ho116 P) (.node (ho183 P) (.node (ho313 P) .nil .nil) (.node (ho441 P) .nil .nil)) (.node (ho247 P) (.node (ho377 P) .nil .nil) (.node (ho505 P) .nil .nil)))))))) (.node (PySem.W.boot_o_2 P) (.node (PySem.W.boot_o_4 P) (.node (PySem.W.boot_o_8 P) (.node (ho7 P) (.node (ho23 P) (.node (ho55 P) (.node (ho122 P) (.node (ho250 P) (.node (ho508 P) .nil .nil) .nil) (.node (ho380 P) .nil .nil)) (.node (ho186 P) (.node (ho316 P) .nil .nil) (.node (ho444 P) .nil .nil))) (.node (ho87 P) (.node (ho154 P) (.node (ho284 P) .nil .nil) (.node (ho412 P) .nil .nil)) (.node (ho218 P) (.node (ho348 P) .nil .nil) (.node (ho476 P) .nil .nil)))) (.node (ho39 P) (.node (ho71 P) (.node (ho138 P) (.node (ho266 P) .nil .nil) (.node (ho396 P) .nil .nil)) (.node (ho202 P) (.node (ho332 P) .nil .nil) (.node (ho460 P) .nil .nil))) (.node (ho103 P) (.node (ho170 P) (.node (ho300 P) .nil .nil) (.node (ho428 P) .nil .nil)) (.node (ho234 P) (.node (ho364 P) .nil .nil) (.node (ho492 P) .nil .nil))))) (.node (ho15 P) (.node (ho31 P) (.node (ho63 P) (.node (ho130 P) (.node (ho258 P) (.node (ho516 P) .nil .nil) .nil) (.node (ho388 P) .nil .nil)) (.node (ho194 P) (.node (ho324 P) .nil .nil) (.node (ho452 P) .nil .nil))) (.node (ho95 P) (.node (ho162 P) (.node (ho292 P) .nil .nil) (.node (ho420 P) .nil .nil)) (.node (ho226 P) (.node (ho356 P) .nil .nil) (.node (ho484 P) .nil .nil)))) (.node (ho47 P) (.node (ho79 P) (.node (ho146 P) (.node (ho274 P) .nil .nil) (.node (ho404 P) .nil .nil)) (.node (ho210 P) (.node (ho340 P) .nil .nil) (.node (ho468 P) .nil .nil))) (.node (ho111 P) (.node (ho178 P) (.node (ho308 P) .nil .nil) (.node (ho436 P) .nil .nil)) (.node (ho242 P) (.node (ho372 P) .nil .nil) (.node (ho500 P) .nil .nil)))))) (.node (ho277 P) (.node (ho11 P) (.node (ho27 P) (.node (ho59 P) (.node (ho126 P) (.node (ho254 P) (.node (ho512 P) .nil .nil) .nil) (.node (ho384 P) .nil .nil)) (.node (ho190 P) (.node (ho320 P) .nil .nil) (.node (ho448 P) .nil .nil))) (.node (ho91 P) (.node (ho158 P) (.node (ho288 P) .nil .nil) (.node (ho416 P) .nil .nil)) (.node (ho222 P) (.node (ho352 P) .nil .nil) (.node (ho480 P) .nil .nil)))) (.node (ho43 P) (.node (ho75 P) (.node (ho142 P) (.node (ho270 P) .nil .nil) (.node (ho400 P) .nil .nil)) (.node (ho206 P) (.node (ho336 P) .nil .nil) (.node (ho464 P) .nil .nil))) (.node (ho107 P) (.node (ho174 P) (.node (ho304 P) .nil .nil) (.node (ho432 P) .nil .nil)) (.node (ho238 P) (.node (ho368 P) .nil .nil) (.node (ho496 P) .nil .nil))))) (.node (ho19 P) (.node (ho35 P) (.node (ho67 P) (.node (ho134 P) (.node (ho262 P) (.node (ho520 P) .nil .nil) .nil) (.node (ho392 P) .nil .nil)) (.node (ho198 P) (.node (ho328 P) .nil .nil) (.node (ho456 P) .nil .nil))) (.node (ho99 P) (.node (ho166 P) (.node (ho296 P) .nil .nil) (.node (ho424 P) .nil .nil)) (.node (ho230 P) (.node (ho360 P) .nil .nil) (.node (ho488 P) .nil .nil)))) (.node (ho51 P) (.node (ho83 P) (.node (ho150 P) (.node (ho280 P) .nil .nil) (.node (ho408 P) .nil .nil)) (.node (ho214 P) (.node (ho344 P) .nil .nil) (.node (ho472 P) .nil .nil))) (.node (ho115 P) (.node (ho182 P) (.node (ho312 P) .nil .nil) (.node (ho440 P) .nil .nil)) (.node (ho246 P) (.node (ho376 P) .nil .nil) (.node (ho504 P) .nil .nil))))))) (.node (PySem.W.boot_o_6 P) (.node (PySem.W.boot_o_10 P) (.node (ho9 P) (.node (ho25 P) (.node (ho57 P) (.node (ho124 P) (.node (ho252 P) (.node (ho510 P) .nil .nil) .nil) (.node (ho382 P) .nil .nil)) (.node (ho188 P) (.node (ho318 P) .nil .nil) (.node (ho446 P) .nil .nil))) (.node (ho89 P) (.node (ho156 P) (.node (ho286 P) .nil .nil) (.node (ho414 P) .nil .nil)) (.node (ho220 P) (.node (ho350 P) .nil .nil) (.node (ho478 P) .nil .nil)))) (.node (ho41 P) (.node (ho73 P) (.node (ho140 P) (.node (ho268 P) .nil .nil) (.node (ho398 P) .nil .nil)) (.node (ho204 P) (.node (ho334 P) .nil .nil) (.node (ho462 P) .nil .nil))) (.node (ho105 P) (.node (ho172 P) (.node (ho302 P) .nil .nil) (.node (ho430 P) .nil .nil)) (.node (ho236 P) (.node (ho366 P) .nil .nil) (.node (ho494 P) .nil .nil))))) (.node (ho17 P) (.node (ho33 P) (.node (ho65 P) (.node (ho132 P) (.node (ho260 P) (.node (ho518 P) .nil .nil) .nil) (.node (ho390 P) .nil .nil)) (.node (ho196 P) (.node (ho326 P) .nil .nil) (.node (ho454 P) .nil .nil))) (.node (ho97 P) (.node (ho164 P) (.node (ho294 P) .nil .nil) (.node (ho422 P) .nil .nil)) (.node (ho228 P) (.node (ho358 P) .nil .nil) (.node (ho486 P) .nil .nil)))) (.node (ho49 P) (.node (ho81 P) (.node (ho148 P) (.node (ho278 P) .nil .nil) (.node (ho406 P) .nil .nil)) (.node (ho212 P) (.node (ho342 P) .nil .nil) (.node (ho470 P) .nil .nil))) (.node (ho113 P) (.node (ho180 P) (.node (ho310 P) .nil .nil) (.node (ho438 P) .nil .nil)) (.node (ho244 P) (.node (ho374 P) .nil .nil) (.node (ho502 P) .nil .nil)))))) (.node (ho3 P) (.node (ho13 P) (.node (ho29 P) (.node (ho61 P) (.node (ho128 P) (.node (ho256 P) (.node (ho514 P) .nil .nil) .nil) (.node (ho386 P) .nil .nil)) (.node (ho192 P) (.node (ho322 P) .nil .nil) (.node (ho450 P) .nil .nil))) (.node (ho93 P) (.node (ho160 P) (.node (ho290 P) .nil .nil) (.node (ho418 P) .nil .nil)) (.node (ho224 P) (.node (ho354 P) .nil .nil) (.node (ho482 P) .nil .nil)))) (.node (ho45 P) (.node (ho77 P) (.node (ho144 P) (.node (ho272 P) .nil .nil) (.node (ho402 P) .nil .nil)) (.node (ho208 P) (.node (ho338 P) .nil .nil) (.node (ho466 P) .nil .nil))) (.node (ho109 P) (.node (ho176 P) (.node (ho306 P) .nil .nil) (.node (ho434 P) .nil .nil)) (.node (ho240 P) (.node (ho370 P) .nil .nil) (.node (ho498 P) .nil .nil))))) (.node (ho21 P) (.node (ho37 P) (.node (ho69 P) (.node (ho136 P) (.node (ho264 P) (.node (ho522 P) .nil .nil) .nil) (.node (ho394 P) .nil .nil)) (.node (ho200 P) (.node (ho330 P) .nil .nil) (.node (ho458 P) .nil .nil))) (.node (ho101 P) (.node (ho168 P) (.node (ho298 P) .nil .nil) (.node (ho426 P) .nil .nil)) (.node (ho232 P) (.node (ho362 P) .nil .nil) (.node (ho490 P) .nil .nil)))) (.node (ho53 P) (.node (ho85 P) (.node (ho152 P) (.node (ho282 P) .nil .nil) (.node (ho410 P) .nil .nil)) (.node (ho216 P) (.node (ho346 P) .nil .nil) (.node (ho474 P) .nil .nil))) (.node (ho120 P) (.node (ho184 P) (.node (ho314 P) .nil .nil) (.node (ho442 P) .nil .nil)) (.node (ho248 P) (.node (ho378 P) .nil .nil) (.node (ho506 P) .nil .nil)))))))))
theorem grp2 (w : World) (os : OsState) : PySem.W.segRunT treeTable PySem.Challenge.pw_stow_k33_a_shelf w 11 (some (.ref 6)) 1 1452 (PySem.W.SharedT.mk (treeG33 w.params) 282 ⟨[], [], [], 0, [], [], false, #[], [], 0, false, false, false, 0, [2000, 10, 10], false, 0, true, [], [], 0, false⟩ #[] ⟨0, 0, 0, 0⟩ 547 os) (PySem.W.piecesOf sts2 env0 code0 ⟨93, 0, 97, 49⟩ [PySem.W.topFrame ⟨0, 0, 0, 0⟩]) = some (.next, (PySem.W.SharedT.mk (treeG52 w.params) 527 ⟨[], [], [], 0, [], [], false, #[], [], 0, false, false, false, 0, [2000, 10, 10], false, 0, true, [], [], 0, false⟩ #[] ⟨0, 0, 0, 0⟩ 877 os), code0, ⟨246, 0, 273, 148⟩) := by kernel_rfl
theorem fin0 (w : World) (os : OsState) : PySem.W.topRun treeTable PySem.Challenge.pw_stow_k33_a_shelf w 11 (some (.ref 6)) 2 ⟨PySem.W.absHeap (treeG52 w.params) 527 ⟨[], [], [], 0, [], [], false, #[], [], 0, false, false, false, 0, [2000, 10, 10], false, 0, true, [], [], 0, false⟩, #[], ⟨0, 0, 0, 0⟩, 877, os⟩ (PySem.W.restOf [] env0 code0 ⟨246, 0, 273, 148⟩ [PySem.W.topFrame ⟨0, 0, 0, 0⟩]) = some ⟨PySem.W.absHeap (treeG52 w.params) 527 ⟨[], [], [], 0, [], [], false, #[], [], 0, false, false, false, 0, [2000, 10, 10], false, 0, true, [], [], 0, false⟩, #[], ⟨0, 0, 0, 0⟩, 877, os⟩ := by kernel_rfl
theorem run0 (w : World) (os : OsState) : PySem.W.topRun treeTable PySem.Challenge.pw_stow_k33_a_shelf w 11 (some (.ref 6)) (12 + (1 + (1748 + (1702 + (1452 + 2))))) ⟨PySem.W.boot_heap w.params, Array.mk [], PySem.W.boot_drawn, PySem.W.boot_toks, os⟩ (PySem.W.topStub PySem.Challenge.pw_stow_k33_a_shelf) = some ⟨PySem.W.absHeap (treeG52 w.params) 527 ⟨[], [], [], 0, [], [], false, #[], [], 0, false, false, false, 0, [2000, 10, 10], false, 0, true, [], [], 0, false⟩, #[], ⟨0, 0, 0, 0⟩, 877, os⟩ := PySem.W.go_top (pre0 w os) (PySem.W.piece_block (blk0 w os) (PySem.W.piece_app (PySem.W.segRun_of (grp0 w os)) (PySem.W.piece_app (PySem.W.segRun_of (grp1 w os)) (PySem.W.piece_app (PySem.W.segRun_of (grp2 w os)) (fin0 w os)))))
theorem open0 (w : World) : (PySem.W.fencedOpening treeTable PySem.Challenge.pw_stow_k33_a_shelf w 5617).map (fun s => (s.heap, s.gens, s.drawn, s.toks)) = some (PySem.W.boot_heap w.params, Array.mk [], PySem.W.boot_drawn, PySem.W.boot_toks) := PySem.W.boot_open (by kernel_rfl) rfl (fun s => by kernel_rfl) w
noncomputable def heap0 : Params → PySem.W.Frag := fun P =>
  (nat_lit 2, PySem.W.boot_o_2 P) ::
  (nat_lit 3, ho276 P) ::
  (nat_lit 20, ho11 P) ::
  (nat_lit 21, ho12 P) ::
  (nat_lit 24, ho15 P) ::
  (nat_lit 30, ho21 P) ::
  (nat_lit 31, ho119 P) ::
  (nat_lit 37, ho28 P) ::
  (nat_lit 43, ho34 P) ::
  (nat_lit 44, ho35 P) ::
  (nat_lit 49, ho40 P) ::
  (nat_lit 55, ho46 P) ::
  (nat_lit 56, ho47 P) ::
  (nat_lit 61, ho52 P) ::
  (nat_lit 71, ho62 P) ::
  (nat_lit 72, ho63 P) ::
  (nat_lit 74, ho65 P) ::
  (nat_lit 75, ho66 P) ::
  (nat_lit 80, ho71 P) ::
  (nat_lit 86, ho77 P) ::
  (nat_lit 87, ho78 P) ::
  (nat_lit 92, ho83 P) ::
  (nat_lit 98, ho89 P) ::
  (nat_lit 99, ho90 P) ::
  (nat_lit 104, ho95 P) ::
  (nat_lit 110, ho101 P) ::
  (nat_lit 111, ho102 P) ::
  (nat_lit 116, ho107 P) ::
  (nat_lit 122, ho113 P) ::
  (nat_lit 123, ho114 P) ::
  (nat_lit 128, ho122 P) ::
  (nat_lit 134, ho128 P) ::
  (nat_lit 135, ho129 P) ::
  (nat_lit 140, ho134 P) ::
  (nat_lit 146, ho140 P) ::
  (nat_lit 147, ho141 P) ::
  (nat_lit 152, ho146 P) ::
  (nat_lit 158, ho152 P) ::
  (nat_lit 159, ho153 P) ::
  (nat_lit 164, ho158 P) ::
  (nat_lit 177, ho171 P) ::
  (nat_lit 178, ho172 P) ::
  (nat_lit 183, ho177 P) ::
  (nat_lit 189, ho183 P) ::
  (nat_lit 190, ho184 P) ::
  (nat_lit 195, ho189 P) ::
  (nat_lit 201, ho195 P) ::
  (nat_lit 202, ho196 P) ::
  (nat_lit 210, ho204 P) ::
  (nat_lit 211, ho205 P) ::
  (nat_lit 217, ho211 P) ::
  (nat_lit 218, ho212 P) ::
  (nat_lit 224, ho218 P) ::
  (nat_lit 225, ho219 P) ::
  (nat_lit 231, ho225 P) ::
  (nat_lit 232, ho226 P) ::
  (nat_lit 238, ho232 P) ::
  (nat_lit 239, ho233 P) ::
  (nat_lit 245, ho239 P) ::
  (nat_lit 246, ho240 P) ::
  (nat_lit 252, ho246 P) ::
  (nat_lit 253, ho247 P) ::
  (nat_lit 259, ho253 P) ::
  (nat_lit 260, ho254 P) ::
  (nat_lit 266, ho260 P) ::
  (nat_lit 267, ho261 P) ::
  (nat_lit 273, ho267 P) ::
  (nat_lit 274, ho268 P) ::
  (nat_lit 280, ho274 P) ::
  (nat_lit 281, ho275 P) ::
  (nat_lit 287, ho283 P) ::
  (nat_lit 288, ho284 P) ::
  (nat_lit 291, ho287 P) ::
  (nat_lit 301, ho297 P) ::
  (nat_lit 302, ho298 P) ::
  (nat_lit 308, ho304 P) ::
  (nat_lit 309, ho305 P) ::
  (nat_lit 315, ho311 P) ::
  (nat_lit 316, ho312 P) ::
  (nat_lit 322, ho318 P) ::
  (nat_lit 323, ho319 P) ::
  (nat_lit 336, ho332 P) ::
  (nat_lit 337, ho333 P) ::
  (nat_lit 380, ho376 P) ::
  (nat_lit 381, ho377 P) ::
  (nat_lit 397, ho393 P) ::
  (nat_lit 398, ho394 P) ::
  (nat_lit 408, ho404 P) ::
  (nat_lit 409, ho405 P) ::
  (nat_lit 415, ho411 P) ::
  (nat_lit 416, ho412 P) ::
  (nat_lit 420, ho416 P) ::
  (nat_lit 421, ho417 P) ::
  (nat_lit 425, ho421 P) ::
  (nat_lit 426, ho422 P) ::
  (nat_lit 432, ho428 P) ::
  (nat_lit 433, ho429 P) ::
  (nat_lit 439, ho435 P) ::
  (nat_lit 440, ho436 P) ::
  (nat_lit 444, ho440 P) ::
  (nat_lit 445, ho441 P) ::
  (nat_lit 448, ho444 P) ::
  (nat_lit 458, ho454 P) ::
  (nat_lit 459, ho455 P) ::
  (nat_lit 467, ho463 P) ::
  (nat_lit 473, ho469 P) ::
  (nat_lit 474, ho470 P) ::
  (nat_lit 480, ho476 P) ::
  (nat_lit 481, ho477 P) ::
  (nat_lit 483, ho479 P) ::
  (nat_lit 484, ho480 P) ::
  (nat_lit 492, ho488 P) ::
  (nat_lit 493, ho489 P) ::
  (nat_lit 499, ho495 P) ::
  (nat_lit 500, ho496 P) ::
  (nat_lit 506, ho502 P) ::
  (nat_lit 507, ho503 P) ::
  (nat_lit 513, ho509 P) ::
  (nat_lit 514, ho510 P) ::
  (nat_lit 520, ho516 P) ::
  (nat_lit 521, ho517 P) ::
  (nat_lit 525, ho521 P) ::
  (nat_lit 526, ho522 P) ::
  []
def at0 : List Addr := 2 :: 3 :: 20 :: 21 :: 24 :: 30 :: 31 :: 37 :: 43 :: 44 :: 49 :: 55 :: 56 :: 61 :: 71 :: 72 :: 74 :: 75 :: 80 :: 86 :: 87 :: 92 :: 98 :: 99 :: 104 :: 110 :: 111 :: 116 :: 122 :: 123 :: 128 :: 134 :: 135 :: 140 :: 146 :: 147 :: 152 :: 158 :: 159 :: 164 :: 177 :: 178 :: 183 :: 189 :: 190 :: 195 :: 201 :: 202 :: 210 :: 211 :: 217 :: 218 :: 224 :: 225 :: 231 :: 232 :: 238 :: 239 :: 245 :: 246 :: 252 :: 253 :: 259 :: 260 :: 266 :: 267 :: 273 :: 274 :: 280 :: 281 :: 287 :: 288 :: 291 :: 301 :: 302 :: 308 :: 309 :: 315 :: 316 :: 322 :: 323 :: 336 :: 337 :: 380 :: 381 :: 397 :: 398 :: 408 :: 409 :: 415 :: 416 :: 420 :: 421 :: 425 :: 426 :: 432 :: 433 :: 439 :: 440 :: 444 :: 445 :: 448 :: 458 :: 459 :: 467 :: 473 :: 474 :: 480 :: 481 :: 483 :: 484 :: 492 :: 493 :: 499 :: 500 :: 506 :: 507 :: 513 :: 514 :: 520 :: 521 :: 525 :: 526 :: []
def loose0 : List Str := "_wall" :: "StowError" :: "NoName" :: "NoSize" :: "Broken" :: "NoGive" :: "NoHandle" :: "NoPiece" :: "NoCell" :: "NoAsk" :: "NoBound" :: "NoRoom" :: "BadLine" :: "NoLine" :: "NoTurn" :: "MARKS" :: "check_ask" :: "check_plain_ask" :: "mark_of" :: "long_of" :: "live_of" :: "LEAST_LIVE" :: "can_begin" :: "bad_of_piece" :: "looked" :: "fresh_room" :: "laid" :: "piece_at" :: "live_at" :: "Keeper" :: "all_whole" :: "begin_of" :: "whole_ones" :: "free_slots" :: "cut_for" :: "with_slot" :: "has_live" :: "Shelves" :: "_law_cell_at" :: "_law_whole" :: "_law_alike" :: "_law_asked" :: "_law_no_room_of" :: []
theorem at0_eq (P : Params) : at0 = (heap0 P).map (·.1) := by kernel_rfl
abbrev seen0 (s : Shared) : Bool := PySem.W.recOk (PySem.W.RowW.records (PySem.W.OpenRow.toRowW (PySem.Challenge.rw_stow_k33_a_shelf).row)) s
theorem left0 : PySem.W.LeftO PySem.Challenge.pw_stow_k33_a_shelf (PySem.W.view PySem.Challenge.pw_stow_k33_a_shelf [51]) loose0 seen0 (fun s => at0.map s.heap.get?) (fun w => (heap0 w.params).map fun p => some p.2) 5617 :=
  PySem.W.LeftO.of_pieces (H₁ := fun P => PySem.W.absHeap (treeG52 P) 527 ⟨[], [], [], 0, [], [], false, #[], [], 0, false, false, false, 0, [2000, 10, 10], false, 0, true, [], [], 0, false⟩) (gs₁ := #[]) (d₁ := ⟨0, 0, 0, 0⟩) (k₁ := 877) (m₀ := 11) (ann := (some (.ref 6))) open0 (fun w => by kernel_rfl) run0 rfl (fun w => funext fun os => by kernel_rfl)
end Stow
set_option Elab.async false
set_option linter.all false
set_option maxRecDepth 100000
/-! THE HAND LAYER, for ints, bools, texts, own classes, LISTS and tuples (index, slices, in, append, pop ..), calls, loops. Paste it whole ahead of your own text; what your proof does not reach may be deleted. -/
namespace L2
open PySem PySem.Spec PyProof.Rows

/-- a key: an int or a str -/
abbrev Key := Sum Int Str
def keyIs : Key → Value → Bool
  | .inl k, v => Value.isInt k v
  | .inr x, v => Value.isStrOf x v
def keyH (w : World) : Key → Int
  | .inl k => hashInt k
  | .inr x => hashStr w x
theorem keyIs_shape : ∀ {k : Key} {v : Value}, keyIs k v = true → (∃ i t, k = Sum.inl i ∧ v = Value.int i t) ∨ (∃ x t, k = Sum.inr x ∧ v = Value.str x t)
  | .inl i, v, h => by
    obtain ⟨t, e⟩ := Value.isInt_shape (k := i) (v := v) h
    exact .inl ⟨i, t, rfl, e⟩
  | .inr x, v, h => by
    obtain ⟨t, e⟩ := Value.isStrOf_shape (x := x) (v := v) h
    exact .inr ⟨x, t, rfl, e⟩
theorem key_ll (a b : Int) : decide ((Sum.inl a : Key) = Sum.inl b) = (a == b) := by
  by_cases e : a = b
  · subst e; simp
  · have h : ¬ (Sum.inl a : Key) = Sum.inl b := fun q => e (Sum.inl.inj q)
    rw [decide_eq_false h]
    exact (beq_eq_false_iff_ne.mpr e).symm
theorem key_rr (a b : Str) : decide ((Sum.inr a : Key) = Sum.inr b) = decide (a = b) := by
  by_cases e : a = b
  · subst e; simp
  · have h : ¬ (Sum.inr a : Key) = Sum.inr b := fun q => e (Sum.inr.inj q)
    rw [decide_eq_false h, decide_eq_false e]
theorem key_lr (a : Int) (b : Str) : decide ((Sum.inl a : Key) = Sum.inr b) = false := decide_eq_false (fun q => nomatch q)
theorem key_rl (a : Str) (b : Int) : decide ((Sum.inr a : Key) = Sum.inl b) = false := decide_eq_false (fun q => nomatch q)

def mixKind (prog : Program) (w : World) : PySem.KeyKind prog w Key where
  is := keyIs
  hash := keyH w
  inj := fun v a b ha hb => by
    rcases keyIs_shape ha with ⟨i, t, rfl, rfl⟩ | ⟨x, t, rfl, rfl⟩
    · rcases keyIs_shape hb with ⟨j, u, rfl, e⟩ | ⟨y, u, rfl, e⟩
      · injection e with e1 _; rw [e1]
      · exact nomatch e
    · rcases keyIs_shape hb with ⟨j, u, rfl, e⟩ | ⟨y, u, rfl, e⟩
      · exact nomatch e
      · injection e with e1 _; rw [e1]
  byValue := fun k v h => by
    rcases keyIs_shape h with ⟨i, t, rfl, rfl⟩ | ⟨x, t, rfl, rfl⟩ <;> rfl
  pyHash := fun hv h => by
    rcases keyIs_shape hv with ⟨i, t, rfl, rfl⟩ | ⟨x, t, rfl, rfl⟩
    · exact wpAny_pyHash_int h
    · exact wpAny_pyHash_str h
  eqBool := fun hu hv h => by
    rcases keyIs_shape hu with ⟨i, t, rfl, rfl⟩ | ⟨x, t, rfl, rfl⟩
    · rcases keyIs_shape hv with ⟨j, u, rfl, rfl⟩ | ⟨y, u, rfl, rfl⟩
      · rw [key_ll] at h; exact wpAny_eqBool_int h
      · rw [key_lr] at h; exact SeqAt.EqAt.int_str i t y u _ _ _ _ h
    · rcases keyIs_shape hv with ⟨j, u, rfl, rfl⟩ | ⟨y, u, rfl, rfl⟩
      · rw [key_rl] at h; exact SeqAt.EqAt.str_int x t j u _ _ _ _ h
      · rw [key_rr] at h; exact wpAny_eqBool_str h
  «strs» := fun k x t v h => by
    rcases keyIs_shape h with ⟨i, u, rfl, e⟩ | ⟨y, u, rfl, e⟩
    · exact nomatch e
    · injection e with e1 _
      subst e1
      cases v <;> rfl

end L2

namespace L2
open PySem PySem.Spec PyProof.Rows

/-- a value, without the heap -/
inductive V where
  | non | bl (b : Bool) | int (i : Int) | str (x : Str) | byt (b : Array UInt8) | flt (b : UInt64) | ref (a : Addr) | ty (n : String)
  deriving DecidableEq

def RelV : V → Value → Prop
  | .non, u => u = Value.none
  | .bl b, u => u = Value.bool b
  | .int i, u => ∃ t, u = Value.int i t
  | .str x, u => ∃ t, u = Value.str x t
  | .byt b, u => ∃ t, u = Value.bytes b t
  | .flt b, u => ∃ t, u = Value.float b t
  | .ref a, u => u = Value.ref a
  | .ty n, u => u = Value.type n

abbrev Vals : List V → List Value → Prop := Paired RelV
theorem Vals.length {xs : List V} {us : List Value} (r : Vals xs us) : xs.length = us.length := Paired.length r
theorem Vals.get : ∀ {xs : List V} {us : List Value} {i : Nat} {x : V}, Vals xs us → xs[i]? = some x → ∃ u, us[i]? = some u ∧ RelV x u
  | _, _, _, _, .nil, e => by simp at e
  | _, _, 0, _, .cons r _, e => by simp at e; subst e; exact ⟨_, rfl, r⟩
  | _, _, i + 1, x, .cons _ t, e => by
    obtain ⟨u, h1, h2⟩ := Vals.get (i := i) (x := x) t (by simpa using e)
    exact ⟨u, by simpa using h1, h2⟩
theorem Vals.set {x : V} {u : Value} (r : RelV x u) : ∀ {xs : List V} {us : List Value} (i : Nat), Vals xs us → Vals (xs.set i x) (us.set i u)
  | _, _, _, .nil => .nil
  | _, _, 0, .cons _ t => .cons r t
  | _, _, i + 1, .cons q t => .cons q (Vals.set r i t)
theorem Vals.append : ∀ {xs ys : List V} {us ws : List Value}, Vals xs us → Vals ys ws → Vals (xs ++ ys) (us ++ ws)
  | _, _, _, _, .nil, s => s
  | _, _, _, _, .cons r t, s => .cons r (Vals.append t s)
theorem Vals.take : ∀ {xs : List V} {us : List Value} (n : Nat), Vals xs us → Vals (xs.take n) (us.take n)
  | _, _, 0, _ => .nil
  | _, _, _ + 1, .nil => .nil
  | _, _, n + 1, .cons r t => .cons r (Vals.take n t)
theorem Vals.drop : ∀ {xs : List V} {us : List Value} (n : Nat), Vals xs us → Vals (xs.drop n) (us.drop n)
  | _, _, 0, r => r
  | _, _, _ + 1, .nil => .nil
  | _, _, n + 1, .cons _ t => Vals.drop n t
theorem Vals.none_of : ∀ {xs : List V} {us : List Value} {i : Nat}, Vals xs us → xs[i]? = none → us[i]? = none := fun {xs us i} r e => by
  have h1 := r.length
  have h2 : xs.length ≤ i := List.getElem?_eq_none_iff.mp e
  exact List.getElem?_eq_none_iff.mpr (by omega)

def RelO : Option V → Option Value → Prop
  | some v, some u => RelV v u
  | none, none => True
  | _, _ => False
def KV {κ : Type} : List (κ × V) → List (κ × Value) → Prop := Paired fun (p : κ × V) (q : κ × Value) => p.1 = q.1 ∧ RelV p.2 q.2

/-- a key of a dict (00_mix): an int or a text -/
def kV : Key → V
  | .inl i => .int i
  | .inr x => .str x

/-- what stands at a tracked address -/
inductive HO where
  /-- a list -/
  | lst (xs : List V)
  /-- a tuple (never changes) -/
  | tup (xs : List V)
  /-- a dict whose keys are ints and texts; one whose keys are tuples of ints and texts (the empty one is both) -/
  | dK (kvs : List (Key × V)) | dT (kvs : List (List Key × V))
  /-- a set of ints: its members, its size -/
  | set (S : Int → Bool) (n : Nat)
  /-- an instance of the class at C, its dict at dx, its attributes -/
  | ins (C dx : Addr) (fs : List (Str × V))
  /-- the dict of the instance at x -/
  | own (x : Addr)
  /-- the dict of an exception -/
  | xd (fs : List (Str × V))
  /-- a bound method, f of x -/
  | met (f x : Addr)
  /-- a range object lo, lo + 1, .. below hi -/
  | rng (lo hi : Int)
  /-- a thing that is known to the object (the script; a dict while a loop walks it): read, never written while it is so -/
  | frz (o : Obj) (u : HO)
  /-- a code object's table -/
  | tbl (ps : Array Value)
  /-- any other thing, by what is true of its one object (a def of one's own: SetO a S n := HO.ext fun h => ..) -/
  | ext (φ : Heap → Prop)

abbrev Hp := Addr → Option HO
def upd (H : Hp) (a : Addr) (o : HO) : Hp := fun b => if b = a then some o else H b
theorem upd_same {H : Hp} {a : Addr} {o : HO} : upd H a o a = some o := by unfold upd; rw [if_pos rfl]
theorem upd_ne {H : Hp} {a b : Addr} {o : HO} (h : b ≠ a) : upd H a o b = H b := by unfold upd; rw [if_neg h]
theorem ne_of_none {H : Hp} {a b : Addr} {o : HO} (h : H a = some o) (h' : H b = none) : a ≠ b := by
  intro e; subst e; rw [h] at h'; cases h'

section
variable (P : Program) (w : World)
def ObjOk (H : Hp) (h : Heap) (a : Addr) : HO → Prop
  | .lst xs => xs.length ≤ sizeLine ∧ ∃ (its : List Value) (n : Nat), Vals xs its ∧ h.get? a = some { cls := .type "list", data := .seq its.toArray n }
  | .tup xs => xs.length ≤ sizeLine ∧ ∃ its : List Value, Vals xs its ∧ IsTup h a its.toArray
  | .dK kvs => kvs.length ≤ sizeLine ∧ (a == sysModules) = false ∧ ∃ vs, KV kvs vs ∧ h.DictOf (mixKind P w) a vs
  | .dT kvs => kvs.length ≤ sizeLine ∧ (a == sysModules) = false ∧ ∃ xs : List (List Key × Addr × Value),
      Paired (fun (p : List Key × V) (q : List Key × Addr × Value) => p.1 = q.1 ∧ H q.2.1 = some (.tup (p.1.map kV)) ∧ RelV p.2 q.2.2) kvs xs ∧
      ∃ o es ep, h.get? a = some o ∧ o.ExactDict ∧ o.data = .dict es ep ∧ es.toList = xs.map (entryOfKey (tupleKind (mixKind P w))) ∧ (xs.map (·.1)).Nodup
  | .set S n => h.SetOf (intKind P w) a S n
  | .ins C dx fs => H dx = some (.own a) ∧ fs.length ≤ 1000 ∧ dx ≠ a ∧ h.get? a = some (PySem.W.instObj C dx) ∧
      ∃ mA, h.Ns1 dx mA ∧ (∀ f, RelO (fs.lookup f) (mA f)) ∧ PySem.Within mA (fs.map (·.1))
  | .own _ => ∃ o, h.get? a = some o
  | .xd fs => ∃ mA, h.Ns1 a mA ∧ ∀ f, RelO (fs.lookup f) (mA f)
  | .rng lo hi => ∃ t u v, h.get? a = some { cls := .type "range", data := .fields #[.int lo t, .int hi u, .int 1 v] }
  | .frz o u => h.get? a = some o ∧ ObjOk H h a u
  | .tbl ps => h.get? a = some { cls := .none, data := .fields ps }
  | .met f x => h.get? a = some (PySem.W.methodObj (.ref f) (.ref x))
  | .ext φ => φ h ∧ (∃ o, h.get? a = some o) ∧ ∀ h1 h2 : Heap, φ h1 → (∀ o, h1.get? a = some o → h2.get? a = some o) → φ h2
/-- the abstract heap is held -/
def HOk (H : Hp) (h : Heap) : Prop := ∀ a o, H a = some o → ObjOk P w H h a o
end

section
variable {P : Program} {w : World} {H H' : Hp} {h h' : Heap} {a : Addr} {o : HO}
theorem ObjOk.lt (x : ObjOk P w H h a o) : a < h.objs.size := by
  cases o with
  | lst xs => obtain ⟨_, _, _, _, e⟩ := x; exact Heap.lt_size e
  | tup xs => obtain ⟨_, _, _, p⟩ := x; exact p.lt
  | dK kvs => obtain ⟨_, _, _, _, o, _, _, e, _⟩ := x; exact Heap.lt_size e
  | dT kvs => obtain ⟨_, _, _, _, o, _, _, e, _⟩ := x; exact Heap.lt_size e
  | set S n => obtain ⟨o, _, _, _, e, _⟩ := x; exact Heap.lt_size e
  | ins C dx fs => obtain ⟨_, _, _, e, _⟩ := x; exact Heap.lt_size e
  | own y => obtain ⟨_, e⟩ := x; exact Heap.lt_size e
  | xd fs => obtain ⟨_, ⟨_, _, _, e, _⟩, _⟩ := x; exact Heap.lt_size e
  | rng lo hi => obtain ⟨_, _, _, e⟩ := x; exact Heap.lt_size e
  | frz ob u => obtain ⟨e, _⟩ := x; exact Heap.lt_size e
  | tbl ps => exact Heap.lt_size (show h.get? a = some _ from x)
  | met f y => exact Heap.lt_size (show h.get? a = some _ from x)
  | ext φ => obtain ⟨_, ⟨_, e⟩, _⟩ := x; exact Heap.lt_size e
theorem Paired.mapP {α β : Type} {F G : α → β → Prop} : ∀ {l₁ : List α} {l₂ : List β}, Paired F l₁ l₂ → (∀ a b, F a b → G a b) → Paired G l₁ l₂
  | _, _, .nil, _ => .nil
  | _, _, .cons r t, f => .cons (f _ _ r) (Paired.mapP t f)
/-- what an object's description leans on: its own object, its own dict, the tuples -/
theorem ObjOk.stay (x : ObjOk P w H h a o) (k : ∀ b u, (b = a ∨ H b = some (.own a)) → h.get? b = some u → h'.get? b = some u)
    (ho : ∀ b, H b = some (.own a) → H' b = some (.own a)) (ht : ∀ b xs, H b = some (.tup xs) → H' b = some (.tup xs)) : ObjOk P w H' h' a o := by
  induction o with
  | lst xs => obtain ⟨z, its, n, r, e⟩ := x; exact ⟨z, its, n, r, k _ _ (.inl rfl) e⟩
  | tup xs => obtain ⟨z, its, r, ob, e, c⟩ := x; exact ⟨z, its, r, ob, k _ _ (.inl rfl) e, c⟩
  | dK kvs => obtain ⟨z, y, vs, r, ob, es, ep, e, c⟩ := x; exact ⟨z, y, vs, r, ob, es, ep, k _ _ (.inl rfl) e, c⟩
  | dT kvs =>
    obtain ⟨z, y, xs, r, ob, es, ep, e, c⟩ := x
    exact ⟨z, y, xs, Paired.mapP r fun p q z => ⟨z.1, ht _ _ z.2.1, z.2.2⟩, ob, es, ep, k _ _ (.inl rfl) e, c⟩
  | set S n => obtain ⟨ob, es, ep, t, e, c⟩ := x; exact ⟨ob, es, ep, t, k _ _ (.inl rfl) e, c⟩
  | ins C dx fs =>
    obtain ⟨d, z, ne, e, mA, ⟨od, es, ep, e2, c⟩, r⟩ := x
    exact ⟨ho _ d, z, ne, k _ _ (.inl rfl) e, mA, ⟨od, es, ep, k _ _ (.inr d) e2, c⟩, r⟩
  | own y => obtain ⟨ob, e⟩ := x; exact ⟨ob, k _ _ (.inl rfl) e⟩
  | xd fs => obtain ⟨mA, ⟨od, es, ep, e, c⟩, r⟩ := x; exact ⟨mA, ⟨od, es, ep, k _ _ (.inl rfl) e, c⟩, r⟩
  | rng lo hi => obtain ⟨t, u, v, e⟩ := x; exact ⟨t, u, v, k _ _ (.inl rfl) e⟩
  | frz ob u ih => obtain ⟨e, q⟩ := x; exact ⟨k _ _ (.inl rfl) e, ih q⟩
  | tbl ps =>
    have e : h.get? a = some { cls := .none, data := .fields ps } := x
    show h'.get? a = some { cls := .none, data := .fields ps }
    exact k a _ (.inl rfl) e
  | met f y =>
    have e : h.get? a = some (PySem.W.methodObj (.ref f) (.ref y)) := x
    show h'.get? a = some (PySem.W.methodObj (.ref f) (.ref y))
    exact k a _ (.inl rfl) e
  | ext φ => obtain ⟨p, ⟨o, e⟩, st⟩ := x; exact ⟨st _ _ p fun o q => k _ _ (.inl rfl) q, ⟨o, k _ _ (.inl rfl) e⟩, st⟩
theorem HOk.lt (x : HOk P w H h) (e : H a = some o) : a < h.objs.size := (x a o e).lt
theorem HOk.fresh (x : HOk P w H h) (e : h.objs.size ≤ a) : H a = none := by
  cases q : H a with
  | none => rfl
  | some u => exact absurd (Nat.lt_of_lt_of_le (x.lt q) e) (Nat.lt_irrefl _)
/-- every object of the heap is kept -/
theorem HOk.kept (x : HOk P w H h) (k : ∀ b u, h.get? b = some u → h'.get? b = some u) : HOk P w H h' := fun a o e =>
  (x a o e).stay (fun b u _ q => k b u q) (fun _ q => q) fun _ _ q => q
/-- a new object is laid and tracked -/
theorem HOk.laid (x : HOk P w H h) (k : ∀ b u, h.get? b = some u → h'.get? b = some u) (hp : h.objs.size ≤ a) (new : ObjOk P w (upd H a o) h' a o) : HOk P w (upd H a o) h' := fun b u e => by
  have hn := x.fresh hp
  by_cases hb : b = a
  · subst hb; rw [upd_same] at e; cases e; exact new
  · rw [upd_ne hb] at e
    exact (x b u e).stay (fun c v _ q => k c v q) (fun c q => by rw [upd_ne (ne_of_none q hn)]; exact q) fun c xs q => by rw [upd_ne (ne_of_none q hn)]; exact q
end

/-- what may be read as u: it is u, or a known u -/
def Rd (H : Hp) (a : Addr) (u : HO) : Prop := H a = some u ∨ ∃ o, H a = some (.frz o u)
theorem Rd.of {H : Hp} {a : Addr} {u : HO} (h : H a = some u) : Rd H a u := .inl h
theorem Rd.ok {P : Program} {w : World} {H : Hp} {h : Heap} {a : Addr} {u : HO} (r : Rd H a u) (x : HOk P w H h) : ObjOk P w H h a u := by
  rcases r with r | ⟨o, r⟩
  · exact x a u r
  · obtain ⟨_, q⟩ := x a _ r
    exact q
/-- what may be written -/
def Mut : Option HO → Prop
  | some (.lst _) => True
  | some (.dK _) => True
  | some (.dT _) => True
  | some (.set _ _) => True
  | some (.ins _ _ _) => True
  | some (.ext _) => True
  | _ => False
section
variable {P : Program} {w : World} {H : Hp} {h h' : Heap} {x e : Addr} {o' : HO}
/-- the object at e is changed: x itself, or the dict of the instance x -/
theorem HOk.write (ok : HOk P w H h) (mu : Mut (H x)) (he : e = x ∨ H e = some (.own x)) (k : ∀ b u, b ≠ e → h.get? b = some u → h'.get? b = some u) (heo : ∃ u, h'.get? e = some u)
    (new : ObjOk P w (upd H x o') h' x o') : HOk P w (upd H x o') h' := fun b u q => by
  have nown : ∀ c y, H c = some (.own y) → c ≠ x := fun c y r z => by subst z; rw [r] at mu; exact mu
  have ntup : ∀ c xs, H c = some (.tup xs) → c ≠ x := fun c xs r z => by subst z; rw [r] at mu; exact mu
  by_cases hb : b = x
  · subst hb; rw [upd_same] at q; cases q; exact new
  · rw [upd_ne hb] at q
    by_cases hbe : b = e
    · have q' : H b = some (.own x) := by
        rcases he with z | z
        · exact absurd (hbe.trans z) hb
        · rw [hbe]; exact z
      rw [q] at q'; cases q'
      obtain ⟨v, hv⟩ := heo
      exact ⟨v, by rw [hbe]; exact hv⟩
    · refine (ok b u q).stay (fun c v hc r => k c v ?_ r) (fun c r => by rw [upd_ne (nown c b r)]; exact r) fun c xs r => by rw [upd_ne (ntup c xs r)]; exact r
      rcases hc with rfl | hc
      · exact hbe
      · rintro rfl
        rcases he with z | z
        · exact nown c b hc z
        · rw [hc] at z; cases z; exact hb rfl
end

/-! ### kept unless tracked; of the frames at fs (the callers') the slots may change (an exception that passes writes there); of the records at ex (iterators) nothing is said -/
structure Un (fs ex : List Addr) (H H' : Hp) (h h' : Heap) : Prop where
  keep : ∀ b o, h.get? b = some o → H b = none → b ∉ fs → b ∉ ex → h'.get? b = some o
  slot : ∀ b o, h.get? b = some o → H b = none → b ∈ fs → b ∉ ex → ∃ sl, h'.get? b = some { o with slots := sl }
  free : ∀ b o, h.get? b = some o → H b = none → b ∉ ex → H' b = none
  there : ∀ b o, h.get? b = some o → b ∉ ex → ∃ o', h'.get? b = some o'
  tups : ∀ b xs, H b = some (.tup xs) → H' b = some (.tup xs)
  frzs : ∀ b o u, H b = some (.frz o u) → H' b = some (.frz o u)
  tbls : ∀ b ps, H b = some (.tbl ps) → ∃ more, H' b = some (.tbl (ps ++ more))
section
variable {fs fs' ex ex' : List Addr} {H H1 H2 : Hp} {h h1 h2 h' : Heap} {a x e : Addr} {o : HO}
theorem Un.any (u : Un fs ex H H1 h h1) {b : Addr} {ob : Obj} (q : h.get? b = some ob) (n : H b = none) (hx : b ∉ ex) : ∃ sl, h1.get? b = some { ob with slots := sl } := by
  by_cases hb : b ∈ fs
  · exact u.slot b ob q n hb hx
  · exact ⟨ob.slots, u.keep b ob q n hb hx⟩
theorem Un.trans (a : Un fs ex H H1 h h1) (b : Un fs ex H1 H2 h1 h2) : Un fs ex H H2 h h2 where
  keep := fun c ob q n hc hx => b.keep c ob (a.keep c ob q n hc hx) (a.free c ob q n hx) hc hx
  slot := fun c ob q n hc hx => by
    obtain ⟨sl, e1⟩ := a.slot c ob q n hc hx
    obtain ⟨sl', e2⟩ := b.slot c _ e1 (a.free c ob q n hx) hc hx
    exact ⟨sl', e2⟩
  free := fun c ob q n hx => by
    obtain ⟨o', e1⟩ := a.there c ob q hx
    exact b.free c o' e1 (a.free c ob q n hx) hx
  there := fun c ob q hx => by
    obtain ⟨o', e1⟩ := a.there c ob q hx
    exact b.there c o' e1 hx
  tups := fun c xs q => b.tups c xs (a.tups c xs q)
  frzs := fun c ob xs q => b.frzs c ob xs (a.frzs c ob xs q)
  tbls := fun c ps q => by
    obtain ⟨m1, e1⟩ := a.tbls c ps q
    obtain ⟨m2, e2⟩ := b.tbls c _ e1
    exact ⟨m1 ++ m2, by rw [e2, Array.append_assoc]⟩
theorem Un.kept (k : ∀ b u, h.get? b = some u → h'.get? b = some u) : Un fs ex H H h h' :=
  ⟨fun b ob q _ _ _ => k b ob q, fun b ob q _ _ _ => ⟨ob.slots, k b ob q⟩, fun _ _ _ n _ => n, fun b ob q _ => ⟨ob, k b ob q⟩, fun _ _ q => q, fun _ _ _ q => q, fun _ ps q => ⟨#[], by rw [q]; simp⟩⟩
theorem Un.refl : Un fs ex H H h h := Un.kept fun _ _ q => q
theorem Un.laid (k : ∀ b u, h.get? b = some u → h'.get? b = some u) (hp : h.objs.size ≤ a) (hn : H a = none) : Un fs ex H (upd H a o) h h' where
  keep := fun b u q _ _ _ => k b u q
  slot := fun b u q _ _ _ => ⟨u.slots, k b u q⟩
  free := fun b u q n _ => by rw [upd_ne (Nat.ne_of_lt (Nat.lt_of_lt_of_le (Heap.lt_size q) hp))]; exact n
  there := fun b u q _ => ⟨u, k b u q⟩
  tups := fun b xs q => by rw [upd_ne (ne_of_none q hn)]; exact q
  frzs := fun b u xs q => by rw [upd_ne (ne_of_none q hn)]; exact q
  tbls := fun b ps q => ⟨#[], by rw [upd_ne (ne_of_none q hn), q]; simp⟩
theorem Un.write (mu : Mut (H x)) (he : e = x ∨ H e = some (.own x)) (k : ∀ b u, b ≠ e → h.get? b = some u → h'.get? b = some u) (heo : ∃ u, h'.get? e = some u) : Un fs ex H (upd H x o) h h' := by
  have hx : ∀ b, H b = none → b ≠ x := fun b n z => by subst z; rw [n] at mu; exact mu
  have hb : ∀ b, H b = none → b ≠ e := fun b n z => by
    subst z
    rcases he with r | r
    · exact hx b n r
    · rw [n] at r; cases r
  have hm : ∀ b u, H b = some u → ¬ Mut (some u) → b ≠ x := fun b u q nm z => by subst z; rw [q] at mu; exact nm mu
  refine ⟨fun b u q n _ _ => k b u (hb b n) q, fun b u q n _ _ => ⟨u.slots, k b u (hb b n) q⟩, fun b u q n _ => by rw [upd_ne (hx b n)]; exact n, fun b u q _ => ?_,
    fun b xs q => by rw [upd_ne (hm b _ q fun z => z)]; exact q, fun b u xs q => by rw [upd_ne (hm b _ q fun z => z)]; exact q, fun b ps q => ⟨#[], by rw [upd_ne (hm b _ q fun z => z), q]; simp⟩⟩
  by_cases hbe : b = e
  · subst hbe; exact heo
  · exact ⟨u, k b u hbe q⟩
theorem Un.mono (u : Un fs ex H H1 h h1) (hs : ∀ b ∈ fs, b ∈ fs') (hx : ∀ b ∈ ex, b ∈ ex') : Un fs' ex' H H1 h h1 :=
  ⟨fun b ob q n hb he => u.keep b ob q n (fun z => hb (hs b z)) fun z => he (hx b z), fun _ _ q n _ he => u.any q n fun z => he (hx _ z), fun b ob q n he => u.free b ob q n fun z => he (hx b z), fun b ob q he => u.there b ob q fun z => he (hx b z), u.tups, u.frzs, u.tbls⟩
end

/-! ### the heap without what is tracked -/
def trk (h : Heap) (H : Hp) : List Addr := (List.range h.objs.size).filter fun a => (H a).isSome
def hidT (h : Heap) (H : Hp) : Heap := PySem.W.hideAll h (trk h H)
theorem hidT_size (h : Heap) (H : Hp) : (hidT h H).objs.size = h.objs.size := PySem.W.hideAll_size _ _
theorem hidT_get {h : Heap} {H : Hp} {b : Addr} {o : Obj} (e : h.get? b = some o) (n : H b = none) : (hidT h H).get? b = some o :=
  PySem.W.hideAll_get _ e fun hm => by
    have q : (H b).isSome = true := (List.mem_filter.mp hm).2
    rw [n] at q; simp at q
theorem of_hidT {h : Heap} {H : Hp} {b : Addr} {o : Obj} (e : (hidT h H).get? b = some o) : h.get? b = some o ∧ H b = none := by
  have e' : h.get? b = some o := PySem.W.of_hideAll (trk h H) e
  refine ⟨e', ?_⟩
  cases q : H b with
  | none => rfl
  | some x =>
    have hm : b ∈ trk h H := List.mem_filter.mpr ⟨List.mem_range.mpr (Heap.lt_size e'), by simp [q]⟩
    have z : (hidT h H).get? b = none := PySem.W.hideAll_none (trk h H) hm
    rw [z] at e; cases e

/-! ### OpenK's ledger, filled with every new object but one -/
def allNews (g h : Heap) (L : Addr) : List (Addr × Obj) := (List.range h.objs.size).filterMap fun a => if a = L ∨ (g.get? a).isSome = true then none else (h.get? a).map fun o => (a, o)
def rest (g h : Heap) (L d : Addr) : List (Addr × Obj) := (allNews g h L).filter fun p => decide (p.1 ≠ d)
end L2

namespace L2
open PySem PySem.Spec PyProof.Rows

/-- the module's facts, over the base: the heap at the law's entry without what is tracked there -/
structure Mod (K : PySem.W.Frag) (mg : Str → Option Value) (base : Heap) : Prop where
  kin : K.In base
  glob : base.Ns mainGlobals mg
  blt : ∃ mb, base.Ns builtinsNs mb ∧ ∀ x : Str, x ≠ "__name__" → mb x = bootBuiltins x
  nolimit : base.NoLimit

/-- the context: a def's body (or a comprehension's block) running. base: fixed through the whole law; s₀, H₀: the entry; outer: the frames whose slots others may change (a def's callers); stack: all frames that run;
   ex: iterators that were made ahead of the entry and are walked here (a comprehension's); fn: the names whose cells were made at the entry (a def: all; a comprehension's block: its own); calm: not within an except suite; pn: pins that every state bears; xe: what is wanted of an exception that leaves the code -/
structure Cx where
  prog : Program
  w : World
  K : PySem.W.Frag
  mg : Str → Option Value
  base : Heap
  A : Around
  N : List Str
  s₀ : Shared
  H₀ : Hp
  env : Env
  outer : List Env
  stack : List Env
  ex : List Addr
  fn : Str → Bool
  calm : Bool
  pn : List (Addr × Obj)
  xe : Value → Shared → Prop
/-- the callers' frames -/
def frs (l : List Env) : List Addr := l.filterMap (·.frame)
abbrev Cx.fs (X : Cx) : List Addr := frs X.outer

def Vis (sc : Scope) (x : Str) : Prop := sc.names.lookup x = some .local ∨ sc.names.lookup x = some .cell ∨ sc.names.lookup x = some .free
def Loc (sc : Scope) (x : Str) : Prop := sc.names.lookup x = some .local ∨ sc.names.lookup x = some .cell
def Look (env : Env) (h : Heap) (m : Str → Option Value) (x : Str) (u : Value) : Prop :=
  (env.kindOf x = some .local ∧ m x = some u) ∨ ((env.kindOf x = some .cell ∨ env.kindOf x = some .free) ∧ ∃ c, env.cells.lookup x = some c ∧ h.IsCell c (some u))

structure Cx.Ok (X : Cx) : Prop where
  mod : Mod X.K X.mg X.base
  kind : X.env.scope.kind = .function
  glob : X.env.globals = mainGlobals
  blt : X.env.builtins = builtinsNs
  above : X.s₀.heap.objs.size ≤ X.env.locals
  inj : ∀ x y c, X.env.cells.lookup x = some c → X.env.cells.lookup y = some c → x = y
  has : ∀ x, (X.env.kindOf x = some .cell ∨ X.env.kindOf x = some .free) → ∃ c, X.env.cells.lookup x = some c
  cab : ∀ x c, X.fn x = true → X.env.cells.lookup x = some c → X.s₀.heap.objs.size ≤ c
  hd : X.calm = true → X.A.handled = none
  frames : X.A.frames = some X.stack
  stk : X.stack = X.outer ∨ (X.stack = X.env :: X.outer ∧ X.env.frame = some X.env.locals)
  exf : ∀ b ∈ X.ex, b ≠ X.env.locals ∧ ∀ x c, X.env.cells.lookup x = some c → c ≠ b
  bs : ∀ b o, X.base.get? b = some o → X.s₀.heap.get? b = some o ∧ X.H₀ b = none
  bsz : X.base.objs.size ≤ X.s₀.heap.objs.size
  noex : ∀ b o, X.base.get? b = some o → b ∉ X.ex
  exfs : ∀ b ∈ X.ex, b ∉ X.fs
  funs : X.s₀.heap.FunFrames X.base X.outer
  frf : ∀ b ∈ X.fs, X.H₀ b = none

structure Inv (X : Cx) (pins : List (Addr × Obj)) (σ : List (Option V)) (H : Hp) (s : Shared) : Prop where
  ok : X.Ok
  os : s.os = X.s₀.os
  bare : AllBare s.gens
  base : Un X.fs X.ex X.H₀ H X.s₀.heap s.heap
  loc : ∃ m, s.heap.Ns X.env.locals m ∧ ∀ (i : Nat) (x : Str) (v : V), X.N[i]? = some x → σ[i]? = some (some v) → Vis X.env.scope x → ∃ u, RelV v u ∧ Look X.env s.heap m x u
  cell : ∀ x c, X.env.cells.lookup x = some c → ∃ v, s.heap.IsCell c v
  free : H X.env.locals = none
  freeC : ∀ x c, X.env.cells.lookup x = some c → H c = none
  pin : ∀ p ∈ X.pn ++ pins, s.heap.get? p.1 = some p.2 ∧ H p.1 = none ∧ p.1 ≠ X.env.locals ∧ p.1 ∉ X.fs ∧ ∀ v, p.2.data ≠ .cell v
  hok : HOk X.prog X.w H s.heap
  len : σ.length = X.N.length

section
variable {X : Cx} {pins : List (Addr × Obj)} {σ : List (Option V)} {H H' : Hp} {s : Shared} {h' : Heap}

theorem Cx.Ok.nofr (ok : X.Ok) {b : Addr} {o : Obj} (e : X.base.get? b = some o) : b ∉ X.fs := fun hb => by
  have := (ok.funs.mem hb).1
  rw [e] at this; cases this
theorem Inv.bs (I : Inv X pins σ H s) : ∀ b o, X.base.get? b = some o → s.heap.get? b = some o ∧ H b = none := fun b o e =>
  ⟨I.base.keep b o (I.ok.bs b o e).1 (I.ok.bs b o e).2 (I.ok.nofr e) (I.ok.noex b o e), I.base.free b o (I.ok.bs b o e).1 (I.ok.bs b o e).2 (I.ok.noex b o e)⟩
theorem Inv.bk (I : Inv X pins σ H s) : ∀ b o, X.base.get? b = some o → s.heap.get? b = some o := fun b o e => (I.bs b o e).1
theorem Inv.mod (I : Inv X pins σ H s) : Mod X.K X.mg X.base := I.ok.mod
theorem Inv.kIn (I : Inv X pins σ H s) : X.K.In s.heap := I.ok.mod.kin.keeps I.bk
theorem Inv.nolimit (I : Inv X pins σ H s) : s.heap.NoLimit := I.ok.mod.nolimit.keeps I.bk
/-- the frame over the base: for OpenK's rules (K.In X.base is I.mod.kin) -/
theorem Inv.fr (I : Inv X pins σ H s) : ∃ m, Fr X.base X.env.locals s.heap m :=
  let ⟨m, hn, _⟩ := I.loc
  ⟨m, hn, I.bk, Nat.le_trans I.ok.bsz I.ok.above⟩
theorem Inv.lt (I : Inv X pins σ H s) : X.env.locals < s.heap.objs.size := let ⟨_, hn, _⟩ := I.loc; hn.lt
theorem Inv.sz (I : Inv X pins σ H s) : X.s₀.heap.objs.size ≤ s.heap.objs.size := Nat.le_trans I.ok.above (Nat.le_of_lt I.lt)
theorem Inv.nofs (I : Inv X pins σ H s) {a : Addr} (h : s.heap.objs.size ≤ a) : a ∉ X.fs := fun hb => by
  obtain ⟨_, o, ho, _⟩ := I.ok.funs.mem hb
  exact absurd (Nat.lt_of_lt_of_le (Heap.lt_size ho) (Nat.le_trans I.sz h)) (Nat.lt_irrefl _)
theorem Inv.cne (I : Inv X pins σ H s) : ∀ x c, X.env.cells.lookup x = some c → c ≠ X.env.locals := fun x c e z => by
  obtain ⟨v, o, ho, hd⟩ := I.cell x c e
  obtain ⟨m, ⟨o', es, ep, ho', hd', _⟩, _⟩ := I.loc
  rw [z, ho'] at ho; cases ho; rw [hd'] at hd; cases hd
theorem Inv.funs (I : Inv X pins σ H s) : s.heap.FunFrames X.base X.outer := by
  have all : ∀ (l : List Env), (∀ b ∈ frs l, b ∈ X.fs) → X.s₀.heap.FunFrames X.base l → s.heap.FunFrames X.base l := by
    intro l
    induction l with
    | nil => intro _ _; trivial
    | cons env r ih =>
      intro hs hl
      obtain ⟨hk, ⟨L, o, hf, hn, ho, hd⟩, hr⟩ := hl
      have hL : L ∈ X.fs := hs L (by unfold frs; rw [List.filterMap_cons, hf]; exact List.mem_cons_self)
      obtain ⟨sl, e⟩ := I.base.slot L o ho (I.ok.frf L hL) hL fun z => I.ok.exfs L z hL
      exact ⟨hk, ⟨L, _, hf, hn, e, hd⟩, ih (fun b hb => hs b (by unfold frs; rw [List.filterMap_cons, hf]; exact List.mem_cons_of_mem _ hb)) hr⟩
  exact all X.outer (fun _ hb => hb) I.ok.funs

/-- the frames that run, for a call -/
theorem Inv.stack (I : Inv X pins σ H s) : s.heap.FunFrames X.base X.stack := by
  rcases I.ok.stk with e | ⟨e, hf⟩
  · rw [e]; exact I.funs
  · rw [e]
    obtain ⟨m, hn, _⟩ := I.loc
    refine .cons (by rw [I.ok.kind]; decide) hf hn ?_ I.funs
    exact Heap.get?_none_of_le (Nat.le_trans I.ok.bsz I.ok.above)
theorem Inv.stkSub (I : Inv X pins σ H s) : ∀ b ∈ frs X.stack, b ∈ X.env.locals :: X.fs := fun b hb => by
  rcases I.ok.stk with e | ⟨e, hf⟩
  · rw [e] at hb; exact List.mem_cons_of_mem _ hb
  · rw [e] at hb
    unfold frs at hb
    rw [List.filterMap_cons, hf] at hb
    exact hb
theorem Inv.stkFree (I : Inv X pins σ H s) : ∀ b ∈ frs X.stack, H b = none := fun b hb => by
  rcases List.mem_cons.mp (I.stkSub b hb) with e | hb
  · rw [e]; exact I.free
  · obtain ⟨_, o, ho, _⟩ := I.ok.funs.mem hb
    exact I.base.free b o ho (I.ok.frf b hb) fun z => I.ok.exfs b z hb

/-- THE STEP: the untracked objects but the frame and the records at ch are kept (the callers' frames up to slots), the frame's map is kept, the new abstract heap is held -/
theorem Inv.step {g' : Array GenState} {t' : Nat} {d' : Drawn} {ch : List Addr} (I : Inv X pins σ H s)
    (hch : ∀ b ∈ ch, (b ∈ X.ex ∨ X.s₀.heap.objs.size ≤ b) ∧ b ≠ X.env.locals ∧ (∀ x c, X.env.cells.lookup x = some c → c ≠ b) ∧ ∀ p ∈ X.pn ++ pins, p.1 ≠ b)
    (keep : ∀ b o, b ≠ X.env.locals → b ∉ X.fs → b ∉ ch → s.heap.get? b = some o → H b = none → h'.get? b = some o)
    (slot : ∀ b o, b ≠ X.env.locals → b ∈ X.fs → b ∉ ch → s.heap.get? b = some o → H b = none → ∃ sl, h'.get? b = some { o with slots := sl }) (free : ∀ b o, b ∉ ch → s.heap.get? b = some o → H b = none → H' b = none)
    (there : ∀ b o, b ∉ ch → s.heap.get? b = some o → ∃ o', h'.get? b = some o')
    (tups : ∀ b xs, H b = some (.tup xs) → H' b = some (.tup xs)) (frzs : ∀ b o u, H b = some (.frz o u) → H' b = some (.frz o u)) (tbls : ∀ b ps, H b = some (.tbl ps) → ∃ more, H' b = some (.tbl (ps ++ more)))
    (ns : ∀ m, s.heap.Ns X.env.locals m → h'.Ns X.env.locals m) (hok : HOk X.prog X.w H' h') (hg : AllBare g') :
    Inv X pins σ H' { s with heap := h', gens := g', drawn := d', toks := t' } := by
  have neL : ∀ b o, X.s₀.heap.get? b = some o → b ≠ X.env.locals := fun b o e => Nat.ne_of_lt (Nat.lt_of_lt_of_le (Heap.lt_size e) I.ok.above)
  have neC : ∀ b o, X.s₀.heap.get? b = some o → b ∉ X.ex → b ∉ ch := fun b o e hx hb => by
    rcases (hch b hb).1 with z | z
    · exact hx z
    · exact absurd (Nat.lt_of_lt_of_le (Heap.lt_size e) z) (Nat.lt_irrefl _)
  have cellK : ∀ x c, X.env.cells.lookup x = some c → ∀ v, s.heap.IsCell c v → h'.IsCell c v := fun x c e v ⟨o, ho, hd⟩ => by
    have nch : c ∉ ch := fun z => (hch c z).2.2.1 x c e rfl
    by_cases hc : c ∈ X.fs
    · obtain ⟨sl, q⟩ := slot c o (I.cne x c e) hc nch ho (I.freeC x c e)
      exact ⟨_, q, hd⟩
    · exact ⟨o, keep c o (I.cne x c e) hc nch ho (I.freeC x c e), hd⟩
  refine ⟨I.ok, I.os, hg, ⟨fun b o e n hb hx => ?_, fun b o e n hb hx => ?_, fun b o e n hx => ?_, fun b o e hx => ?_, fun b xs e => tups b xs (I.base.tups b xs e), fun b o xs e => frzs b o xs (I.base.frzs b o xs e), fun b ps e => ?_⟩, ?_, fun x c e => ?_, ?_, fun x c e => ?_, fun p hp => ?_, hok, I.len⟩
  · exact keep b o (neL b o e) hb (neC b o e hx) (I.base.keep b o e n hb hx) (I.base.free b o e n hx)
  · obtain ⟨sl, e1⟩ := I.base.slot b o e n hb hx
    obtain ⟨sl', e2⟩ := slot b _ (neL b o e) hb (neC b o e hx) e1 (I.base.free b o e n hx)
    exact ⟨sl', e2⟩
  · obtain ⟨o', e1⟩ := I.base.there b o e hx
    exact free b o' (neC b o e hx) e1 (I.base.free b o e n hx)
  · obtain ⟨o', e1⟩ := I.base.there b o e hx
    exact there b o' (neC b o e hx) e1
  · obtain ⟨m1, e1⟩ := I.base.tbls b ps e
    obtain ⟨m2, e2⟩ := tbls b _ e1
    exact ⟨m1 ++ m2, by rw [e2, Array.append_assoc]⟩
  · obtain ⟨m, hn, hl⟩ := I.loc
    refine ⟨m, ns m hn, fun i x v e1 e2 e3 => ?_⟩
    obtain ⟨u, r, l⟩ := hl i x v e1 e2 e3
    refine ⟨u, r, ?_⟩
    rcases l with l | ⟨k, c, e, z⟩
    · exact .inl l
    · exact .inr ⟨k, c, e, cellK x c e _ z⟩
  · obtain ⟨v, z⟩ := I.cell x c e
    exact ⟨v, cellK x c e v z⟩
  · obtain ⟨m, ⟨o, _, _, ho, _⟩, _⟩ := I.loc
    exact free _ o (fun z => (hch _ z).2.1 rfl) ho I.free
  · obtain ⟨v, o, ho, hd⟩ := I.cell x c e
    exact free c o (fun z => (hch c z).2.2.1 x c e rfl) ho (I.freeC x c e)
  · obtain ⟨e, n, ne, nf, d⟩ := I.pin p hp
    have nch : p.1 ∉ ch := fun z => (hch p.1 z).2.2.2 p hp rfl
    exact ⟨keep p.1 p.2 ne nf nch e n, free p.1 p.2 nch e n, ne, nf, d⟩
/-- .. where the frame's own object is kept too -/
theorem Inv.un {t' : Nat} (I : Inv X pins σ H s) (u : Un X.fs [] H H' s.heap h') (hok : HOk X.prog X.w H' h') : Inv X pins σ H' { s with heap := h', toks := t' } := by
  obtain ⟨m, ⟨o, es, ep, ho, r⟩, _⟩ := id I.loc
  obtain ⟨sl, hL⟩ := u.any ho I.free (by simp)
  exact I.step (g' := s.gens) (d' := s.drawn) (ch := []) (fun _ z => nomatch z) (fun b o _ hb _ e n => u.keep b o e n hb (by simp)) (fun b o _ hb _ e n => u.slot b o e n hb (by simp)) (fun b o _ e n => u.free b o e n (by simp)) (fun b o _ e => u.there b o e (by simp)) u.tups u.frzs u.tbls (fun m' hm => by
    obtain ⟨o', es', ep', ho', r'⟩ := hm
    rw [ho] at ho'; cases ho'
    exact ⟨_, es', ep', hL, r'⟩) hok I.bare
/-- behind a call (or a comprehension's block): the slots of this frame may have changed too, the records at ch may have turned -/
theorem Inv.call {g' : Array GenState} {t' : Nat} {d' : Drawn} {ch : List Addr} (I : Inv X pins σ H s) (u : Un (frs X.stack) ch H H' s.heap h') (hok : HOk X.prog X.w H' h') (hg : AllBare g')
    (hch : ∀ b ∈ ch, (b ∈ X.ex ∨ X.s₀.heap.objs.size ≤ b) ∧ b ≠ X.env.locals ∧ (∀ x c, X.env.cells.lookup x = some c → c ≠ b) ∧ ∀ p ∈ X.pn ++ pins, p.1 ≠ b) :
    Inv X pins σ H' { s with heap := h', gens := g', drawn := d', toks := t' } := by
  obtain ⟨m, ⟨o, es, ep, ho, r⟩, _⟩ := id I.loc
  obtain ⟨sl, hL⟩ := u.any ho I.free fun z => (hch _ z).2.1 rfl
  exact I.step (ch := ch) hch (fun b o hL hb hc e n => u.keep b o e n (fun z => (List.mem_cons.mp (I.stkSub b z)).elim hL hb) hc) (fun b o _ _ hc e n => u.any e n hc) (fun b o hc e n => u.free b o e n hc) (fun b o hc e => u.there b o e hc) u.tups u.frzs u.tbls (fun m' hm => by
    obtain ⟨o', es', ep', ho', r'⟩ := hm
    rw [ho] at ho'; cases ho'
    exact ⟨_, es', ep', hL, r'⟩) hok hg
/-- an untracked record of ours (an iterator) has turned -/
theorem Inv.turned {t' : Nat} {it : Addr} (I : Inv X pins σ H s) (k : ∀ b o, b ≠ it → s.heap.get? b = some o → h'.get? b = some o) (hn : H it = none) (hL : it ≠ X.env.locals)
    (h1 : it ∈ X.ex ∨ X.s₀.heap.objs.size ≤ it) (h2 : ∀ x c, X.env.cells.lookup x = some c → c ≠ it) (h3 : ∀ p ∈ X.pn ++ pins, p.1 ≠ it) : Inv X pins σ H { s with heap := h', toks := t' } := by
  have nit : ∀ b u, H b = some u → b ≠ it := fun b u e z => by rw [z, hn] at e; cases e
  refine I.step (g' := s.gens) (d' := s.drawn) (ch := [it]) (fun b hb => ?_) (fun b o _ _ hc e _ => k b o (fun z => hc (by simp [z])) e) (fun b o _ _ hc e _ => ⟨o.slots, k b o (fun z => hc (by simp [z])) e⟩) (fun _ _ _ _ n => n)
    (fun b o hc e => ⟨o, k b o (fun z => hc (by simp [z])) e⟩) (fun _ _ e => e) (fun _ _ _ e => e) (fun b ps e => ⟨#[], by rw [e]; simp⟩) (fun m hm => ?_) (fun b u e => ?_) I.bare
  · have e : b = it := by simpa using hb
    subst e
    exact ⟨h1, hL, h2, h3⟩
  · obtain ⟨o, es, ep, ho, r⟩ := hm
    exact ⟨o, es, ep, k _ o (Ne.symm hL) ho, r⟩
  · refine (I.hok b u e).stay (fun c v hc q => k c v ?_ q) (fun _ q => q) fun _ _ q => q
    rcases hc with z | z
    · rw [z]; exact nit b u e
    · exact nit c _ z
theorem Inv.tok (I : Inv X pins σ H s) (t : Nat) : Inv X pins σ H { s with toks := t } := I.un (h' := s.heap) (t' := t) Un.refl I.hok
/-- all objects kept -/
theorem Inv.kept {t' : Nat} (I : Inv X pins σ H s) (k : ∀ b u, s.heap.get? b = some u → h'.get? b = some u) : Inv X pins σ H { s with heap := h', toks := t' } := I.un (Un.kept k) (I.hok.kept k)
/-- a new object laid and tracked -/
theorem Inv.laid {a : Addr} {o : HO} {t' : Nat} (I : Inv X pins σ H s) (k : ∀ b u, s.heap.get? b = some u → h'.get? b = some u) (hp : s.heap.objs.size ≤ a) (new : ObjOk X.prog X.w (upd H a o) h' a o) :
    Inv X pins σ (upd H a o) { s with heap := h', toks := t' } := I.un (Un.laid k hp (I.hok.fresh hp)) (I.hok.laid k hp new)
/-- an object written -/
theorem Inv.write {x e : Addr} {o : HO} {t' : Nat} (I : Inv X pins σ H s) (mu : Mut (H x)) (he : e = x ∨ H e = some (.own x)) (k : ∀ b u, b ≠ e → s.heap.get? b = some u → h'.get? b = some u) (heo : ∃ u, h'.get? e = some u)
    (new : ObjOk X.prog X.w (upd H x o) h' x o) : Inv X pins σ (upd H x o) { s with heap := h', toks := t' } := I.un (Un.write mu he k heo) (I.hok.write mu he k heo new)
theorem Inv.pins_of {pins' : List (Addr × Obj)} (I : Inv X pins σ H s) (h : ∀ p ∈ pins', s.heap.get? p.1 = some p.2 ∧ H p.1 = none ∧ p.1 ≠ X.env.locals ∧ p.1 ∉ X.fs ∧ ∀ v, p.2.data ≠ .cell v) : Inv X pins' σ H s :=
  ⟨I.ok, I.os, I.bare, I.base, I.loc, I.cell, I.free, I.freeC, fun p hp => (List.mem_append.mp hp).elim (fun z => I.pin p (List.mem_append_left _ z)) (h p), I.hok, I.len⟩

theorem nodup_ix {N : List Str} (hN : N.Nodup) {i j : Nat} {x : Str} (a : N[i]? = some x) (b : N[j]? = some x) : i = j := by
  obtain ⟨h1, e1⟩ := List.getElem?_eq_some_iff.mp a
  obtain ⟨h2, e2⟩ := List.getElem?_eq_some_iff.mp b
  exact (List.getElem_inj hN).mp (e1.trans e2.symm)

/-- a name is stored; what changed -/
theorem store_ok2 {M : Model} {A : Around} {E : Value → Shared → Prop} {i : Nat} {x : Str} {v : V} {u : Value} {Q : Unit → Shared → Prop} (I : Inv X pins σ H s) (hN : X.N.Nodup) (hi : X.N[i]? = some x) (hx : Loc X.env.scope x) (r : RelV v u)
    (h : ∀ s', Inv X pins (σ.set i (some v)) H s' → (∃ a, Heap.SameBut a s.heap s'.heap ∧ (a = X.env.locals ∨ X.env.cells.lookup x = some a)) → Q () s') (hf : X.fn x = true ∨ X.env.scope.names.lookup x = some .local := by first | exact .inl rfl | exact .inr rfl | assumption) : wpAny M A (storeName X.env x u) Q E s := by
  obtain ⟨m, hn, hl⟩ := id I.loc
  have hcls : (X.env.scope.kind == .class || (X.env.scope.kind == .module && X.env.locals != X.env.globals)) = false := by rw [I.ok.kind]; rfl
  have hiσ : i < σ.length := by rw [I.len]; exact (List.getElem?_eq_some_iff.mp hi).1
  have cne := I.cne
  have tracked : ∀ {a : Addr} {h' : Heap}, (∃ o, s.heap.get? a = some o ∧ H a = none) → Heap.SameBut a s.heap h' → HOk X.prog X.w H h' := fun {a h'} ha hs b ob e => by
    obtain ⟨_, _, hfree⟩ := ha
    refine (I.hok b ob e).stay (fun c w' hc q => (hs.2 c ?_).trans q) (fun _ q => q) fun _ _ q => q
    rintro rfl
    rcases hc with rfl | hc
    · rw [hfree] at e; cases e
    · rw [hfree] at hc; cases hc
  rcases hx with hk | hk
  · refine wpAny_storeName_local hk hn (fun h' hn' hs => ?_) hcls
    obtain ⟨oL, _, _, hoL, _⟩ := id hn
    refine h _ ⟨I.ok, I.os, I.bare, ⟨fun b o e n hb hx => ?_, fun b o e n hb hx => ?_, I.base.free, fun b o e hx => ?_, I.base.tups, I.base.frzs, I.base.tbls⟩, ⟨_, hn', fun j y v' e1 e2 e3 => ?_⟩, fun y c e => ?_, I.free, I.freeC, fun p hp => ?_, tracked ⟨oL, hoL, I.free⟩ hs, by simpa using I.len⟩ ⟨_, hs, .inl rfl⟩
    · exact (hs.2 b (Nat.ne_of_lt (Nat.lt_of_lt_of_le (Heap.lt_size e) I.ok.above))).trans (I.base.keep b o e n hb hx)
    · obtain ⟨sl, e1⟩ := I.base.slot b o e n hb hx
      exact ⟨sl, (hs.2 b (Nat.ne_of_lt (Nat.lt_of_lt_of_le (Heap.lt_size e) I.ok.above))).trans e1⟩
    · obtain ⟨o', e1⟩ := I.base.there b o e hx
      exact ⟨o', (hs.2 b (Nat.ne_of_lt (Nat.lt_of_lt_of_le (Heap.lt_size e) I.ok.above))).trans e1⟩
    · by_cases hj : j = i
      · subst hj
        rw [hi] at e1; cases e1
        rw [List.getElem?_set_self hiσ] at e2
        cases e2
        exact ⟨u, r, .inl ⟨hk, by simp⟩⟩
      · rw [List.getElem?_set_ne (Ne.symm hj)] at e2
        obtain ⟨u', r', q⟩ := hl j y v' e1 e2 e3
        refine ⟨u', r', ?_⟩
        rcases q with ⟨k, e⟩ | ⟨k, c, e, z⟩
        · refine .inl ⟨k, ?_⟩
          have : y ≠ x := fun e => hj (nodup_ix hN e1 (e ▸ hi))
          simp [this, e]
        · exact .inr ⟨k, c, e, z.sameBut hs (cne y c e)⟩
    · obtain ⟨w', z⟩ := I.cell y c e
      exact ⟨w', z.sameBut hs (cne y c e)⟩
    · obtain ⟨e, n, ne, nf, d⟩ := I.pin p hp
      exact ⟨(hs.2 p.1 ne).trans e, n, ne, nf, d⟩
  · have hfn : X.fn x = true := by
      rcases hf with z | z
      · exact z
      · rw [z] at hk; cases hk
    obtain ⟨c, hc⟩ := I.ok.has x (.inl hk)
    obtain ⟨w', z⟩ := I.cell x c hc
    refine wpAny_storeName_cell I.ok.kind hk hc z (fun h' hc' hs => ?_)
    obtain ⟨oc, hoc, hocd⟩ := id z
    refine h { s with heap := h' } ⟨I.ok, I.os, I.bare, ⟨fun b o e n hb hx => ?_, fun b o e n hb hx => ?_, I.base.free, fun b o e hx => ?_, I.base.tups, I.base.frzs, I.base.tbls⟩, ⟨m, hn.sameBut hs (Ne.symm (cne x c hc)), fun j y v' e1 e2 e3 => ?_⟩, fun y c' e => ?_, I.free, I.freeC, fun p hp => ?_, tracked ⟨oc, hoc, I.freeC x c hc⟩ hs, by simpa using I.len⟩ ⟨c, hs, .inr hc⟩
    · exact (hs.2 b (Nat.ne_of_lt (Nat.lt_of_lt_of_le (Heap.lt_size e) (I.ok.cab x c hfn hc)))).trans (I.base.keep b o e n hb hx)
    · obtain ⟨sl, e1⟩ := I.base.slot b o e n hb hx
      exact ⟨sl, (hs.2 b (Nat.ne_of_lt (Nat.lt_of_lt_of_le (Heap.lt_size e) (I.ok.cab x c hfn hc)))).trans e1⟩
    · obtain ⟨o', e1⟩ := I.base.there b o e hx
      exact ⟨o', (hs.2 b (Nat.ne_of_lt (Nat.lt_of_lt_of_le (Heap.lt_size e) (I.ok.cab x c hfn hc)))).trans e1⟩
    · by_cases hj : j = i
      · subst hj
        rw [hi] at e1; cases e1
        rw [List.getElem?_set_self hiσ] at e2
        cases e2
        exact ⟨u, r, .inr ⟨.inl hk, c, hc, hc'⟩⟩
      · rw [List.getElem?_set_ne (Ne.symm hj)] at e2
        obtain ⟨u', r', q⟩ := hl j y v' e1 e2 e3
        refine ⟨u', r', ?_⟩
        rcases q with q | ⟨k, c', e, z'⟩
        · exact .inl q
        · refine .inr ⟨k, c', e, z'.sameBut hs ?_⟩
          rintro rfl
          exact hj (nodup_ix hN e1 (I.ok.inj _ _ _ e hc ▸ hi))
    · by_cases hcc : c' = c
      · subst hcc; exact ⟨_, hc'⟩
      · obtain ⟨w2, z2⟩ := I.cell y c' e
        exact ⟨w2, z2.sameBut hs hcc⟩
    · obtain ⟨e, n, ne, nf, d⟩ := I.pin p hp
      refine ⟨(hs.2 p.1 ?_).trans e, n, ne, nf, d⟩
      intro q
      rw [q, hoc] at e
      have q' : oc = p.2 := Option.some.inj e
      exact d w' (by rw [← q']; exact hocd)
theorem store_ok {M : Model} {A : Around} {E : Value → Shared → Prop} {i : Nat} {x : Str} {v : V} {u : Value} {Q : Unit → Shared → Prop} (I : Inv X pins σ H s) (hN : X.N.Nodup) (hi : X.N[i]? = some x) (hx : Loc X.env.scope x) (r : RelV v u)
    (h : ∀ s', Inv X pins (σ.set i (some v)) H s' → Q () s') (hf : X.fn x = true ∨ X.env.scope.names.lookup x = some .local := by first | exact .inl rfl | exact .inr rfl | assumption) : wpAny M A (storeName X.env x u) Q E s :=
  store_ok2 I hN hi hx r (fun s' I' _ => h s' I') hf
/-- behind a call or a block, the state as it is -/
theorem Inv.call' {s' : Shared} {ch : List Addr} (I : Inv X pins σ H s) (ho : s'.os = s.os) (u : Un (frs X.stack) ch H H' s.heap s'.heap) (hok : HOk X.prog X.w H' s'.heap) (hg : AllBare s'.gens)
    (hch : ∀ b ∈ ch, (b ∈ X.ex ∨ X.s₀.heap.objs.size ≤ b) ∧ b ≠ X.env.locals ∧ (∀ x c, X.env.cells.lookup x = some c → c ≠ b) ∧ ∀ p ∈ X.pn ++ pins, p.1 ≠ b) : Inv X pins σ H' s' := by
  obtain ⟨h', g', d', t', o'⟩ := s'
  have e : o' = s.os := ho
  subst e
  exact I.call (g' := g') (t' := t') (d' := d') u hok hg hch
end

/-! ### the judgements -/
/-- an exception: its class, its own dict's address (where it has one), the abstract heap behind it -/
abbrev XK := Value → Option Addr → Hp → Prop
abbrev St := List (Option V)
abbrev VK := V → Hp → Prop
/-- an expression's reading; a test's; an argument list's -/
abbrev TE := St → Hp → VK → Prop
abbrev TT := St → Hp → (Bool → Hp → Prop) → Prop
abbrev TA := St → Hp → (List V → Hp → Prop) → Prop
/-- what is wanted behind a statement -/
structure Ends where
  nx : St → Hp → Prop
  rt : VK
  bk : St → Hp → Prop := fun _ _ => False
  ct : St → Hp → Prop := fun _ _ => False
abbrev TS := Ends → St → Hp → Prop

def EP (X : Cx) (pins : List (Addr × Obj)) (σ : St) (Q : VK) (u : Value) (s' : Shared) : Prop := ∃ v H', Inv X pins σ H' s' ∧ RelV v u ∧ Q v H'
def TP (X : Cx) (pins : List (Addr × Obj)) (σ : St) (Q : Bool → Hp → Prop) (b : Bool) (s' : Shared) : Prop := ∃ H', Inv X pins σ H' s' ∧ Q b H'
def AP (X : Cx) (pins : List (Addr × Obj)) (σ : St) (Q : List V → Hp → Prop) (us : List Value) (s' : Shared) : Prop := ∃ vs H', Inv X pins σ H' s' ∧ Vals vs us ∧ Q vs H'
def SP (X : Cx) (pins : List (Addr × Obj)) (D : Ends) (f : Flow) (s' : Shared) : Prop :=
  match f with
  | .next => ∃ σ' H', Inv X pins σ' H' s' ∧ D.nx σ' H'
  | .brk => ∃ σ' H', Inv X pins σ' H' s' ∧ D.bk σ' H'
  | .cont => ∃ σ' H', Inv X pins σ' H' s' ∧ D.ct σ' H'
  | .ret u => ∃ v σ' H', Inv X pins σ' H' s' ∧ RelV v u ∧ D.rt v H'

def PE (X : Cx) (e : Expr) (t : TE) : Prop :=
  ∀ (pins : List (Addr × Obj)) (s : Shared) (σ : St) (H : Hp) (Q : VK), Inv X pins σ H s → t σ H Q → wpAny (model X.prog X.w) X.A (eval e X.env) (EP X pins σ Q) X.xe s
def PT (X : Cx) (e : Expr) (t : TT) : Prop :=
  ∀ (pins : List (Addr × Obj)) (s : Shared) (σ : St) (H : Hp) (Q : Bool → Hp → Prop), Inv X pins σ H s → t σ H Q → wpAny (model X.prog X.w) X.A (isTrue e X.env (eval e X.env)) (TP X pins σ Q) X.xe s
/-- a test whatever its 'whole' is (and, or) -/
def PW (X : Cx) (e : Expr) (t : TT) : Prop :=
  ∀ (whole : Sem Value) (pins : List (Addr × Obj)) (s : Shared) (σ : St) (H : Hp) (Q : Bool → Hp → Prop), Inv X pins σ H s → t σ H Q → wpAny (model X.prog X.w) X.A (isTrue e X.env whole) (TP X pins σ Q) X.xe s
theorem PW.pt {X : Cx} {e : Expr} {t : TT} (h : PW X e t) : PT X e t := h _
/-- an argument list (no star), from the left -/
def PA (X : Cx) (es : List Expr) (t : TA) : Prop :=
  ∀ (pos : Pos) (pins : List (Addr × Obj)) (s : Shared) (σ : St) (H : Hp) (Q : List V → Hp → Prop), Inv X pins σ H s → t σ H Q → wpAny (model X.prog X.w) X.A (spliced (backTo pos (starEach es X.env))) (AP X pins σ Q) X.xe s
def PS (X : Cx) (st : Stmt) (t : TS) : Prop :=
  ∀ (pins : List (Addr × Obj)) (s : Shared) (σ : St) (H : Hp) (D : Ends), Inv X pins σ H s → t D σ H → wpAny (model X.prog X.w) X.A (exec st X.env) (SP X pins D) X.xe s
def PSs (X : Cx) (st : List Stmt) (t : TS) : Prop :=
  ∀ (pins : List (Addr × Obj)) (s : Shared) (σ : St) (H : Hp) (D : Ends), Inv X pins σ H s → t D σ H → wpAny (model X.prog X.w) X.A (execs st X.env) (SP X pins D) X.xe s
/-- weaken the end -/
theorem thn {α : Type} {t : Sem α} {Q Q' : α → Shared → Prop} {M : Model} {A : Around} {E : Value → Shared → Prop} {s : Shared} (h : wpAny M A t Q E s) (hQ : ∀ a s, Q a s → Q' a s) : wpAny M A t Q' E s := wpAny_mono h hQ fun _ _ x => x
end L2

namespace L2
open PySem PySem.Spec PyProof.Rows
section
variable {X : Cx}

/-! ### names and constants -/
def tVar (i : Nat) : TE := fun σ H Q => ∃ v, σ[i]? = some (some v) ∧ Q v H
def tC (v : V) : TE := fun _ H Q => Q v H
theorem pe_var {i : Nat} {x : Str} {pos : Pos} (hN : X.N[i]? = some x) (hv : Vis X.env.scope x) (hd : (x == ("__debug__" : Str)) = false := by decide) (hcd : (x == ("__classdict__" : Str)) = false := by decide) : PE X (.Name x pos) (tVar i) := by
  intro pins s σ H Q I h
  obtain ⟨v, e, h⟩ := h
  obtain ⟨m, hn, hl⟩ := I.loc
  obtain ⟨u, r, l⟩ := hl i x v hN e hv
  have fin : EP X pins σ Q u s := ⟨v, H, I, r, h⟩
  rcases l with ⟨hk, hm⟩ | ⟨hk, c, hc, hcell⟩
  · exact wpAny_Name (wpAny_loadName_local I.ok.kind hk hn hm fin) hd
  · rcases hk with hk | hk
    · exact wpAny_Name (wpAny_loadName_cell I.ok.kind hk hc hcell fin) hd
    · exact wpAny_Name (wpAny_loadName_free I.ok.kind hk hc hcell fin hcd) hd
theorem pe_int {i j pos} : PE X (.Constant (.int i) j pos) (tC (.int i)) := fun _ _ _ H _ I h => wpAny_Constant_int ⟨.int i, H, I.tok _, ⟨_, rfl⟩, h⟩
theorem pe_bl {b j pos} : PE X (.Constant (.bool b) j pos) (tC (.bl b)) := fun _ _ _ H _ I h => Constant_bool ⟨.bl b, H, I, rfl, h⟩
theorem pe_non {j pos} : PE X (.Constant .none j pos) (tC .non) := fun _ _ _ H _ I h => Constant_none ⟨.non, H, I, rfl, h⟩
theorem pe_str {x j pos} : PE X (.Constant (.str x) j pos) (tC (.str x)) := fun _ _ _ H _ I h => Calls.Constant_str ⟨.str x, H, I.tok _, ⟨_, rfl⟩, h⟩

/-- a global name of the def -/
def Gl (X : Cx) (x : Str) : Prop := X.env.kindOf x = some .globalImplicit
theorem ld_glob {E : Value → Shared → Prop} {pins : List (Addr × Obj)} {s : Shared} {σ : St} {H : Hp} {x : Str} {u : Value} {pos : Pos} {Q : Value → Shared → Prop} (I : Inv X pins σ H s) (hg : Gl X x) (hm : X.mg x = some u) (h : Q u s)
    (hd : (x == ("__debug__" : Str)) = false := by decide) : wpAny (model X.prog X.w) X.A (eval (.Name x pos) X.env) Q E s :=
  Calls.Name_function_global I.ok.kind hg (Calls.loadGlobal_global (by rw [I.ok.glob]; exact I.mod.glob.keeps I.bk) hm h) hd
theorem ld_blt {E : Value → Shared → Prop} {pins : List (Addr × Obj)} {s : Shared} {σ : St} {H : Hp} {x : Str} {u : Value} {pos : Pos} {Q : Value → Shared → Prop} (I : Inv X pins σ H s) (hg : Gl X x) (hm : X.mg x = none) (hv : bootBuiltins x = some u) (h : Q u s)
    (hn : x ≠ "__name__" := by decide) (hd : (x == ("__debug__" : Str)) = false := by decide) : wpAny (model X.prog X.w) X.A (eval (.Name x pos) X.env) Q E s := by
  obtain ⟨mb, h1, h2⟩ := I.mod.blt
  exact Calls.Name_function_global I.ok.kind hg (Calls.loadGlobal_builtin (by rw [I.ok.glob]; exact I.mod.glob.keeps I.bk) hm (by rw [I.ok.blt]; exact h1.keeps I.bk) ((h2 x hn).trans hv) h) hd
/-- a module's constant, a class, a function, as a value -/
theorem pe_glob {x : Str} {v : V} {u : Value} {pos : Pos} (hg : Gl X x) (hm : X.mg x = some u) (r : RelV v u) (hd : (x == ("__debug__" : Str)) = false := by decide) : PE X (.Name x pos) (tC v) :=
  fun _ _ _ H _ I h => ld_glob I hg hm ⟨v, H, I, r, h⟩ hd
theorem pe_bltn {x : Str} {v : V} {u : Value} {pos : Pos} (hg : Gl X x) (hm : X.mg x = none) (hv : bootBuiltins x = some u) (r : RelV v u) (hn : x ≠ "__name__" := by decide) (hd : (x == ("__debug__" : Str)) = false := by decide) : PE X (.Name x pos) (tC v) :=
  fun _ _ _ H _ I h => ld_blt I hg hm hv ⟨v, H, I, r, h⟩ hn hd

/-! ### arithmetic -/
variable {a b : Expr} {ta tb : TE} {pos : Pos}
/-! ### comparisons -/
/-- a comparison as a value, as a test -/
def tB (t : TE) : TT := fun σ H Q => t σ H fun x H1 => ∃ c, x = .bl c ∧ Q c H1
/-- an expression whose value is a bool, as a test -/
theorem pt_val {e : Expr} {t : TE} (h : PE X e t) (he : ∀ whole, isTrue e X.env whole = (do let v ← whole; standAt e.pos; holding [v] (truthy v)) := by intro _; rfl) : PT X e (tB t) := by
  intro pins s σ H Q I hw
  refine isTrue_plain (thn (h pins s σ H _ I hw) fun v s1 ⟨x, H1, I1, r1, q1⟩ => ?_) (he _)
  obtain ⟨d, rfl, q⟩ := q1
  cases r1
  exact wpAny_truthy_bool ⟨H1, I1, q⟩

/-! ### and, or, not -/
variable {tA tB' : TT} {rest : List Expr}
def tAnd (t u : TT) : TT := fun σ H Q => t σ H fun c H1 => if c = true then u σ H1 Q else Q false H1
def tOr (t u : TT) : TT := fun σ H Q => t σ H fun c H1 => if c = true then Q true H1 else u σ H1 Q
def tNot (t : TT) : TT := fun σ H Q => t σ H fun c H1 => Q (!c) H1
theorem pw_and1 (ha : PT X a tA) : PW X (.BoolOp .And [a] pos) tA := by
  intro wh pins s σ H Q I h
  refine isTrue_and (thn (ha pins s σ H Q I h) fun c s1 e => ?_)
  cases c with
  | true => exact isTrue_and_nil e
  | false => exact e
theorem pw_or1 (ha : PT X a tA) : PW X (.BoolOp .Or [a] pos) tA := by
  intro wh pins s σ H Q I h
  refine isTrue_or (thn (ha pins s σ H Q I h) fun c s1 e => ?_)
  cases c with
  | false => exact isTrue_or_nil e
  | true => exact e
theorem pw_and (ha : PT X a tA) (hb : PW X (.BoolOp .And (b :: rest) pos) tB') : PW X (.BoolOp .And (a :: b :: rest) pos) (tAnd tA tB') := by
  intro wh pins s σ H Q I h
  refine isTrue_and (thn (ha pins s σ H _ I h) fun c s1 ⟨H1, I1, q1⟩ => ?_)
  cases c with
  | true => exact hb wh pins s1 σ H1 Q I1 q1
  | false => exact ⟨H1, I1, q1⟩
theorem pw_or (ha : PT X a tA) (hb : PW X (.BoolOp .Or (b :: rest) pos) tB') : PW X (.BoolOp .Or (a :: b :: rest) pos) (tOr tA tB') := by
  intro wh pins s σ H Q I h
  refine isTrue_or (thn (ha pins s σ H _ I h) fun c s1 ⟨H1, I1, q1⟩ => ?_)
  cases c with
  | true => exact ⟨H1, I1, q1⟩
  | false => exact hb wh pins s1 σ H1 Q I1 q1
theorem pt_not (ha : PT X a tA) : PT X (.UnaryOp .Not a pos) (tNot tA) := by
  intro pins s σ H Q I h
  exact isTrue_not (ha pins s σ H (fun c H1 => Q (!c) H1) I h)
/-- .. as values (bools) -/
def tAndV (ta tb : TE) : TE := fun σ H Q => ta σ H fun x H1 => ∃ c, x = .bl c ∧ if c = true then tb σ H1 Q else Q (.bl false) H1
def tOrV (ta tb : TE) : TE := fun σ H Q => ta σ H fun x H1 => ∃ c, x = .bl c ∧ if c = true then Q (.bl true) H1 else tb σ H1 Q
def tNotV (ta : TE) : TE := fun σ H Q => ta σ H fun x H1 => ∃ c, x = .bl c ∧ Q (.bl (!c)) H1
theorem pe_one {op} {t : TE} (h : PE X a t) : PE X (.BoolOp op [a] pos) t := fun pins s σ H Q I hw => BoolOp_one (h pins s σ H Q I hw)
theorem pe_and (ha : PE X a ta) (hb : PE X (.BoolOp .And (b :: rest) pos) tb) : PE X (.BoolOp .And (a :: b :: rest) pos) (tAndV ta tb) := by
  intro pins s σ H Q I h
  refine BoolOp_and (thn (ha pins s σ H _ I h) fun v s1 ⟨x, H1, I1, r1, q1⟩ => ?_)
  obtain ⟨c, rfl, q1⟩ := q1
  cases r1
  refine wpAny_truthy_bool ?_
  cases c with
  | true => exact hb pins s1 σ H1 Q I1 q1
  | false => exact ⟨.bl false, H1, I1, rfl, q1⟩
theorem pe_or (ha : PE X a ta) (hb : PE X (.BoolOp .Or (b :: rest) pos) tb) : PE X (.BoolOp .Or (a :: b :: rest) pos) (tOrV ta tb) := by
  intro pins s σ H Q I h
  refine BoolOp_or (thn (ha pins s σ H _ I h) fun v s1 ⟨x, H1, I1, r1, q1⟩ => ?_)
  obtain ⟨c, rfl, q1⟩ := q1
  cases r1
  refine wpAny_truthy_bool ?_
  cases c with
  | false => exact hb pins s1 σ H1 Q I1 q1
  | true => exact ⟨.bl true, H1, I1, rfl, q1⟩
theorem pe_not (ha : PE X a ta) : PE X (.UnaryOp .Not a pos) (tNotV ta) := by
  intro pins s σ H Q I h
  refine UnaryOp_ (thn (ha pins s σ H _ I h) fun v s1 ⟨x, H1, I1, r1, q1⟩ => ?_)
  obtain ⟨c, rfl, q1⟩ := q1
  cases r1
  exact not_of (wpAny_truthy_bool ⟨.bl (!c), H1, I1, rfl, q1⟩)
/-- a if t else b -/
def tIf (t : TT) (ta tb : TE) : TE := fun σ H Q => t σ H fun c H1 => if c = true then ta σ H1 Q else tb σ H1 Q
end
end L2

namespace L2
open PySem PySem.Spec PyProof.Rows

/-! ### a list, a tuple that is read: tracked, frozen, or an object of the module -/
def SqL (K : PySem.W.Frag) (H : Hp) (a : Addr) (xs : List V) : Prop :=
  Rd H a (.lst xs) ∨
    ∃ (o : Obj) (its : Array Value) (n : Nat), K.lookup a = some o ∧ o.cls = .type "list" ∧ o.dict = none ∧ o.data = .seq its n ∧ its.size ≤ sizeLine ∧ Vals xs its.toList
def SqT (K : PySem.W.Frag) (H : Hp) (a : Addr) (xs : List V) : Prop :=
  Rd H a (.tup xs) ∨
    ∃ (o : Obj) (its : Array Value) (n : Nat), K.lookup a = some o ∧ o.cls = .type "tuple" ∧ o.data = .seq its n ∧ its.size ≤ sizeLine ∧ Vals xs its.toList
def absV : Value → Option V
  | .none => some .non
  | .bool b => some (.bl b)
  | .int i _ => some (.int i)
  | .str x _ => some (.str x)
  | .bytes b _ => some (.byt b)
  | .float b _ => some (.flt b)
  | .ref a => some (.ref a)
  | .type n => some (.ty n)
  | _ => none
theorem RelV.abs {x : V} {u : Value} (r : RelV x u) : absV u = some x := by
  cases x with
  | non => cases r; rfl
  | bl _ => cases r; rfl
  | int _ => obtain ⟨t, rfl⟩ := r; rfl
  | str _ => obtain ⟨t, rfl⟩ := r; rfl
  | byt _ => obtain ⟨t, rfl⟩ := r; rfl
  | flt _ => obtain ⟨t, rfl⟩ := r; rfl
  | ref _ => cases r; rfl
  | ty _ => cases r; rfl
theorem RelV.inj {x y : V} {u : Value} (r : RelV x u) (q : RelV y u) : x = y := Option.some.inj (r.abs.symm.trans q.abs)
theorem Vals.inj : ∀ {xs ys : List V} {us : List Value}, Vals xs us → Vals ys us → xs = ys
  | _, _, _, .nil, .nil => rfl
  | _, _, _, .cons r t, .cons r' t' => by rw [r.inj r', Vals.inj t t']
section
variable {X : Cx} {pins : List (Addr × Obj)} {σ : St} {H : Hp} {s : Shared} {a : Addr} {xs ys : List V}
theorem SqL.of {K : PySem.W.Frag} (h : H a = some (.lst xs)) : SqL K H a xs := .inl (.inl h)
theorem SqT.of {K : PySem.W.Frag} (h : H a = some (.tup xs)) : SqT K H a xs := .inl (.inl h)
theorem Inv.list (I : Inv X pins σ H s) (h : SqL X.K H a xs) : ∃ its : List Value, Vals xs its ∧ PlainL s.heap a its.toArray ∧ xs.length ≤ sizeLine := by
  rcases h with h | ⟨o, its, n, hk, hc, hd, hs, hz, r⟩
  · obtain ⟨z, its, n, r, e⟩ := h.ok I.hok
    exact ⟨its, r, ⟨_, n, e, rfl, rfl, rfl⟩, z⟩
  · refine ⟨its.toList, r, ⟨o, n, I.kIn a o hk, hc, hd, by simpa using hs⟩, ?_⟩
    have e := r.length
    simp only [Array.length_toList] at e
    omega
theorem Inv.tuple (I : Inv X pins σ H s) (h : SqT X.K H a xs) : ∃ its : List Value, Vals xs its ∧ IsTup s.heap a its.toArray ∧ xs.length ≤ sizeLine := by
  rcases h with h | ⟨o, its, n, hk, hc, hs, hz, r⟩
  · obtain ⟨z, its, r, p⟩ := h.ok I.hok
    exact ⟨its, r, p, z⟩
  · refine ⟨its.toList, r, ⟨o, I.kIn a o hk, hc, n, by simpa using hs⟩, ?_⟩
    have e := r.length
    simp only [Array.length_toList] at e
    omega
theorem Inv.list_inj (I : Inv X pins σ H s) (h : SqL X.K H a xs) (h' : SqL X.K H a ys) : xs = ys := by
  obtain ⟨its, r, ⟨o, n, e, _, _, d⟩, _⟩ := I.list h
  obtain ⟨its', r', ⟨o', n', e', _, _, d'⟩, _⟩ := I.list h'
  rw [e] at e'; cases e'
  rw [d] at d'
  injection d' with d1 _
  have : its = its' := by simpa using congrArg Array.toList d1
  subst this
  exact r.inj r'
end

/-! ### another wish about exceptions -/
abbrev Cx.wish (X : Cx) (E : Value → Shared → Prop) : Cx := { X with xe := E }
/-- no exception leaves -/
abbrev Cx.nox (X : Cx) : Cx := X.wish fun _ _ => False
theorem Cx.Ok.wish {X : Cx} (ok : X.Ok) (E : Value → Shared → Prop) : (X.wish E).Ok :=
  ⟨ok.mod, ok.kind, ok.glob, ok.blt, ok.above, ok.inj, ok.has, ok.cab, ok.hd, ok.frames, ok.stk, ok.exf, ok.bs, ok.bsz, ok.noex, ok.exfs, ok.funs, ok.frf⟩
theorem Cx.Ok.unwish {X : Cx} {E : Value → Shared → Prop} (ok : (X.wish E).Ok) : X.Ok :=
  ⟨ok.mod, ok.kind, ok.glob, ok.blt, ok.above, ok.inj, ok.has, ok.cab, ok.hd, ok.frames, ok.stk, ok.exf, ok.bs, ok.bsz, ok.noex, ok.exfs, ok.funs, ok.frf⟩
section
variable {X : Cx} {pins : List (Addr × Obj)} {σ : St} {H : Hp} {s : Shared} {E : Value → Shared → Prop}
theorem Inv.wish (I : Inv X pins σ H s) (E : Value → Shared → Prop) : Inv (X.wish E) pins σ H s := ⟨I.ok.wish E, I.os, I.bare, I.base, I.loc, I.cell, I.free, I.freeC, I.pin, I.hok, I.len⟩
theorem Inv.unwish (I : Inv (X.wish E) pins σ H s) : Inv X pins σ H s := ⟨I.ok.unwish, I.os, I.bare, I.base, I.loc, I.cell, I.free, I.freeC, I.pin, I.hok, I.len⟩
theorem SP.unwish {D : Ends} {f : Flow} {s' : Shared} (h : SP (X.wish E) pins D f s') : SP X pins D f s' := by
  cases f with
  | next => obtain ⟨σ', H', I, q⟩ := h; exact ⟨σ', H', I.unwish, q⟩
  | brk => obtain ⟨σ', H', I, q⟩ := h; exact ⟨σ', H', I.unwish, q⟩
  | cont => obtain ⟨σ', H', I, q⟩ := h; exact ⟨σ', H', I.unwish, q⟩
  | ret u => obtain ⟨v, σ', H', I, r, q⟩ := h; exact ⟨v, σ', H', I.unwish, r, q⟩
theorem PE.nox {e : Expr} {t : TE} (h : PE X.nox e t) : PE X e t := fun pins s σ H Q I hw =>
  wpAny_mono (h pins s σ H Q (I.wish _) hw) (fun _ _ ⟨v, H', I', r, q⟩ => ⟨v, H', I'.unwish, r, q⟩) fun _ _ z => False.elim z
theorem PT.nox {e : Expr} {t : TT} (h : PT X.nox e t) : PT X e t := fun pins s σ H Q I hw =>
  wpAny_mono (h pins s σ H Q (I.wish _) hw) (fun _ _ ⟨H', I', q⟩ => ⟨H', I'.unwish, q⟩) fun _ _ z => False.elim z
theorem PSs.nox {st : List Stmt} {t : TS} (h : PSs X.nox st t) : PSs X st t := fun pins s σ H D I hw =>
  wpAny_mono (h pins s σ H D (I.wish _) hw) (fun _ _ q => q.unwish) fun _ _ z => False.elim z
end

/-! ### blocks and small statements -/
section
variable {X : Cx} {st : Stmt} {rest : List Stmt} {t u : TS} {e : Expr} {te : TE} {pos : Pos}
def tNext : TS := fun D σ H => D.nx σ H
def tSeq (t u : TS) : TS := fun D σ H => t { D with nx := u D } σ H
theorem pss_nil : PSs X [] tNext := fun _ _ σ H _ I h => wpAny_execs_nil ⟨σ, H, I, h⟩
theorem pss_cons (h1 : PS X st t) (h2 : PSs X rest u) : PSs X (st :: rest) (tSeq t u) := by
  intro pins s σ H D I h
  refine wpAny_execs_cons (thn (h1 pins s σ H { D with nx := u D } I h) fun f s1 q => ?_)
  cases f with
  | next =>
    obtain ⟨σ', H', I', q⟩ := q
    exact h2 pins s1 σ' H' D I' q
  | ret v => exact q
  | brk => exact q
  | cont => exact q
theorem pss_one (h1 : PS X st t) : PSs X [st] t := by
  intro pins s σ H D I h
  refine wpAny_execs_cons (thn (h1 pins s σ H D I h) fun f s1 q => ?_)
  cases f with
  | next => exact wpAny_execs_nil q
  | ret v => exact q
  | brk => exact q
  | cont => exact q
def tBreak : TS := fun D σ H => D.bk σ H
def tCont : TS := fun D σ H => D.ct σ H
/-- in a def's body nothing is shown -/
theorem Inv.quiet {pins : List (Addr × Obj)} {σ : St} {H : Hp} {s : Shared} (I : Inv X pins σ H s) : interactive X.env = false := by simp [interactive, I.ok.kind]
/-- an expression whose value is dropped -/
def tDrop (te : TE) : TS := fun D σ H => te σ H fun _ H1 => D.nx σ H1
theorem ps_expr (he : PE X e te) (hs : swapsWith e none pos.line X.env = pure false := by rfl) : PS X (.Expr e pos) (tDrop te) := by
  intro pins s σ H D I h
  exact wpAny_Expr_any (thn (he pins s σ H _ I h) fun v s1 ⟨x, H1, I1, r1, q1⟩ => ⟨σ, H1, I1, q1⟩) I.quiet hs
def tRet (te : TE) : TS := fun D σ H => te σ H D.rt
theorem ps_ret (he : PE X e te) : PS X (.Return (some e) pos) (tRet te) := by
  intro pins s σ H D I h
  exact wpAny_Return_some (thn (he pins s σ H _ I h) fun v s1 ⟨x, H1, I1, r1, q1⟩ => ⟨x, σ, H1, I1, r1, q1⟩)
def tRetN : TS := fun D _ H => D.rt .non H
def tIfS (c : TT) (t u : TS) : TS := fun D σ H => c σ H fun b H1 => if b = true then t D σ H1 else u D σ H1
theorem ps_if {c : Expr} {a b : List Stmt} {tc : TT} (hc : PT X c tc) (ha : PSs X a t) (hb : PSs X b u) : PS X (.If c a b pos) (tIfS tc t u) := by
  intro pins s σ H D I h
  refine wpAny_If (thn (hc pins s σ H _ I h) fun d s1 ⟨H1, I1, q1⟩ => ?_)
  cases d with
  | true => exact ha pins s1 σ H1 D I1 q1
  | false => exact hb pins s1 σ H1 D I1 q1
/-- code that the proof never comes to -/
def tNever : TS := fun _ _ _ => False
theorem ps_never : PS X st tNever := fun _ _ _ _ _ _ h => h.elim
end

/-! ### targets -/
abbrev TG := V → St → Hp → (St → Hp → Prop) → Prop
abbrev TGs := List V → St → Hp → (St → Hp → Prop) → Prop
def PG (X : Cx) (target : Expr) (t : TG) : Prop :=
  ∀ (pins : List (Addr × Obj)) (s : Shared) (σ : St) (H : Hp) (v : V) (u : Value) (Q : St → Hp → Prop), Inv X pins σ H s → RelV v u → t v σ H Q →
    wpAny (model X.prog X.w) X.A (assign target X.env u) (fun _ s' => ∃ σ' H', Inv X pins σ' H' s' ∧ Q σ' H') X.xe s
/-- several targets, one after another -/
def PGs (X : Cx) (ts : List Expr) (t : TGs) : Prop :=
  ∀ (pins : List (Addr × Obj)) (s : Shared) (σ : St) (H : Hp) (vs : List V) (us : List Value) (Q : St → Hp → Prop), Inv X pins σ H s → Vals vs us → t vs σ H Q →
    wpAny (model X.prog X.w) X.A (assignInOrder ((assignEach ts X.env).map (·.2)) us) (fun _ s' => ∃ σ' H', Inv X pins σ' H' s' ∧ Q σ' H') X.xe s
/-- o[i] = v, by values -/
abbrev TSet := V → V → V → Hp → (Hp → Prop) → Prop
def PSet (X : Cx) (t : TSet) : Prop :=
  ∀ (pins : List (Addr × Obj)) (s : Shared) (σ : St) (H : Hp) (o i v : V) (ov iv u : Value) (Q : Hp → Prop), Inv X pins σ H s → RelV o ov → RelV i iv → RelV v u → t o i v H Q →
    wpAny (model X.prog X.w) X.A (setItem ov iv u) (fun _ s' => ∃ H', Inv X pins σ H' s' ∧ Q H') X.xe s
section
variable {X : Cx} {pos : Pos}
def gName (i : Nat) : TG := fun v σ H Q => Q (σ.set i (some v)) H
theorem pg_name {i : Nat} {x : Str} (hN : X.N.Nodup) (hi : X.N[i]? = some x) (hx : Loc X.env.scope x) (hf : X.fn x = true ∨ X.env.scope.names.lookup x = some .local := by first | exact .inl rfl | exact .inr rfl | assumption) : PG X (.Name x pos) (gName i) := by
  intro pins s σ H v u Q I r h
  exact wpAny_assign_Name (store_ok I hN hi hx r (fun s' I' => ⟨_, H, I', h⟩) hf)
def gNil : TGs := fun vs σ H Q => vs = [] ∧ Q σ H
def gCons (t : TG) (u : TGs) : TGs := fun vs σ H Q => ∃ v r, vs = v :: r ∧ t v σ H fun σ' H' => u r σ' H' Q
theorem pgs_nil : PGs X [] gNil := by
  intro pins s σ H vs us Q I r h
  obtain ⟨e, h⟩ := h
  subst e
  cases r
  exact assignInOrder_nil ⟨σ, H, I, h⟩
theorem pgs_cons {e : Expr} {es : List Expr} {t : TG} {u : TGs} (h1 : PG X e t) (h2 : PGs X es u)
    (hs : (assignEach (e :: es) X.env).map (·.2) = assign e X.env :: (assignEach es X.env).map (·.2) := by rfl) : PGs X (e :: es) (gCons t u) := by
  intro pins s σ H vs us Q I r h
  obtain ⟨v, vr, e1, h⟩ := h
  subst e1
  cases r with
  | cons r rr =>
    rw [hs]
    refine assignInOrder_cons (thn (h1 pins s σ H _ _ _ I r h) fun _ s1 ⟨σ1, H1, I1, q1⟩ => ?_)
    exact h2 pins s1 σ1 H1 _ _ Q I1 rr q1
/-- (a, b, ..) = a tuple of that length -/
def gTup (K : PySem.W.Frag) (n : Nat) (t : TGs) : TG := fun v σ H Q => ∃ a xs, v = .ref a ∧ SqT K H a xs ∧ xs.length = n ∧ t xs σ H Q
theorem pg_tup {es : List Expr} {k : Nat} {t : TGs} {n : Nat} (hc : X.calm = true) (h : PGs X es t)
    (hn : (assignEach es X.env).length = n := by rfl) (hst : (assignEach es X.env).findIdx? (·.1) = none := by rfl) : PG X (.Tuple es k pos) (gTup X.K n t) := by
  intro pins s σ H v u Q I r hw
  obtain ⟨a, xs, e1, hq, hl, hw⟩ := hw
  subst e1
  cases r
  obtain ⟨its, rv, ht, hz⟩ := I.tuple hq
  refine assign_Tuple_tuple (I.ok.hd hc) ht (by simp [hn, ← hl, rv.length]) hst fun h' hx => ?_
  have I1 : Inv X pins σ H { s with heap := h' } := I.kept (t' := s.toks) fun b o e => hx b o (Nat.ne_of_lt (Heap.lt_size e)) e
  exact h pins _ σ H xs _ Q I1 (by simpa using rv) hw
/-- o[i] = .. -/
def gSub (to ti : TE) (t : TSet) : TG := fun v σ H Q => to σ H fun o H1 => ti σ H1 fun i H2 => t o i v H2 fun H3 => Q σ H3
theorem pg_sub {o i : Expr} {to ti : TE} {t : TSet} (ho : PE X o to) (hi : PE X i ti) (hs : PSet X t)
    (ha : ∀ v, assign (.Subscript o i pos) X.env v = (do
      let ov ← holding [v] (eval o X.env)
      let iv ← holding [v, ov] (eval i X.env)
      standAt pos
      holding [v, ov, iv] (setItem ov iv v)
      release [v, ov, iv] []) := by intro _; rfl) : PG X (.Subscript o i pos) (gSub to ti t) := by
  intro pins s σ H v u Q I r h
  rw [ha]
  refine wpAny_bind (wpAny_holding (thn (ho pins s σ H _ I h) fun ov s1 ⟨x, H1, I1, r1, q1⟩ => ?_))
  refine wpAny_bind (wpAny_holding (thn (hi pins s1 σ H1 _ I1 q1) fun iv s2 ⟨y, H2, I2, r2, q2⟩ => ?_))
  refine wpAny_bind (wpAny_standAt (wpAny_bind (wpAny_holding (thn (hs pins s2 σ H2 x y v ov iv u _ I2 r1 r2 r q2) fun _ s3 ⟨H3, I3, q3⟩ => ?_))))
  exact wpAny_release ⟨σ, H3, I3, q3⟩
/-- target = value -/
def tAsg (te : TE) (g : TG) : TS := fun D σ H => te σ H fun x H1 => g x σ H1 D.nx
theorem ps_asg {tg e : Expr} {te : TE} {g : TG} (he : PE X e te) (hg : PG X tg g) (hs : swapsWithSole [tg] e pos.line X.env = pure false := by rfl) (hw : swappedStores [tg] e X.env = pure none := by rfl)
    (h1 : (assignEach [tg] X.env).map (·.2) = [assign tg X.env] := by rfl) : PS X (.Assign [tg] e pos) (tAsg te g) := by
  intro pins s σ H D I h
  refine wpAny_Assign_stores (thn (he pins s σ H _ I h) fun v s1 ⟨x, H1, I1, r1, q1⟩ => ?_) hs hw
  rw [h1]
  exact thn (hg pins s1 σ H1 x v _ I1 r1 q1) fun _ s2 q => q
/-- name = value -/
theorem ps_set {i : Nat} {x : Str} {e : Expr} {te : TE} {pos' : Pos} (hN : X.N.Nodup) (hi : X.N[i]? = some x) (hx : Loc X.env.scope x) (he : PE X e te) (hs : swapsWith e (some (.Name x pos')) pos.line X.env = pure false := by rfl) (hf : X.fn x = true ∨ X.env.scope.names.lookup x = some .local := by first | exact .inl rfl | exact .inr rfl | assumption) :
    PS X (.Assign [.Name x pos'] e pos) (tAsg te (gName i)) := by
  intro pins s σ H D I h
  refine wpAny_Assign_Name (thn (he pins s σ H _ I h) fun v s1 ⟨y, H1, I1, r1, q1⟩ => ?_) hs
  exact store_ok I1 hN hi hx r1 (fun s2 I2 => ⟨_, H1, I2, q1⟩) hf
end

/-! ### while -/
section
variable {X : Cx} {pos : Pos}
/-- the invariant W with its measure -/
def tWhile (c : TT) (tb : TS) : TS := fun D σ H => ∃ W : Nat → St → Hp → Prop, (∃ m, W m σ H) ∧ ∀ m σ H, W m σ H →
  c σ H fun b H1 => if b = true then ∃ N : St → Hp → Prop, (∀ σ' H', N σ' H' → ∃ m', m' < m ∧ W m' σ' H') ∧ tb { D with nx := N, ct := N, bk := D.nx } σ H1 else D.nx σ H1
theorem ps_while {c : Expr} {body : List Stmt} {tc : TT} {tb : TS} (hp : PassesOwn (model X.prog X.w) X.A X.env X.xe) (hc : PT X c tc) (hb : PSs X body tb) : PS X (.While c body [] pos) (tWhile tc tb) := by
  intro pins s σ H D I h
  obtain ⟨W, ⟨m0, w0⟩, turn⟩ := h
  refine wpAny_While (codeAny_whileLoop (fun n s' => ∃ σ' H', Inv X pins σ' H' s' ∧ W n σ' H') ?_ m0 ⟨σ, H, I, w0⟩)
  rintro n s1 ⟨σ1, H1, I1, w1⟩
  refine wpAny_passesOwn hp (thn (hc pins s1 σ1 H1 _ I1 (turn n σ1 H1 w1)) fun b s2 ⟨H2, I2, q2⟩ => ?_)
  cases b with
  | true =>
    obtain ⟨N, hN, q2⟩ := q2
    rw [if_pos rfl]
    refine wpAny_passesOwn hp (thn (hb pins s2 σ1 H2 _ I2 q2) fun f s3 q3 => ?_)
    cases f with
    | next =>
      obtain ⟨σ3, H3, I3, n3⟩ := q3
      obtain ⟨m', hm, w3⟩ := hN σ3 H3 n3
      exact ⟨m', hm, σ3, H3, I3, w3⟩
    | cont =>
      obtain ⟨σ3, H3, I3, n3⟩ := q3
      obtain ⟨m', hm, w3⟩ := hN σ3 H3 n3
      exact ⟨m', hm, σ3, H3, I3, w3⟩
    | brk => exact q3
    | ret v => exact q3
  | false =>
    rw [if_neg Bool.false_ne_true]
    exact wpAny_execs_nil ⟨σ1, H2, I2, q2⟩
end

/-! ### what a loop or a comprehension walks -/
/-- at turn i: it yields x (the heap may grow), or it stops -/
structure It where
  go : Nat → Hp → Prop
  yld : Nat → Hp → V → Hp → Prop
  stop : Nat → Hp → Prop
/-- the iterator's own objects may turn: they are not the frame's, not pinned, younger than the entry (or a comprehension's own) -/
def FpOk (X : Cx) (pins : List (Addr × Obj)) (H : Hp) (b : Addr) : Prop :=
  H b = none ∧ b ≠ X.env.locals ∧ b ∉ X.fs ∧ (b ∈ X.ex ∨ X.s₀.heap.objs.size ≤ b) ∧ (∀ x c, X.env.cells.lookup x = some c → c ≠ b) ∧ ∀ p ∈ X.pn ++ pins, p.1 ≠ b
theorem Inv.fpOk {X : Cx} {pins : List (Addr × Obj)} {σ : St} {H H' : Hp} {s : Shared} {b : Addr} (I : Inv X pins σ H s) (hb : s.heap.objs.size ≤ b) (hn : H' b = none) : FpOk X pins H' b := by
  refine ⟨hn, Nat.ne_of_gt (Nat.lt_of_lt_of_le I.lt hb), I.nofs hb, .inr (Nat.le_trans I.sz hb), fun x c e z => ?_, fun p hp z => ?_⟩
  · obtain ⟨v, q⟩ := I.cell x c e
    exact absurd (Nat.lt_of_lt_of_le q.lt (by rw [z]; exact hb)) (Nat.lt_irrefl _)
  · exact absurd (Nat.lt_of_lt_of_le (Heap.lt_size (I.pin p hp).1) (by rw [z]; exact hb)) (Nat.lt_irrefl _)
structure Turn (P : Program) (w : World) (K : PySem.W.Frag) (tg : Expr) (J : It) (fp : List Addr) (it : Addr) (tn : Nat → Heap → Prop) : Prop where
  mem : it ∈ fp
  obj : ∀ i h, tn i h → ∀ b ∈ fp, ∃ o, h.get? b = some o ∧ ∀ v, o.data ≠ .cell v
  keep : ∀ i h h', tn i h → (∀ b ∈ fp, ∀ o, h.get? b = some o → h'.get? b = some o) → tn i h'
  item : ∀ (X : Cx), X.prog = P → X.w = w → X.K = K → X.calm = true → ∀ (i : Nat) (pins : List (Addr × Obj)) (s : Shared) (σ : St) (H : Hp) (E : Value → Shared → Prop), Inv X pins σ H s → (∀ b ∈ fp, FpOk X pins H b) → tn i s.heap → J.go i H →
    wpAny (model P w) X.A (pyNext (.ref it)) (fun r s1 => ∃ u, r = some u ∧
      wpAny (model P w) X.A (letOwnedTupleGo tg (.ref it) u) (fun _ s2 => ∃ x H', Inv X pins σ H' s2 ∧ RelV x u ∧ J.yld i H x H' ∧ tn (i + 1) s2.heap ∧ ∀ b ∈ fp, H' b = none) E s1) E s
  done : ∀ (X : Cx), X.prog = P → X.w = w → X.K = K → X.calm = true → ∀ (i : Nat) (pins : List (Addr × Obj)) (s : Shared) (σ : St) (H : Hp) (E : Value → Shared → Prop), Inv X pins σ H s → (∀ b ∈ fp, FpOk X pins H b) → tn i s.heap → J.stop i H →
    wpAny (model P w) X.A (pyNext (.ref it)) (fun r s1 => r = none ∧ Inv X pins σ H s1) E s
  self : ∀ (A : Around) (i : Nat) (s : Shared) (Q : Value → Shared → Prop) (E : Value → Shared → Prop), tn i s.heap → Q (.ref it) s → wpAny (model P w) A (pyIter (.ref it)) Q E s
abbrev TI := St → Hp → (It → Hp → Prop) → Prop
/-- an iterator has come -/
def PIE (X : Cx) (pins : List (Addr × Obj)) (σ : St) (tg : Expr) (R : It → Hp → Prop) (itv : Value) (s2 : Shared) : Prop :=
  ∃ (it : Addr) (fp : List Addr) (tn : Nat → Heap → Prop) (J : It) (H' : Hp), itv = .ref it ∧ Inv X pins σ H' s2 ∧ Turn X.prog X.w X.K tg J fp it tn ∧ tn 0 s2.heap ∧ (∀ b ∈ fp, FpOk X pins H' b) ∧ R J H'
def PI (X : Cx) (tg iter : Expr) (wi : TI) : Prop :=
  ∀ (pins : List (Addr × Obj)) (s : Shared) (σ : St) (H : Hp) (R : It → Hp → Prop), Inv X pins σ H s → wi σ H R →
    wpAny (model X.prog X.w) X.A (eval iter X.env) (fun v s1 => wpAny (model X.prog X.w) X.A (pyIter v) (PIE X pins σ tg R) X.xe s1) X.xe s

/-- the step ahead of the store is nothing for an iterator that keeps no tuple -/
theorem go_of {M : Model} {A : Around} {E : Value → Shared → Prop} {s : Shared} {tg : Expr} {it : Addr} {u : Value} {o : Obj} {n : String} {vs : Array Value} {Q : Unit → Shared → Prop} (ho : s.heap.get? it = some o) (hc : o.cls = .type n) (hd : o.data = .fields vs)
    (hn : ["enumerate", "zip", "dict_itemiterator", "dict_reverseitemiterator", "odict_iterator", "itertools.zip_longest", "itertools.pairwise"].contains n = false) (hQ : Q () s) : wpAny M A (letOwnedTupleGo tg (.ref it) u) Q E s := by
  unfold letOwnedTupleGo
  cases tg <;> first
    | exact wpAny_pure hQ
    | (cases u <;> first
        | exact wpAny_pure hQ
        | (refine wpAny_bind (wpAny_load ho ?_)
           rw [hc, hd]
           show wpAny M A (if (["enumerate", "zip", "dict_itemiterator", "dict_reverseitemiterator", "odict_iterator", "itertools.zip_longest", "itertools.pairwise"].contains n && vs[0]? == some (rawInt _)) = true then _ else _) Q E s
           rw [if_neg (by intro h; rw [hn, Bool.false_and] at h; cases h)]
           exact wpAny_pure hQ))

/-- the list at a, as it stands at each turn (a loop may append to it) -/
def Itl (K : PySem.W.Frag) (a : Addr) : It :=
  ⟨fun i H => ∃ xs x, SqL K H a xs ∧ xs[i]? = some x, fun i H x H' => H' = H ∧ ∀ xs, SqL K H a xs → xs[i]? = some x, fun i H => ∃ xs, SqL K H a xs ∧ xs.length ≤ i⟩
/-- lo, lo + 1, .. (n of them) -/
def Itr (lo : Int) (n : Nat) : It := ⟨fun i _ => i < n, fun i H x H' => H' = H ∧ x = .int (lo + i), fun i _ => n ≤ i⟩
theorem turn_list {P : Program} {w : World} {K : PySem.W.Frag} {tg : Expr} (a it : Addr) : Turn P w K tg (Itl K a) [it] it (fun i h => h.IsListIter it a i) where
  mem := by simp
  obj := fun i h st b hb => by
    have e : b = it := by simpa using hb
    subst e
    obtain ⟨o, e, c, d⟩ := st
    exact ⟨o, e, fun v z => by rw [d] at z; cases z⟩
  keep := fun i h h' st k => st.at fun o e => k it (by simp) o e
  item := by
    intro X hP hw hK hc i pins s σ H E I hf st hg
    subst hP hw hK
    obtain ⟨xs, x, hq, hx⟩ := hg
    obtain ⟨its, rv, p, hz⟩ := I.list hq
    obtain ⟨u, hu, ru⟩ := rv.get hx
    obtain ⟨f0, f1, f2, f3, f4, f5⟩ := hf it (by simp)
    refine wpAny_pyNext_list_item st p.isList (x := u) (by simpa using hu) fun h' st' sb => ?_
    have I1 : Inv X pins σ H { s with heap := h' } := I.turned (t' := s.toks) (fun b o hb e => (sb.2 b hb).trans e) f0 f1 f3 f4 f5
    obtain ⟨o, e, c, d⟩ := id st'
    exact ⟨u, rfl, go_of (s := { s with heap := h' }) e c d (by decide) ⟨x, H, I1, ru, ⟨rfl, fun ys hy => by rw [I.list_inj hy hq]; exact hx⟩, st', fun b hb => (hf b hb).1⟩⟩
  done := by
    intro X hP hw hK hc i pins s σ H E I hf st hg
    subst hP hw hK
    obtain ⟨xs, hq, hx⟩ := hg
    obtain ⟨its, rv, p, hz⟩ := I.list hq
    obtain ⟨f0, f1, f2, f3, f4, f5⟩ := hf it (by simp)
    have hl := rv.length
    exact wpAny_pyNext_list_end (I.ok.hd hc) st p.isList (by simp; omega) fun h' eb => ⟨rfl, I.turned (t' := s.toks) (fun b o hb e => eb b o hb e) f0 f1 f3 f4 f5⟩
  self := fun _ _ _ _ _ st h => wpAny_pyIter_listiter st h
theorem turn_range {P : Program} {w : World} {K : PySem.W.Frag} {tg : Expr} (it : Addr) (lo : Int) (n : Nat) : Turn P w K tg (Itr lo n) [it] it (fun i h => IsRangeIter h it (lo + (i : Nat) * 1) ((n : Int) - (i : Nat)) 1) where
  mem := by simp
  obj := fun i h st b hb => by
    have e : b = it := by simpa using hb
    subst e
    exact ⟨_, st, fun v z => by
      have z' : Data.fields _ = Data.cell v := z
      cases z'⟩
  keep := fun i h h' st k => k it (by simp) _ st
  item := by
    intro X hP hw hK hc i pins s σ H E I hf st hg
    subst hP hw hK
    obtain ⟨f0, f1, f2, f3, f4, f5⟩ := hf it (by simp)
    have W := Walks.range (prog := X.prog) (w := X.w) (I.ok.hd hc) it lo 1 n
    refine W.item i s _ _ hg st fun v h' tk hv st' kk => ?_
    obtain ⟨t, rfl⟩ := hv
    have I1 : Inv X pins σ H { s with heap := h', toks := tk } := I.turned (fun b o hb e => kk b o (by simpa using hb) e) f0 f1 f3 f4 f5
    refine ⟨_, rfl, go_of (s := { s with heap := h', toks := tk }) (n := "range_iterator") st' rfl rfl (by decide) ⟨.int (lo + i), H, I1, ⟨t, ?_⟩, ⟨rfl, rfl⟩, st', fun b hb => (hf b hb).1⟩⟩
    rw [Int.mul_one]
  done := by
    intro X hP hw hK hc i pins s σ H E I hf st hg
    subst hP hw hK
    obtain ⟨f0, f1, f2, f3, f4, f5⟩ := hf it (by simp)
    exact wpAny_pyNext_range_end (I.ok.hd hc) st (by have : n ≤ i := hg; omega) fun h' eb => ⟨rfl, I.turned (t' := s.toks) (fun b o hb e => eb b o hb e) f0 f1 f3 f4 f5⟩
  self := fun _ _ _ _ _ st h => wpAny_pyIter_rangeiter st h
end L2

namespace L2
open PySem PySem.Spec PyProof.Rows
section
variable {X : Cx} {tg : Expr}
def iList (K : PySem.W.Frag) (tl : TE) : TI := fun σ H R => tl σ H fun x H1 => ∃ a, x = .ref a ∧ (∃ xs, SqL K H1 a xs) ∧ R (Itl K a) H1
theorem pi_list {l : Expr} {tl : TE} (hl : PE X l tl) : PI X tg l (iList X.K tl) := by
  intro pins s σ H R I h
  refine thn (hl pins s σ H _ I h) fun v s1 ⟨x, H1, I1, r1, q1⟩ => ?_
  obtain ⟨a, e, ⟨xs, hq⟩, q⟩ := q1
  subst e
  cases r1
  obtain ⟨its, rv, p, hz⟩ := I1.list hq
  refine wpAny_pyIter_list p.isList ?_
  refine ⟨s1.heap.objs.size, [s1.heap.objs.size], _, _, H1, rfl, I1.kept (t' := s1.toks) fun b o e => Heap.get?_push_of_some _ e, turn_list a _, ⟨_, Heap.get?_push_size _ rfl, rfl, rfl⟩, fun b hb => ?_, q⟩
  have e : b = s1.heap.objs.size := by simpa using hb
  subst e
  exact I1.fpOk (Nat.le_refl _) (I1.hok.fresh (Nat.le_refl _))
/-- a range object just made, walked -/
theorem range_it {pins : List (Addr × Obj)} {σ : St} {H : Hp} {s : Shared} {R : It → Hp → Prop} {E : Value → Shared → Prop} {lo hi : Int} {t u v : Tok} {tk : Nat} (I : Inv X pins σ H s) (h1 : -(2 ^ 62) ≤ lo) (h2 : lo < 2 ^ 62) (h3 : -(2 ^ 62) ≤ hi) (h4 : hi < 2 ^ 62)
    (q : R (Itr lo (hi - lo).toNat) H) : wpAny (model X.prog X.w) X.A (pyIter (.ref s.heap.objs.size)) (PIE X pins σ tg R) E { s with heap := s.heap.push { cls := .type "range", data := .fields #[.int lo t, .int hi u, .int 1 v] }, toks := tk } := by
  refine wpAny_pyIter_range (IsRange.new ..) (small_one h1 h2 h3 h4) ?_
  have I1 : Inv X pins σ H { s with heap := s.heap.push { cls := .type "range", data := .fields #[.int lo t, .int hi u, .int 1 v] }, toks := tk } := I.kept fun b o e => Heap.get?_push_of_some _ e
  refine ⟨(s.heap.push { cls := .type "range", data := .fields #[.int lo t, .int hi u, .int 1 v] }).objs.size, [(s.heap.push { cls := .type "range", data := .fields #[.int lo t, .int hi u, .int 1 v] }).objs.size], _, _, H, rfl,
    I1.kept (t' := tk) fun b o e => Heap.get?_push_of_some _ e, turn_range _ lo (hi - lo).toNat, ?_, fun b hb => ?_, q⟩
  · have e1 : lo + ((0 : Nat) : Int) * 1 = lo := by simp
    have e2 : (((hi - lo).toNat : Nat) : Int) - ((0 : Nat) : Int) = Builtin.Range.rangeSize lo hi 1 := by rw [rangeSize_one]; split <;> omega
    show IsRangeIter _ _ (lo + ((0 : Nat) : Int) * 1) ((((hi - lo).toNat : Nat) : Int) - ((0 : Nat) : Int)) 1
    rw [e1, e2]
    exact Heap.get?_push_size _ rfl
  · have e : b = (s.heap.push { cls := .type "range", data := .fields #[.int lo t, .int hi u, .int 1 v] }).objs.size := by simpa using hb
    subst e
    exact I1.fpOk (Nat.le_refl _) (I1.hok.fresh (Nat.le_refl _))
def iRng1 (ta : TA) : TI := fun σ H R => ta σ H fun vs H1 => ∃ j : Int, vs = [.int j] ∧ -(2 ^ 62) ≤ j ∧ j < 2 ^ 62 ∧ R (Itr 0 j.toNat) H1
def iRng2 (ta : TA) : TI := fun σ H R => ta σ H fun vs H1 => ∃ i j : Int, vs = [.int i, .int j] ∧ (-(2 ^ 62) ≤ i ∧ i < 2 ^ 62 ∧ -(2 ^ 62) ≤ j ∧ j < 2 ^ 62) ∧ R (Itr i (j - i).toNat) H1
theorem pi_range1 {a : Expr} {ta : TA} {p pos : Pos} (hg : Gl X "range") (hm : X.mg "range" = none) (ha : PA X [a] ta) (hs : starEach [a] X.env = [(false, eval a X.env)] := by rfl) : PI X tg (.Call (.Name "range" p) [a] [] pos) (iRng1 ta) := by
  intro pins s σ H R I h
  refine Call_ (ld_blt I hg hm boot_range (PyProof.Rows.callWith_type1 (thn (ha pos pins s σ H _ I h) fun us s1 ⟨vs, H1, I1, r1, q1⟩ => ?_) hs rfl))
  obtain ⟨j, e, q1, q2, q⟩ := q1
  subst e
  cases r1 with
  | cons r rr =>
    cases rr
    obtain ⟨t, rfl⟩ := r
    exact call_range_1 (range_it I1 (by omega) (by omega) q1 q2 (by simpa using q))
/-! ### for -/
/-- W: the invariant by the turn and a measure; N: what the body is to reach -/
def tFor (wi : TI) (g : TG) (tb : TS) : TS := fun D σ H => wi σ H fun J H1 => ∃ W : Nat → Nat → St → Hp → Prop, (∃ m, W 0 m σ H1) ∧ ∀ i m σ H, W i m σ H →
  (J.stop i H ∧ D.nx σ H) ∨ (J.go i H ∧ ∃ N : St → Hp → Prop, (∀ σ' H', N σ' H' → ∃ m', m' < m ∧ W (i + 1) m' σ' H') ∧ ∀ x H', J.yld i H x H' → g x σ H' fun σ2 H2 => tb { D with nx := N, ct := N, bk := D.nx } σ2 H2)
/-- the records at fp as they stand -/
def pinsAt (fp : List Addr) (h : Heap) : List (Addr × Obj) := fp.filterMap fun b => (h.get? b).map fun o => (b, o)
theorem mem_pinsAt {fp : List Addr} {h : Heap} {b : Addr} {o : Obj} (hb : b ∈ fp) (e : h.get? b = some o) : (b, o) ∈ pinsAt fp h := List.mem_filterMap.mpr ⟨b, hb, by rw [e]; rfl⟩
theorem of_pinsAt {fp : List Addr} {h : Heap} {p : Addr × Obj} (hp : p ∈ pinsAt fp h) : p.1 ∈ fp ∧ h.get? p.1 = some p.2 := by
  obtain ⟨b, hb, e⟩ := List.mem_filterMap.mp hp
  cases q : h.get? b with
  | none => rw [q] at e; cases e
  | some o =>
    rw [q] at e
    have e' : (b, o) = p := Option.some.inj e
    subst e'
    exact ⟨hb, q⟩
theorem Inv.pinned {pins : List (Addr × Obj)} {σ : St} {H : Hp} {s : Shared} {fp : List Addr} (I : Inv X pins σ H s) (hf : ∀ b ∈ fp, FpOk X pins H b) (ho : ∀ b ∈ fp, ∃ o, s.heap.get? b = some o ∧ ∀ v, o.data ≠ .cell v) : Inv X (pins ++ pinsAt fp s.heap) σ H s :=
  I.pins_of fun p hp => (List.mem_append.mp hp).elim (fun z => I.pin p (List.mem_append_right _ z)) fun z => by
    obtain ⟨hb, e⟩ := of_pinsAt z
    obtain ⟨f0, f1, f2, _⟩ := hf p.1 hb
    obtain ⟨o, e', d⟩ := ho p.1 hb
    rw [e] at e'; cases e'
    exact ⟨e, f0, f1, f2, d⟩
theorem Inv.unpinned {pins pl : List (Addr × Obj)} {σ : St} {H : Hp} {s : Shared} (I : Inv X (pins ++ pl) σ H s) : Inv X pins σ H s := I.pins_of fun p hp => I.pin p (List.mem_append_right _ (List.mem_append_left _ hp))
theorem ps_for {iter : Expr} {body : List Stmt} {wi : TI} {g : TG} {tb : TS} {pos : Pos} (hp : PassesOwn (model X.prog X.w) X.A X.env X.xe) (hc : X.calm = true) (hi : PI X tg iter wi) (hg : PG X tg g) (hb : PSs X body tb)
    (hs : ∀ x, foldedSetIterable iter X.env x = pure x := by intro _; rfl) : PS X (.For tg iter body [] pos) (tFor wi g tb) := by
  intro pins s σ H D I h
  refine wpAny_For (thn (hi pins s σ H _ I h) fun v s1 h1 => thn h1 fun itv s2 h2 => ?_) hs
  obtain ⟨it, fp, tn, J, H2, e, I2, T, st2, f2, W, ⟨m0, w0⟩, turn⟩ := h2
  subst e
  -- what stays true of the iterator's objects through the loop
  have stat : ∀ {H' : Hp}, (∀ b ∈ fp, H' b = none) → ∀ b ∈ fp, FpOk X pins H' b := fun hn b hb => ⟨hn b hb, (f2 b hb).2⟩
  refine codeAny_forLoop_any (fun n s' => ∃ i σ' H', Inv X pins σ' H' s' ∧ tn i s'.heap ∧ (∀ b ∈ fp, H' b = none) ∧ W i n σ' H') ?_ m0 ⟨0, σ, H2, I2, st2, fun b hb => (f2 b hb).1, w0⟩
  rintro n s3 ⟨i, σ3, H3, I3, st3, fr3, w3⟩
  rcases turn i n σ3 H3 w3 with ⟨stop, qn⟩ | ⟨go, N, hN, step⟩
  · refine wpAny_passesOwn hp (thn (T.done X rfl rfl rfl hc i pins s3 σ3 H3 X.xe I3 (stat fr3) st3 stop) fun r s4 ⟨hr, I4⟩ => ?_)
    subst hr
    exact wpAny_execs_nil ⟨σ3, H3, I4, qn⟩
  · refine wpAny_passesOwn hp (thn (T.item X rfl rfl rfl hc i pins s3 σ3 H3 X.xe I3 (stat fr3) st3 go) fun r s4 ⟨u, hr, h4⟩ => ?_)
    subst hr
    refine wpAny_passesOwn hp (thn h4 fun _ s5 ⟨x, H5, I5, r5, y5, st5, fr5⟩ => ?_)
    have I5' := I5.pinned (stat fr5) (T.obj _ _ st5)
    refine wpAny_passesOwn hp (thn (hg _ s5 σ3 H5 x u _ I5' r5 (step x H5 y5)) fun _ s6 ⟨σ6, H6, I6, q6⟩ => ?_)
    refine wpAny_passesOwn hp (thn (hb _ s6 σ6 H6 _ I6 q6) fun f s7 q7 => ?_)
    have again : ∀ {σ7 : St} {H7 : Hp}, Inv X (pins ++ pinsAt fp s5.heap) σ7 H7 s7 → N σ7 H7 → ∃ m, m < n ∧ ∃ i σ' H', Inv X pins σ' H' s7 ∧ tn i s7.heap ∧ (∀ b ∈ fp, H' b = none) ∧ W i m σ' H' := fun {σ7 H7} I7 n7 => by
      obtain ⟨m', hm, w7⟩ := hN σ7 H7 n7
      refine ⟨m', hm, i + 1, σ7, H7, I7.unpinned, T.keep _ _ _ st5 fun b hb o e => (I7.pin (b, o) (List.mem_append_right _ (List.mem_append_right _ (mem_pinsAt hb e)))).1, fun b hb => ?_, w7⟩
      obtain ⟨o, e, d⟩ := T.obj _ _ st5 b hb
      exact (I7.pin (b, o) (List.mem_append_right _ (List.mem_append_right _ (mem_pinsAt hb e)))).2.1
    cases f with
    | next => obtain ⟨σ7, H7, I7, n7⟩ := q7; exact again I7 n7
    | cont => obtain ⟨σ7, H7, I7, n7⟩ := q7; exact again I7 n7
    | brk => obtain ⟨σ7, H7, I7, q7⟩ := q7; exact ⟨σ7, H7, I7.unpinned, q7⟩
    | ret v => obtain ⟨x7, σ7, H7, I7, r7, q7⟩ := q7; exact ⟨x7, σ7, H7, I7.unpinned, r7, q7⟩
end

/-! ### the forms one uses -/
/-- over a list that the body leaves as it is -/
theorem for_list {K : PySem.W.Frag} {a : Addr} {xs : List V} {g : TG} {tb : TS} {D : Ends} {σ : St} {H : Hp} (Pv : Nat → St → Hp → Prop) (h0 : Pv 0 σ H) (hl : ∀ i σ H, i ≤ xs.length → Pv i σ H → SqL K H a xs)
    (hs : ∀ i x σ H, xs[i]? = some x → Pv i σ H → g x σ H fun σ2 H2 => tb { D with nx := Pv (i + 1), ct := Pv (i + 1), bk := D.nx } σ2 H2) (hd : ∀ σ H, Pv xs.length σ H → D.nx σ H) :
    ∃ W : Nat → Nat → St → Hp → Prop, (∃ m, W 0 m σ H) ∧ ∀ i m σ H, W i m σ H →
      ((Itl K a).stop i H ∧ D.nx σ H) ∨ ((Itl K a).go i H ∧ ∃ N : St → Hp → Prop, (∀ σ' H', N σ' H' → ∃ m', m' < m ∧ W (i + 1) m' σ' H') ∧ ∀ x H', (Itl K a).yld i H x H' → g x σ H' fun σ2 H2 => tb { D with nx := N, ct := N, bk := D.nx } σ2 H2) := by
  refine ⟨fun i m σ H => m = xs.length - i ∧ i ≤ xs.length ∧ Pv i σ H, ⟨xs.length, by simp, Nat.zero_le _, h0⟩, ?_⟩
  rintro i m σ H ⟨rfl, hi, p⟩
  have q := hl i σ H hi p
  by_cases hlt : i < xs.length
  · refine .inr ⟨⟨xs, xs[i], q, by simp [hlt]⟩, Pv (i + 1), fun σ' H' p' => ⟨xs.length - (i + 1), by omega, rfl, hlt, p'⟩, fun x H' y => ?_⟩
    obtain ⟨e, y⟩ := y
    subst e
    exact hs i x σ _ (y xs q) p
  · have e : i = xs.length := by omega
    subst e
    exact .inl ⟨⟨xs, q, Nat.le_refl _⟩, hd σ H p⟩
end L2

namespace L2
open PySem PySem.Spec PyProof.Rows

abbrev R2 := V → V → Hp → VK → Prop
/-- a two-place operation on values: f is binaryOp op, inplaceOp op or compareOp op -/
def OpR (X : Cx) (f : Value → Value → Sem Value) (r : R2) : Prop :=
  ∀ (pins : List (Addr × Obj)) (s : Shared) (σ : St) (H : Hp) (x y : V) (v u : Value) (Q : VK), Inv X pins σ H s → RelV x v → RelV y u → r x y H Q →
    wpAny (model X.prog X.w) X.A (f v u) (EP X pins σ Q) X.xe s
/-- a call of a value that is known (a builtin, a type) with values -/
def CallR (X : Cx) (f : Value) (r : List V → Hp → VK → Prop) : Prop :=
  ∀ (pins : List (Addr × Obj)) (s : Shared) (σ : St) (H : Hp) (xs : List V) (us : List Value) (Q : VK), Inv X pins σ H s → Vals xs us → r xs H Q →
    wpAny (model X.prog X.w) X.A (call f us) (EP X pins σ Q) X.xe s
/-- a value's truth -/
def TruR (X : Cx) (r : V → Hp → (Bool → Hp → Prop) → Prop) : Prop :=
  ∀ (pins : List (Addr × Obj)) (s : Shared) (σ : St) (H : Hp) (x : V) (v : Value) (Q : Bool → Hp → Prop), Inv X pins σ H s → RelV x v → r x H Q →
    wpAny (model X.prog X.w) X.A (truthy v) (TP X pins σ Q) X.xe s

def tOp (r : R2) (ta tb : TE) : TE := fun σ H Q => ta σ H fun x H1 => tb σ H1 fun y H2 => r x y H2 Q
def tUn (r : V → Hp → VK → Prop) (ta : TE) : TE := fun σ H Q => ta σ H fun x H1 => r x H1 Q
/-- ints in, under C, and a value out -/
def rI (C : Int → Int → Prop) (g : Int → Int → V) : R2 := fun x y H Q => ∃ i j, x = .int i ∧ y = .int j ∧ C i j ∧ Q (g i j) H
def rI0 (g : Int → Int → V) : R2 := fun x y H Q => ∃ i j, x = .int i ∧ y = .int j ∧ Q (g i j) H
def rU (g : Int → V) : V → Hp → VK → Prop := fun x H Q => ∃ i, x = .int i ∧ Q (g i) H

section
variable {X : Cx} {a b c : Expr} {ta tb tc : TE} {pos : Pos}

theorem binT (ha : PE X a ta) (hb : PE X b tb) {pins : List (Addr × Obj)} {s : Shared} {σ : St} {H : Hp} {R : V → V → Hp → Prop} (I : Inv X pins σ H s)
    (h : ta σ H fun x H1 => tb σ H1 fun y H2 => R x y H2) {Q : Value → Shared → Prop} {f : Value → Value → Sem Value}
    (hf : ∀ v u s2 x y H2, Inv X pins σ H2 s2 → RelV x v → RelV y u → R x y H2 → wpAny (model X.prog X.w) X.A (f v u) Q X.xe s2) :
    wpAny (model X.prog X.w) X.A (eval a X.env) (fun v s₁ => wpAny (model X.prog X.w) X.A (eval b X.env) (fun u s₂ => wpAny (model X.prog X.w) X.A (f v u) Q X.xe s₂) X.xe s₁) X.xe s := by
  refine thn (ha pins s σ H _ I h) fun v s1 ⟨x, H1, I1, r1, q1⟩ => ?_
  refine thn (hb pins s1 σ H1 _ I1 q1) fun u s2 ⟨y, H2, I2, r2, q2⟩ => ?_
  exact hf v u s2 x y H2 I2 r1 r2 q2

theorem pe_op {op : Operator} {r : R2} (ho : OpR X (binaryOp op) r) (ha : PE X a ta) (hb : PE X b tb) : PE X (.BinOp a op b pos) (tOp r ta tb) := by
  intro pins s σ H Q I h
  exact wpAny_BinOp (binT ha hb I h fun v u s2 x y H2 I2 rx ry q => ho pins s2 σ H2 x y v u Q I2 rx ry q)
/-! ### ints -/
theorem opI {f : Value → Value → Sem Value} {C : Int → Int → Prop} {g : Int → Int → Int}
    (rule : ∀ (i j : Int) (t u : Tok) (s : Shared) (Q : Value → Shared → Prop) (E : Value → Shared → Prop), C i j → Q (.int (g i j) s.toks) { s with toks := s.toks + 1 } → wpAny (model X.prog X.w) X.A (f (.int i t) (.int j u)) Q E s) :
    OpR X f (rI C fun i j => .int (g i j)) := by
  intro pins s σ H x y v u Q I rx ry h
  obtain ⟨i, j, rfl, rfl, hc, q⟩ := h
  obtain ⟨t, rfl⟩ := rx
  obtain ⟨t', rfl⟩ := ry
  exact rule i j t t' s _ _ hc ⟨.int (g i j), H, I.tok _, ⟨_, rfl⟩, q⟩
theorem opI0 {f : Value → Value → Sem Value} {g : Int → Int → Int}
    (rule : ∀ (i j : Int) (t u : Tok) (s : Shared) (Q : Value → Shared → Prop) (E : Value → Shared → Prop), Q (.int (g i j) s.toks) { s with toks := s.toks + 1 } → wpAny (model X.prog X.w) X.A (f (.int i t) (.int j u)) Q E s) :
    OpR X f (rI0 fun i j => .int (g i j)) := by
  intro pins s σ H x y v u Q I rx ry h
  obtain ⟨i, j, rfl, rfl, q⟩ := h
  obtain ⟨t, rfl⟩ := rx
  obtain ⟨t', rfl⟩ := ry
  exact rule i j t t' s _ _ ⟨.int (g i j), H, I.tok _, ⟨_, rfl⟩, q⟩
theorem opB0 {f : Value → Value → Sem Value} {g : Int → Int → Bool}
    (rule : ∀ (i j : Int) (t u : Tok) (s : Shared) (Q : Value → Shared → Prop) (E : Value → Shared → Prop), Q (.bool (g i j)) s → wpAny (model X.prog X.w) X.A (f (.int i t) (.int j u)) Q E s) :
    OpR X f (rI0 fun i j => .bl (g i j)) := by
  intro pins s σ H x y v u Q I rx ry h
  obtain ⟨i, j, rfl, rfl, q⟩ := h
  obtain ⟨t, rfl⟩ := rx
  obtain ⟨t', rfl⟩ := ry
  exact rule i j t t' s _ _ ⟨.bl (g i j), H, I, rfl, q⟩

def CDiv (i j : Int) : Prop := 0 < j ∧ j < 1073741824
def CPow (i j : Int) : Prop := 0 ≤ j ∧ j ≤ 1000000 ∧ i.natAbs < 2 ^ 64
def CMul (i j : Int) : Prop := (-(2 ^ 64) < i ∧ i < 2 ^ 64) ∨ (-(2 ^ 64) < j ∧ j < 2 ^ 64)
theorem CMul.ok {i j : Int} (h : CMul i j) : IntMulOk i j := by
  rcases h with ⟨h1, h2⟩ | ⟨h1, h2⟩
  · exact .of_left (intBits_le_64 h1 h2)
  · exact .of_right (intBits_le_64 h1 h2)
theorem two_pow_nn (k : Nat) : (0 : Int) ≤ 2 ^ k := by
  rw [two_pow_cast]
  exact Int.natCast_nonneg _

theorem op_add : OpR X (binaryOp .Add) (rI0 fun i j => .int (i + j)) := opI0 fun _ _ _ _ _ _ _ q => add_int q
theorem op_sub : OpR X (binaryOp .Sub) (rI0 fun i j => .int (i - j)) := opI0 fun _ _ _ _ _ _ _ q => sub_int q
theorem op_mul : OpR X (binaryOp .Mult) (rI CMul fun i j => .int (i * j)) := opI fun _ _ _ _ _ _ _ hc q => mul_int q hc.ok
/-- // by a positive divisor -/
theorem op_fdiv : OpR X (binaryOp .FloorDiv) (rI CDiv fun i j => .int (i / j)) := opI fun i j _ _ _ _ _ hc q => by
  have h1 : (0 : Int) < j := hc.1
  have h2 : j < 1073741824 := hc.2
  exact floordiv_int (by omega) (by rw [Int.fdiv_eq_ediv_of_nonneg i (by omega)]; exact q) (.inl (PyProof.noPylong_small (by omega)))
/-- % by a positive divisor of any size -/
theorem op_mod : OpR X (binaryOp .Mod) (rI (fun _ j => 0 < j) fun i j => .int (i % j)) := opI fun i j _ _ _ _ _ hc q => by
  have h1 : (0 : Int) < j := hc
  exact mod_int' (by omega) (by rw [Int.fmod_eq_emod_of_nonneg i (by omega)]; exact q)
theorem op_pow : OpR X (binaryOp .Pow) (rI CPow fun i j => .int (i ^ j.toNat)) := opI fun _ _ _ _ _ _ _ hc q => pow_int_small hc.1 hc.2.1 hc.2.2 q
theorem op_shr : OpR X (binaryOp .RShift) (rI (fun _ j => 0 ≤ j) fun i j => .int (i / 2 ^ j.toNat)) := opI fun i j _ _ _ _ _ hc q =>
  rshift_int hc (by rw [Int.fdiv_eq_ediv_of_nonneg i (two_pow_nn _)]; exact q)
theorem op_and : OpR X (binaryOp .BitAnd) (rI0 fun i j => .int (Builtin.bitAnd i j)) := opI0 fun _ _ _ _ _ _ _ q => and_int q
theorem op_or : OpR X (binaryOp .BitOr) (rI0 fun i j => .int (Builtin.bitOr i j)) := opI0 fun _ _ _ _ _ _ _ q => or_int q
/-! ### bools among ints: n += (a < b) -/
end

/-! ### comparisons -/
/-- the scalars that == tells apart as data does -/
def scal : V → V → Bool
  | .non, .non => true | .non, .int _ => true | .int _, .non => true | .non, .bl _ => true | .bl _, .non => true | .non, .str _ => true | .str _, .non => true
  | .int _, .int _ => true | .bl _, .bl _ => true | .str _, .str _ => true | .byt _, .byt _ => true
  | .int _, .str _ => true | .str _, .int _ => true | .bl _, .str _ => true | .str _, .bl _ => true
  | _, _ => false
def rEq : R2 := fun x y H Q => scal x y = true ∧ Q (.bl (decide (x = y))) H
def rNe : R2 := fun x y H Q => scal x y = true ∧ Q (.bl (!decide (x = y))) H

theorem dec_int {i j : Int} : decide (V.int i = V.int j) = (i == j) := by
  rw [Bool.eq_iff_iff]
  simp
theorem dec_bl {i j : Bool} : decide (V.bl i = V.bl j) = (i == j) := by
  rw [Bool.eq_iff_iff]
  simp
theorem dec_str {i j : Str} : decide (V.str i = V.str j) = (i == j) := by
  rw [Bool.eq_iff_iff]
  simp
theorem dec_byt {i j : Array UInt8} : decide (V.byt i = V.byt j) = (i.toList == j.toList) := by
  rw [Bool.eq_iff_iff]
  cases i
  cases j
  simp

section
variable {X : Cx} {a b c : Expr} {ta tb tc : TE} {pos : Pos}
theorem fin_bl {pins : List (Addr × Obj)} {σ : St} {H : Hp} {s : Shared} {Q : VK} {k k' : Bool} (I : Inv X pins σ H s) (q : Q (.bl k) H) (e : k = k') : EP X pins σ Q (.bool k') s := by
  subst e
  exact ⟨.bl k, H, I, rfl, q⟩
theorem op_eq : OpR X (compareOp .Eq) rEq := by
  intro pins s σ H x y v u Q I rx ry h
  obtain ⟨hs, q⟩ := h
  cases x with
  | non =>
    cases rx
    cases y with
    | non => cases ry; exact PySem.EqNone.eq_none_none (fin_bl I q (by simp))
    | bl j => cases ry; exact PySem.EqNone.eq_none_bool (fin_bl I q (by simp))
    | int j => obtain ⟨t', rfl⟩ := ry; exact PySem.EqNone.eq_none_int (fin_bl I q (by simp))
    | str j => obtain ⟨t', rfl⟩ := ry; exact PySem.EqNone.eq_none_str (fin_bl I q (by simp))
    | _ => exact absurd (show false = true from hs) Bool.false_ne_true
  | bl i =>
    cases rx
    cases y with
    | non => cases ry; exact PySem.EqNone.eq_bool_none (fin_bl I q (by simp))
    | bl j => cases ry; exact eq_bool (fin_bl I q dec_bl)
    | str j => obtain ⟨t', rfl⟩ := ry; exact PySem.EqMixed.eq_bool_str (fin_bl I q (by simp))
    | _ => exact absurd (show false = true from hs) Bool.false_ne_true
  | int i =>
    obtain ⟨t, rfl⟩ := rx
    cases y with
    | non => cases ry; exact PySem.EqNone.eq_int_none (fin_bl I q (by simp))
    | int j => obtain ⟨t', rfl⟩ := ry; exact eq_int (fin_bl I q dec_int)
    | str j => obtain ⟨t', rfl⟩ := ry; exact PySem.EqMixed.eq_int_str (fin_bl I q (by simp))
    | _ => exact absurd (show false = true from hs) Bool.false_ne_true
  | str i =>
    obtain ⟨t, rfl⟩ := rx
    cases y with
    | non => cases ry; exact PySem.EqNone.eq_str_none (fin_bl I q (by simp))
    | bl j => cases ry; exact PySem.EqMixed.eq_str_bool (fin_bl I q (by simp))
    | int j => obtain ⟨t', rfl⟩ := ry; exact PySem.EqMixed.eq_str_int (fin_bl I q (by simp))
    | str j => obtain ⟨t', rfl⟩ := ry; exact eq_str (fin_bl I q dec_str)
    | _ => exact absurd (show false = true from hs) Bool.false_ne_true
  | byt i =>
    obtain ⟨t, rfl⟩ := rx
    cases y with
    | byt j => obtain ⟨t', rfl⟩ := ry; exact PySem.W.eq_bytes (fin_bl I q dec_byt)
    | _ => exact absurd (show false = true from hs) Bool.false_ne_true
  | _ => cases y <;> exact absurd (show false = true from hs) Bool.false_ne_true
theorem op_ne : OpR X (compareOp .NotEq) rNe := by
  intro pins s σ H x y v u Q I rx ry h
  obtain ⟨hs, q⟩ := h
  cases x with
  | non =>
    cases rx
    cases y with
    | non => cases ry; exact PySem.EqNone.ne_none_none (fin_bl I q (by simp))
    | bl j => cases ry; exact PySem.EqNone.ne_none_bool (fin_bl I q (by simp))
    | int j => obtain ⟨t', rfl⟩ := ry; exact PySem.EqNone.ne_none_int (fin_bl I q (by simp))
    | str j => obtain ⟨t', rfl⟩ := ry; exact PySem.EqNone.ne_none_str (fin_bl I q (by simp))
    | _ => exact absurd (show false = true from hs) Bool.false_ne_true
  | bl i =>
    cases rx
    cases y with
    | non => cases ry; exact PySem.EqNone.ne_bool_none (fin_bl I q (by simp))
    | bl j => cases ry; exact ne_bool (fin_bl I q (congrArg not dec_bl))
    | str j => obtain ⟨t', rfl⟩ := ry; exact PySem.EqMixed.ne_bool_str (fin_bl I q (by simp))
    | _ => exact absurd (show false = true from hs) Bool.false_ne_true
  | int i =>
    obtain ⟨t, rfl⟩ := rx
    cases y with
    | non => cases ry; exact PySem.EqNone.ne_int_none (fin_bl I q (by simp))
    | int j => obtain ⟨t', rfl⟩ := ry; exact ne_int (fin_bl I q (congrArg not dec_int))
    | str j => obtain ⟨t', rfl⟩ := ry; exact PySem.EqMixed.ne_int_str (fin_bl I q (by simp))
    | _ => exact absurd (show false = true from hs) Bool.false_ne_true
  | str i =>
    obtain ⟨t, rfl⟩ := rx
    cases y with
    | non => cases ry; exact PySem.EqNone.ne_str_none (fin_bl I q (by simp))
    | bl j => cases ry; exact PySem.EqMixed.ne_str_bool (fin_bl I q (by simp))
    | int j => obtain ⟨t', rfl⟩ := ry; exact PySem.EqMixed.ne_str_int (fin_bl I q (by simp))
    | str j => obtain ⟨t', rfl⟩ := ry; exact ne_str (fin_bl I q (congrArg not dec_str))
    | _ => exact absurd (show false = true from hs) Bool.false_ne_true
  | byt i =>
    obtain ⟨t, rfl⟩ := rx
    cases y with
    | byt j => obtain ⟨t', rfl⟩ := ry; exact PySem.W.ne_bytes (fin_bl I q (congrArg not dec_byt))
    | _ => exact absurd (show false = true from hs) Bool.false_ne_true
  | _ => cases y <;> exact absurd (show false = true from hs) Bool.false_ne_true

theorem op_lt : OpR X (compareOp .Lt) (rI0 fun i j => .bl (decide (i < j))) := opB0 fun _ _ _ _ _ _ _ q => lt_int q
theorem op_gt : OpR X (compareOp .Gt) (rI0 fun i j => .bl (decide (j < i))) := opB0 fun _ _ _ _ _ _ _ q => gt_int q
theorem op_ge : OpR X (compareOp .GtE) (rI0 fun i j => .bl (decide (j ≤ i))) := opB0 fun _ _ _ _ _ _ _ q => ge_int q
/-- is None, is not None: the right side a value none -/
theorem op_isN : OpR X (compareOp .Is) (fun x y H Q => y = .non ∧ Q (.bl (decide (x = .non))) H) := by
  intro pins s σ H x y v u Q I rx ry h
  obtain ⟨rfl, q⟩ := h
  cases ry
  refine is_none_gen (fin_bl I q ?_)
  cases x <;> first
    | (cases rx; rfl)
    | (obtain ⟨t, rfl⟩ := rx; rfl)
theorem op_notN : OpR X (compareOp .IsNot) (fun x y H Q => y = .non ∧ Q (.bl (!decide (x = .non))) H) := by
  intro pins s σ H x y v u Q I rx ry h
  obtain ⟨rfl, q⟩ := h
  cases ry
  refine isnot_none_gen (fin_bl I q ?_)
  cases x <;> first
    | (cases rx; rfl)
    | (obtain ⟨t, rfl⟩ := rx; rfl)

theorem nomark (b : Expr) {op : CmpOp} (h : op ≠ .In := by decide) (h2 : op ≠ .NotIn := by decide) : behindInMarks op b = false := by
  have e1 : (op == CmpOp.In) = false := by cases op <;> first | rfl | exact absurd rfl h
  have e2 : (op == CmpOp.NotIn) = false := by cases op <;> first | rfl | exact absurd rfl h2
  cases b <;> simp [behindInMarks, e1, e2]
/-- a comparison as a value; hm: nomark b, or (for in, not in) by with_unfolding_all rfl -/
theorem pe_cmpR {op : CmpOp} {r : R2} (ho : OpR X (compareOp op) r) (ha : PE X a ta) (hb : PE X b tb) (hm : behindInMarks op b = false) : PE X (.Compare a [op] [b] pos) (tOp r ta tb) := by
  intro pins s σ H Q I h
  exact wpAny_Compare1 (binT ha hb I h fun v u s2 x y H2 I2 rx ry q => ho pins s2 σ H2 x y v u Q I2 rx ry q) hm
/-- a reading of a value as a test -/
def tTest (t : TE) : TT := fun σ H Q => t σ H fun x H' => ∃ k, x = .bl k ∧ Q k H'
theorem pt_cmpR {op : CmpOp} {r : R2} (ho : OpR X (compareOp op) r) (ha : PE X a ta) (hb : PE X b tb) (hm : behindInMarks op b = false) : PT X (.Compare a [op] [b] pos) (tTest (tOp r ta tb)) := by
  intro pins s σ H Q I h
  refine wpAny_isTrue_Compare1 (thn (ha pins s σ H _ I h) fun v s1 ⟨x, H1, I1, r1, q1⟩ => thn (hb pins s1 σ H1 _ I1 q1) fun u s2 ⟨y, H2, I2, r2, q2⟩ =>
    thn (ho pins s2 σ H2 x y v u _ I2 r1 r2 q2) fun c s3 ⟨z, H3, I3, r3, k, e, q3⟩ => ?_) hm
  subst e
  cases r3
  exact wpAny_truthy_bool ⟨H3, I3, q3⟩
/-! ### truth -/
/-- a value's truth by the abstract heap -/
def TruV (K : PySem.W.Frag) (x : V) (H : Hp) (k : Bool) : Prop :=
  match x with
  | .non => k = false
  | .bl b => k = b
  | .int i => k = (i != 0)
  | .str y => y.length ≤ sizeLine ∧ k = ((y.length : Int) != 0)
  | .byt y => y.size ≤ sizeLine ∧ k = ((y.size : Int) != 0)
  | .ref p => (∃ xs, SqL K H p xs ∧ k = !xs.isEmpty) ∨ (∃ xs, SqT K H p xs ∧ k = !xs.isEmpty) ∨ ∃ kvs, H p = some (.dK kvs) ∧ k = !kvs.isEmpty
  | _ => False
theorem isEmpty_kv {κ : Type} {kvs : List (κ × V)} {vs : List (κ × Value)} (r : KV kvs vs) : (!vs.isEmpty) = !kvs.isEmpty := by
  cases r <;> rfl
theorem isEmpty_of {xs : List V} {its : List Value} (r : Vals xs its) : (!its.toArray.isEmpty) = !xs.isEmpty := by
  cases r <;> simp
theorem line63 : (sizeLine : Nat) < 2 ^ 63 := by rw [sizeLine_eq]; decide
theorem tru_ok : TruR X (fun x H Q => ∃ k, TruV X.K x H k ∧ Q k H) := by
  intro pins s σ H x v Q I rx h
  obtain ⟨k, e, q⟩ := h
  have hl := line63
  have hs : sizeLine = 16777216 := sizeLine_eq
  cases x with
  | non =>
    cases rx
    have e' : k = false := e
    subst e'
    exact truthy_none ⟨H, I, q⟩
  | bl b =>
    cases rx
    have e' : k = b := e
    subst e'
    exact wpAny_truthy_bool ⟨H, I, q⟩
  | int i =>
    obtain ⟨t, rfl⟩ := rx
    have e' : k = (i != 0) := e
    subst e'
    exact PySem.P.truthy_int ⟨H, I, q⟩
  | str y =>
    obtain ⟨t, rfl⟩ := rx
    obtain ⟨hy, e'⟩ : y.length ≤ sizeLine ∧ k = ((y.length : Int) != 0) := e
    subst e'
    exact PySem.P.truthy_str (by omega) ⟨H, I.tok _, q⟩
  | byt y =>
    obtain ⟨t, rfl⟩ := rx
    obtain ⟨hy, e'⟩ : y.size ≤ sizeLine ∧ k = ((y.size : Int) != 0) := e
    subst e'
    exact PySem.W.truthy_bytes (by omega) ⟨H, I.tok _, q⟩
  | ref p =>
    cases rx
    have e' : (∃ xs, SqL X.K H p xs ∧ k = !xs.isEmpty) ∨ (∃ xs, SqT X.K H p xs ∧ k = !xs.isEmpty) ∨ ∃ kvs, H p = some (.dK kvs) ∧ k = !kvs.isEmpty := e
    rcases e' with ⟨xs, hx, e'⟩ | ⟨xs, hx, e'⟩ | ⟨kvs, hx, e'⟩
    · subst e'
      obtain ⟨its, r, pl, hz⟩ := I.list hx
      have hlen := r.length
      exact wpAny_truthy_list pl.isList (by simp only [List.size_toArray]; omega) ⟨H, I.tok _, by rw [isEmpty_of r]; exact q⟩
    · subst e'
      obtain ⟨its, r, pl, hz⟩ := I.tuple hx
      have hlen := r.length
      exact truthy_tuple pl (by simp only [List.size_toArray]; omega) ⟨H, I.tok _, by rw [isEmpty_of r]; exact q⟩
    · subst e'
      obtain ⟨hz, hS, vs, r, m⟩ : kvs.length ≤ sizeLine ∧ (p == sysModules) = false ∧ ∃ vs, KV kvs vs ∧ s.heap.DictOf (mixKind X.prog X.w) p vs := I.hok p _ hx
      have hlen : kvs.length = vs.length := Paired.length r
      exact wpAny_truthy_dict hS m (by omega) ⟨H, I.tok _, by rw [isEmpty_kv r]; exact q⟩
  | _ => exact (show False from e).elim
/-- any expression whose test is its value's truth (a name, a call, a subscript, a field ..: he by fun _ => rfl) -/
theorem pt_truth (ha : PE X a ta) (he : ∀ whole, isTrue a X.env whole = (do let v ← whole; standAt a.pos; holding [v] (truthy v))) :
    PT X a (fun σ H Q => ta σ H fun x H' => ∃ k, TruV X.K x H' k ∧ Q k H') := by
  intro pins s σ H Q I h
  exact isTrue_plain (thn (ha pins s σ H _ I h) fun v s1 ⟨x, H1, I1, r1, q1⟩ => tru_ok pins s1 σ H1 x v Q I1 r1 q1) (he _)

/-! ### strs and bytes -/
/-! ### scalar builtins, by CallR -/
theorem vals1 {x : V} {us : List Value} (r : Vals [x] us) : ∃ u, us = [u] ∧ RelV x u := by
  cases r with
  | cons r1 r2 => cases r2; exact ⟨_, rfl, r1⟩
theorem vals2 {x y : V} {us : List Value} (r : Vals [x, y] us) : ∃ u w', us = [u, w'] ∧ RelV x u ∧ RelV y w' := by
  cases r with
  | cons r1 r2 =>
    cases r2 with
    | cons r3 r4 => cases r4; exact ⟨_, _, rfl, r1, r3⟩
theorem call_min2 (hc : X.calm = true) : CallR X (.builtin "min") (fun xs H Q => ∃ i j, xs = [.int i, .int j] ∧ Q (.int (if j < i then j else i)) H) := by
  intro pins s σ H xs us Q I r h
  obtain ⟨i, j, rfl, q⟩ := h
  obtain ⟨u, w', rfl, ⟨t, rfl⟩, ⟨t', rfl⟩⟩ := vals2 r
  refine min_two_ints (I.ok.hd hc) fun h' tk k => ⟨_, H, I.kept k, ?_, q⟩
  by_cases hj : j < i
  · rw [if_pos hj, if_pos hj]; exact ⟨_, rfl⟩
  · rw [if_neg hj, if_neg hj]; exact ⟨_, rfl⟩
end
end L2

namespace L2
open PySem PySem.Spec PyProof.Rows

/-! ### an instance, its attributes a map -/
structure ObjM (h : Heap) (x dx C : Addr) (mA : Str → Option Value) : Prop where
  obj : h.get? x = some (PySem.W.instObj C dx)
  ns : h.Ns1 dx mA
  ne : dx ≠ x

theorem lookIn_ns {h : Heap} {dx : Addr} {mA : Str → Option Value} (n : h.Ns1 dx mA) : ∃ od, h.get? dx = some od ∧ ∀ name, PySem.W.lookIn name od = some (mA name) := by
  obtain ⟨o, es, ep, ho, hd, hk, _, hm⟩ := n
  refine ⟨o, ho, fun name => ?_⟩
  have e := hm name
  unfold nsFind findBy at e
  rw [← Array.find?_toList] at e
  unfold PySem.W.lookIn
  rw [hd]
  dsimp only
  split
  · rename_i y q
    rw [q] at e
    exact congrArg some e
  · rename_i q
    rw [q] at e
    have a : es.toList.any (·.refKey) = false := by
      rw [List.any_eq_false]
      intro y hy
      obtain ⟨z, t, hkey⟩ := hk y (Array.mem_toList_iff.mp hy)
      simp [DictEntry.refKey, hkey]
    have a' : ¬ es.toList.any (·.refKey) = true := by rw [a]; exact Bool.false_ne_true
    rw [if_neg a']
    exact congrArg some e

theorem ObjM.look {h : Heap} {x dx C : Addr} {mA : Str → Option Value} (I : ObjM h x dx C mA) : ∃ od, PySem.W.InstAt h x (PySem.W.instObj C dx) C (some od) ∧ ∀ name, PySem.W.lookIn name od = some (mA name) :=
  let ⟨od, ho, hl⟩ := lookIn_ns I.ns
  ⟨od, ⟨I.obj, rfl, rfl, ho⟩, hl⟩

section
variable {prog : Program} {w : World} {A : Around} {E : Value → Shared → Prop} {s : Shared} {K : PySem.W.Frag} {x dx C f : Addr} {mA : Str → Option Value} {name : Str} {v : Value}

theorem get_map {expr : Bool} {Q : Value → Shared → Prop} (X : K.In s.heap) (I : ObjM s.heap x dx C mA) (hg : PySem.W.plainGet K C name = true) (hh : PySem.W.hasDictIn K C = true)
    (ha : PySem.W.findIn K (.ref C) name = some none) (hv : mA name = some v) (hv' : PySem.W.handedIn v = true) (h : Q v { s with toks := s.toks + 1 }) :
    wpAny (model prog w) A (getAttr (.ref x) name expr) Q E s := by
  obtain ⟨od, J, hl⟩ := I.look
  exact PySem.W.get_value X J (PySem.W.plainGet_of hg).1 (PySem.W.findObj_own hh ha rfl (by rw [hl, hv])) hv' h

theorem get_meth {pl : Sem Bool} {Q : Value × List Value → Shared → Prop} (X : K.In s.heap) (I : ObjM s.heap x dx C mA) (hg : PySem.W.plainGet K C name = true)
    (hf : PySem.W.findIn K (.ref C) name = some (some (.ref f))) (ht : PySem.W.isFn K (.ref f) = true) (hv : mA name = none) (h : Q (.ref f, [.ref x]) s) :
    wpAny (model prog w) A (getMethod (.ref x) name pl) Q E s := by
  obtain ⟨od, J, hl⟩ := I.look
  exact PySem.W.method_fn X J (PySem.W.plainGet_of hg).1 (PySem.W.plainGet_of hg).2 hf (beq_iff_eq.mp ht) (by show (PySem.W.lookIn name od).map (·.isSome) = some false; rw [hl, hv]; rfl) h

theorem set_map {ns : List Str} {Q : Unit → Shared → Prop} (X : K.In s.heap) (I : ObjM s.heap x dx C mA)
    (hs : PySem.W.findIn K (.ref C) "__setattr__" = some (some (.builtin "object.__setattr__"))) (hp : PySem.W.plainOver K C = true) (ht : PySem.W.takerIn K C name = some none) (hh : PySem.W.hasDictIn K C = true)
    (hw : PySem.Within mA ns) (hsz : ns.length ≤ sizeLine)
    (h : ∀ h', ObjM h' x dx C (fun y => if y = name then some v else mA y) → Heap.SameBut dx s.heap h' → Q () { s with heap := h', toks := s.toks + 2 }) :
    wpAny (model prog w) A (setAttr (.ref x) name v) Q E s := by
  obtain ⟨od, J, hl⟩ := I.look
  refine PySem.W.set_plain X J hs (PySem.W.osa_open (s := { s with toks := s.toks + 1 }) (r := none) X J hp ht fun b => ?_)
  obtain ⟨cd, hc, hd'⟩ := PySem.W.any_some hh
  have hx : s.heap.get? x = some ⟨.ref C, some dx, .plain, #[]⟩ := I.obj
  refine wpAny_bind (wpAny_pure (wpAny_bind (wpAny_bind (wpAny_loadPart hx (wpAny_bind (PySem.W.Looks.here (s := { s with toks := s.toks + 1 }) (PySem.W.looks_clsIn X hc) ?_))))))
  rw [hd']
  refine wpAny_pure (a := some dx) (wpAny_bind (wpAny_pure (wpAny_bind ?_)))
  refine wpAny_nsSet1 (s := { s with toks := s.toks + 1 }) I.ns fun h' hn2 hs2 => ?_
  obtain ⟨oD, esD, epD, hoD, hdD, hcD⟩ := hn2.count (PySem.Within.cons name v hw)
  refine wpAny_bind (wpAny_lookBehind hoD (by rw [hdD]; exact pastItsLine_dict (Nat.le_trans hcD (by rw [List.length_cons]; omega))) ?_)
  exact wpAny_pure (h _ ⟨(hs2.2 _ (Ne.symm I.ne)).trans I.obj, hn2, I.ne⟩ hs2)

/-- C(..): the dict at the heap's end, the instance behind it; then its __init__ -/
theorem make_map {R : Result → Shared → Prop} {vs : List Value} {kw : List (Str × Value)} (X : K.In s.heap) (hm : PySem.W.makesIn K C = true)
    (hi : PySem.W.findIn K (.ref C) "__init__" = some (some (.ref f))) (hf : PySem.W.typeIn K (.ref f) = some (.type "function"))
    (h : codeAny (model prog w) (A.under (.builtin "type.__call__" ⟨.ref C :: vs, kw⟩)) (.call (.ref f) ⟨.ref (s.heap.objs.size + 1) :: vs, kw⟩) (PySem.W.InitBack (s.heap.objs.size + 1) R)
      { s with heap := (s.heap.push PySem.W.emptyDict).push (PySem.W.instObj C s.heap.objs.size) }) :
    codeAny (model prog w) A (.call (.ref C) ⟨vs, kw⟩) R s := by
  obtain ⟨hh, g, d, t, os⟩ := s
  exact PySem.W.make_core (PySem.W.makes_of X hm) (PySem.W.looks_findIn X hi) (fun self => PySem.W.bind_fn X self hf) (.inl rfl) h
end

/-! ### the attributes as a list of pairs -/
def putF (f : Str) (v : V) : List (Str × V) → List (Str × V)
  | [] => [(f, v)]
  | (g, x) :: r => if g = f then (g, v) :: r else (g, x) :: putF f v r
theorem lookup_putF (f g : Str) (v : V) : ∀ fs : List (Str × V), (putF f v fs).lookup g = if g = f then some v else fs.lookup g
  | [] => by
    show List.lookup g [(f, v)] = _
    by_cases h : g = f
    · have hb : (g == f) = true := beq_iff_eq.mpr h
      simp only [List.lookup, hb, if_pos h]
    · have hb : (g == f) = false := beq_eq_false_iff_ne.mpr h
      simp only [List.lookup, hb, if_neg h]
  | (k, x) :: r => by
    have ih := lookup_putF f g v r
    rw [show putF f v ((k, x) :: r) = (if k = f then (k, v) :: r else (k, x) :: putF f v r) from rfl]
    by_cases hk : k = f
    · rw [if_pos hk]
      by_cases h : g = k
      · have hb : (g == k) = true := beq_iff_eq.mpr h
        simp only [List.lookup, hb, if_pos (h.trans hk)]
      · have hb : (g == k) = false := beq_eq_false_iff_ne.mpr h
        simp only [List.lookup, hb, if_neg (fun e : g = f => h (e.trans hk.symm))]
    · rw [if_neg hk]
      by_cases h : g = k
      · have hb : (g == k) = true := beq_iff_eq.mpr h
        simp only [List.lookup, hb, if_neg (fun e : g = f => hk (h.symm.trans e))]
      · have hb : (g == k) = false := beq_eq_false_iff_ne.mpr h
        simp only [List.lookup, hb]
        exact ih
theorem keys_putF (f : Str) (v : V) : ∀ fs : List (Str × V), f ∈ (putF f v fs).map (·.1) ∧ ∀ g, g ∈ fs.map (·.1) → g ∈ (putF f v fs).map (·.1)
  | [] => ⟨by simp [putF], fun g h => by simp at h⟩
  | (k, x) :: r => by
    obtain ⟨i1, i2⟩ := keys_putF f v r
    rw [show putF f v ((k, x) :: r) = (if k = f then (k, v) :: r else (k, x) :: putF f v r) from rfl]
    by_cases hk : k = f
    · rw [if_pos hk]
      subst hk
      exact ⟨by simp, fun g h => by simpa using h⟩
    · rw [if_neg hk]
      refine ⟨?_, fun g h => ?_⟩
      · rw [List.map_cons]
        exact List.mem_cons_of_mem _ i1
      · rw [List.map_cons] at h ⊢
        rcases List.mem_cons.mp h with e | e
        · exact List.mem_cons.mpr (.inl e)
        · exact List.mem_cons_of_mem _ (i2 g e)
theorem length_putF (f : Str) (v : V) : ∀ fs : List (Str × V), (putF f v fs).length ≤ fs.length + 1
  | [] => by simp [putF]
  | (k, x) :: r => by
    have ih := length_putF f v r
    rw [show putF f v ((k, x) :: r) = (if k = f then (k, v) :: r else (k, x) :: putF f v r) from rfl]
    by_cases hk : k = f
    · rw [if_pos hk, List.length_cons, List.length_cons]; omega
    · rw [if_neg hk, List.length_cons, List.length_cons]; omega

theorem RelO.some_of {v : V} {o : Option Value} (r : RelO (some v) o) : ∃ u, o = some u ∧ RelV v u := by
  cases o with
  | none => exact (show False from r).elim
  | some u => exact ⟨u, rfl, r⟩
theorem RelO.none_of {o : Option Value} (r : RelO none o) : o = none := by
  cases o with
  | none => rfl
  | some u => exact (show False from r).elim
theorem handed_of {v : V} {u : Value} (r : RelV v u) : PySem.W.handedIn u = true := by
  cases v with
  | non => cases (show u = Value.none from r); rfl
  | bl b => cases (show u = Value.bool b from r); rfl
  | int i => obtain ⟨t, e⟩ := (show ∃ t, u = Value.int i t from r); cases e; rfl
  | str x => obtain ⟨t, e⟩ := (show ∃ t, u = Value.str x t from r); cases e; rfl
  | byt b => obtain ⟨t, e⟩ := (show ∃ t, u = Value.bytes b t from r); cases e; rfl
  | flt b => obtain ⟨t, e⟩ := (show ∃ t, u = Value.float b t from r); cases e; rfl
  | ref a => cases (show u = Value.ref a from r); rfl
  | ty n => cases (show u = Value.type n from r); rfl

section
variable {P : Program} {w : World} {H H' : Hp} {h h' : Heap} {a C dx : Addr} {fs fs' : List (Str × V)}
theorem ins_get (hok : HOk P w H h) (e : H a = some (.ins C dx fs)) : ∃ mA, ObjM h a dx C mA ∧ (∀ f, RelO (fs.lookup f) (mA f)) ∧ PySem.Within mA (fs.map (·.1)) ∧ fs.length ≤ 1000 ∧ H dx = some (.own a) := by
  obtain ⟨d, z, ne, ob, mA, n, r, q⟩ := (show ObjOk P w H h a (.ins C dx fs) from hok a _ e)
  exact ⟨mA, ⟨ob, n, ne⟩, r, q, z, d⟩
end

/-! ### what of the text a class must have -/
structure Cls (K : PySem.W.Frag) (C : Addr) : Prop where
  pg : PySem.W.plainGet K C Str.empty = true
  hd : PySem.W.hasDictIn K C = true
  po : PySem.W.plainOver K C = true
  sa : PySem.W.findIn K (.ref C) "__setattr__" = some (some (.builtin "object.__setattr__"))
theorem Cls.get {K : PySem.W.Frag} {C : Addr} (c : Cls K C) (f : Str) : PySem.W.plainGet K C f = true := c.pg
/-- no class of it has the name -/
def NoAttr (K : PySem.W.Frag) (C : Addr) (f : Str) : Prop := PySem.W.findIn K (.ref C) f = some none
theorem NoAttr.taker {K : PySem.W.Frag} {C : Addr} {f : Str} (n : NoAttr K C f) : PySem.W.takerIn K C f = some none := by
  unfold PySem.W.takerIn
  rw [show PySem.W.findIn K (.ref C) f = some none from n]
  rfl
/-- a constant of the class -/
structure Con (K : PySem.W.Frag) (C : Addr) (f : Str) (v : V) (u : Value) : Prop where
  at_ : PySem.W.findIn K (.ref C) f = some (some u)
  rel : RelV v u
  get : PySem.W.specialIn K u "__get__" = some none
  cp : PySem.W.copiedNames.contains f = false
/-- a method: a plain def of the class or of one above it -/
structure Meth (K : PySem.W.Frag) (C : Addr) (m : Str) (f : Addr) : Prop where
  at_ : PySem.W.findIn K (.ref C) m = some (some (.ref f))
  fn : PySem.W.isFn K (.ref f) = true
  kp : PySem.W.keepIn K (.ref f) = true

section
variable {X : Cx} {pins : List (Addr × Obj)} {σ : St} {H : Hp} {s : Shared} {a C dx : Addr} {fs : List (Str × V)} {f : Str} {v : V} {A : Around} {E : Value → Shared → Prop}

theorem getattr_ok {b : Bool} {Q : Value → Shared → Prop} (I : Inv X pins σ H s) (e : H a = some (.ins C dx fs)) (c : Cls X.K C) (n : NoAttr X.K C f) (l : fs.lookup f = some v)
    (h : ∀ u s', Inv X pins σ H s' → RelV v u → Q u s') : wpAny (model X.prog X.w) A (getAttr (.ref a) f b) Q E s := by
  obtain ⟨mA, O, r, _, _, _⟩ := ins_get I.hok e
  obtain ⟨u, hu, ru⟩ := RelO.some_of (v := v) (o := mA f) (by rw [← l]; exact r f)
  exact get_map I.kIn O (c.get f) c.hd n hu (handed_of ru) (h u _ (I.tok _) ru)

theorem getmeth_ok {m : Str} {g : Addr} {pl : Sem Bool} {Q : Value × List Value → Shared → Prop} (I : Inv X pins σ H s) (e : H a = some (.ins C dx fs)) (c : Cls X.K C) (k : Meth X.K C m g) (l : fs.lookup m = none)
    (h : Q (.ref g, [.ref a]) s) : wpAny (model X.prog X.w) A (getMethod (.ref a) m pl) Q E s := by
  obtain ⟨mA, O, r, _, _, _⟩ := ins_get I.hok e
  have hn : mA m = none := RelO.none_of (by rw [← l]; exact r m)
  exact get_meth I.kIn O (c.get m) k.at_ k.fn hn h

theorem setattr_ok {y : V} {u : Value} {Q : Unit → Shared → Prop} (I : Inv X pins σ H s) (e : H a = some (.ins C dx fs)) (c : Cls X.K C) (n : NoAttr X.K C f) (hl : fs.length < 1000) (ry : RelV y u)
    (h : ∀ s', Inv X pins σ (upd H a (.ins C dx (putF f y fs))) s' → Q () s') : wpAny (model X.prog X.w) A (setAttr (.ref a) f u) Q E s := by
  obtain ⟨mA, O, r, wi, _, ho⟩ := ins_get I.hok e
  have hz : (fs.map (·.1)).length ≤ sizeLine := by rw [List.length_map, sizeLine_eq]; omega
  refine set_map I.kIn O c.sa c.po n.taker c.hd wi hz fun h' O' sb => h _ ?_
  have hd : ∃ o, h'.get? dx = some o := let ⟨o, _, _, e', _⟩ := O'.ns; ⟨o, e'⟩
  refine I.write (x := a) (e := dx) (by rw [e]; exact True.intro) (.inr ho) (fun b q hb z => (sb.2 b hb).trans z) hd ?_
  refine ⟨by rw [upd_ne O.ne]; exact ho, ?_, O.ne, O'.obj, _, O'.ns, fun g => ?_, fun g hg => ?_⟩
  · have := length_putF f y fs; omega
  · show RelO ((putF f y fs).lookup g) (if g = f then some u else mA g)
    rw [lookup_putF]
    by_cases q : g = f
    · rw [if_pos q, if_pos q]; exact ry
    · rw [if_neg q, if_neg q]; exact r g
  · by_cases q : g = f
    · rw [q]; exact (keys_putF f y fs).1
    · refine (keys_putF f y fs).2 g (wi g fun z => hg ?_)
      show (if g = f then some u else mA g) = none
      rw [if_neg q]; exact z

/-- a new instance, tracked, without attributes -/
theorem Inv.made (I : Inv X pins σ H s) : Inv X pins σ (upd (upd H s.heap.objs.size (.own (s.heap.objs.size + 1))) (s.heap.objs.size + 1) (.ins C s.heap.objs.size []))
    { s with heap := (s.heap.push PySem.W.emptyDict).push (PySem.W.instObj C s.heap.objs.size) } := by
  have e1 : (s.heap.push PySem.W.emptyDict).get? s.heap.objs.size = some PySem.W.emptyDict := Heap.get?_push_size s.heap rfl
  have e2 : ((s.heap.push PySem.W.emptyDict).push (PySem.W.instObj C s.heap.objs.size)).get? (s.heap.objs.size + 1) = some (PySem.W.instObj C s.heap.objs.size) := by
    have := Heap.get?_push_size (s.heap.push PySem.W.emptyDict) (o := PySem.W.instObj C s.heap.objs.size) rfl
    rwa [Heap.size_push] at this
  have e3 : (s.heap.push PySem.W.emptyDict).Ns s.heap.objs.size (fun _ => none) := ⟨PySem.W.emptyDict, #[], _, e1, rfl, (fun e he => absurd he (by simp)), fun _ => rfl⟩
  have I1 := I.laid (a := s.heap.objs.size) (o := .own (s.heap.objs.size + 1)) (h' := s.heap.push PySem.W.emptyDict) (t' := s.toks) (fun b u q => Heap.get?_push_of_some _ q) (Nat.le_refl _) ⟨_, e1⟩
  refine I1.laid (a := s.heap.objs.size + 1) (o := .ins C s.heap.objs.size []) (t' := s.toks) (fun b u q => Heap.get?_push_of_some _ q) (Nat.le_of_eq (Heap.size_push _ _)) ?_
  have ne : s.heap.objs.size ≠ s.heap.objs.size + 1 := Nat.ne_of_lt (Nat.lt_succ_self _)
  refine ⟨by rw [upd_ne ne, upd_same], Nat.zero_le _, ne, e2, fun _ => none, (Heap.Ns1.of_empty e3).at fun o q => Heap.get?_push_of_some _ q, fun _ => True.intro, fun y hy => absurd rfl hy⟩

/-- e.f where nothing but the object is asked: through attributeBase (super) and the last hold -/
theorem attr_of {prog : Program} {w : World} {env : Env} {e : Expr} {f : Str} {pos : Pos} {s : Shared} {Q : Value → Shared → Prop} (hb : attributeBase e f env (eval e env) = eval e env)
    (h : wpAny (model prog w) A (eval e env) (fun o s₁ => wpAny (model prog w) A (getAttr o f true) Q E s₁) E s) : wpAny (model prog w) A (eval (.Attribute e f pos) env) Q E s :=
  Attribute_any_ h (by rw [arm_eval_Attribute, hb])
end

/-! ### readings and rules -/
/-- e.f, an attribute of the instance -/
def tFld (K : PySem.W.Frag) (ta : TE) (f : Str) : TE := fun σ H Q => ta σ H fun x H1 => ∃ a C dx fs v, x = .ref a ∧ H1 a = some (.ins C dx fs) ∧ Cls K C ∧ NoAttr K C f ∧ fs.lookup f = some v ∧ Q v H1
/-- e.f = value -/
def sFld (K : PySem.W.Frag) (ta tv : TE) (f : Str) : TS := fun D σ H => tv σ H fun y H1 => ta σ H1 fun x H2 => ∃ a C dx fs, x = .ref a ∧ H2 a = some (.ins C dx fs) ∧ Cls K C ∧ NoAttr K C f ∧ fs.length < 1000 ∧
  D.nx σ (upd H2 a (.ins C dx (putF f y fs)))
section
variable {X : Cx} {o e value : Expr} {f : Str} {pos pos' tpos : Pos} {ta tv : TE}
theorem pe_fld (he : PE X e ta) (hb : attributeBase e f X.env (eval e X.env) = eval e X.env) : PE X (.Attribute e f pos) (tFld X.K ta f) := by
  intro pins s σ H Q I h
  refine attr_of hb (thn (he pins s σ H _ I h) fun u s1 ⟨x, H1, I1, rx, a, C, dx, fs, v, ex, ea, c, n, l, q⟩ => ?_)
  subst ex
  obtain rfl : u = Value.ref a := rx
  exact getattr_ok I1 ea c n l fun u' s2 I2 ru => ⟨v, H1, I2, ru, q⟩
theorem ps_fld (ha : PE X o ta) (hv : PE X value tv) (hs : swapsWith value (some (.Attribute o f pos')) pos.line X.env = pure false) : PS X (.Assign [.Attribute o f pos'] value pos) (sFld X.K ta tv f) := by
  intro pins s σ H D I h
  refine plainObj_wpAny_Assign_Attribute (thn (hv pins s σ H _ I h) fun u s1 ⟨y, H1, I1, ry, q⟩ => thn (ha pins s1 σ H1 _ I1 q) fun ov s2 ⟨x, H2, I2, rx, a, C, dx, fs, ex, ea, c, n, l, q2⟩ => ?_) hs
  subst ex
  obtain rfl : ov = Value.ref a := rx
  exact setattr_ok I2 ea c n l ry fun s3 I3 => ⟨σ, _, I3, q2⟩
end

/-! ### isinstance -/
section
variable {X : Cx} {pins : List (Addr × Obj)} {σ : St} {H : Hp} {s : Shared} {A : Around} {E : Value → Shared → Prop} {Q : Value → Shared → Prop} {c : Value} {b : Bool}
/-- the type of a value, as the fragment's deciders take it; for an instance its class -/
inductive TyOf (K : PySem.W.Frag) (H : Hp) : V → Value → Prop where
  | non : TyOf K H .non (.type "NoneType")
  | bl (x : Bool) : TyOf K H (.bl x) (.type "bool")
  | int (i : Int) : TyOf K H (.int i) (.type "int")
  | str (x : Str) : TyOf K H (.str x) (.type "str")
  | flt (x : UInt64) : TyOf K H (.flt x) (.type "float")
  | lst {a : Addr} {xs : List V} (e : H a = some (.lst xs)) : TyOf K H (.ref a) (.type "list")
  | frz {a : Addr} {o : Obj} {xs : List V} (e : H a = some (.frz o (.lst xs))) : TyOf K H (.ref a) (.type "list")
  | tup {a : Addr} {xs : List V} (e : H a = some (.tup xs)) : TyOf K H (.ref a) (.type "tuple")
  | dK {a : Addr} {kvs : List (Key × V)} (e : H a = some (.dK kvs)) : TyOf K H (.ref a) (.type "dict")
  | dT {a : Addr} {kvs : List (List Key × V)} (e : H a = some (.dT kvs)) : TyOf K H (.ref a) (.type "dict")
  | ins {a C dx : Addr} {fs : List (Str × V)} (e : H a = some (.ins C dx fs)) (cl : Cls K C) (ha : PySem.W.findIn K (.ref C) "__class__" = some (some (.builtin "object.__class__")))
      (hn : PySem.W.specialIn K (.builtin "object.__class__") "__get__" = some (some (.builtin "getset_descriptor.__get__"))) (htk : PySem.W.takesIn K (.builtin "object.__class__") = some true)
      (hm : PySem.W.mroIn K C (.type "object") = some true) : TyOf K H (.ref a) (.ref C)
/-- isinstance(x, c) for one class c, a built-in or an own one: kitOne's answer -/
theorem isinst_ok {x : V} {u t : Value} (I : Inv X pins σ H s) (rx : RelV x u) (ty : TyOf X.K H x t) (e : PySem.W.kitOne X.K t c = some b) (h : ∀ tk, Q (.bool b) { s with toks := tk }) :
    wpAny (model X.prog X.w) A (call (.builtin "isinstance") [u, c]) Q E s := by
  cases ty with
  | non => cases (show u = Value.none from rx); exact PySem.W.kia_one PySem.W.kitx_none I.kIn True.intro e (fun z => nomatch z) h
  | bl y => cases (show u = Value.bool y from rx); exact PySem.W.kia_one PySem.W.kitx_bool I.kIn True.intro e (fun z => nomatch z) h
  | int i => obtain ⟨t, q⟩ := (show ∃ t, u = Value.int i t from rx); cases q; exact PySem.W.kia_one PySem.W.kitx_int I.kIn True.intro e (fun z => nomatch z) h
  | str y => obtain ⟨t, q⟩ := (show ∃ t, u = Value.str y t from rx); cases q; exact PySem.W.kia_one PySem.W.kitx_str I.kIn True.intro e (fun z => nomatch z) h
  | flt y => obtain ⟨t, q⟩ := (show ∃ t, u = Value.float y t from rx); cases q; exact PySem.W.kia_one PySem.W.kitx_float I.kIn True.intro e (fun z => nomatch z) h
  | @lst a xs ea =>
    cases (show u = Value.ref a from rx)
    obtain ⟨_, _, n, _, h1⟩ := (show ObjOk X.prog X.w H s.heap a (.lst xs) from I.hok a _ ea)
    exact PySem.W.kia_one PySem.W.kitx_list I.kIn ⟨_, h1, rfl⟩ e (fun z => nomatch z) h
  | @frz a ob xs ea =>
    cases (show u = Value.ref a from rx)
    obtain ⟨_, _, _, n, _, h1⟩ := (show ObjOk X.prog X.w H s.heap a (.frz ob (.lst xs)) from I.hok a _ ea)
    exact PySem.W.kia_one PySem.W.kitx_list I.kIn ⟨_, h1, rfl⟩ e (fun z => nomatch z) h
  | @tup a xs ea =>
    cases (show u = Value.ref a from rx)
    obtain ⟨_, _, _, p⟩ := (show ObjOk X.prog X.w H s.heap a (.tup xs) from I.hok a _ ea)
    obtain ⟨o, h1, h2, _⟩ := p
    exact PySem.W.kia_one PySem.W.kitx_tuple I.kIn ⟨o, h1, h2⟩ e (fun z => nomatch z) h
  | @dK a kvs ea =>
    cases (show u = Value.ref a from rx)
    obtain ⟨_, _, vs, _, p⟩ := (show ObjOk X.prog X.w H s.heap a (.dK kvs) from I.hok a _ ea)
    obtain ⟨o, es, ep, h1, h2, _⟩ := p
    exact PySem.W.kia_one PySem.W.kitx_dict I.kIn ⟨o, h1, h2.1⟩ e (fun z => nomatch z) h
  | @dT a kvs ea =>
    cases (show u = Value.ref a from rx)
    obtain ⟨_, _, xs, _, o, es, ep, h1, h2, _⟩ := (show ObjOk X.prog X.w H s.heap a (.dT kvs) from I.hok a _ ea)
    exact PySem.W.kia_one PySem.W.kitx_dict I.kIn ⟨o, h1, h2.1⟩ e (fun z => nomatch z) h
  | @ins a C dx fs ea cl ha hn htk hm =>
    cases (show u = Value.ref a from rx)
    obtain ⟨mA, O, _⟩ := ins_get I.hok ea
    obtain ⟨od, J, _⟩ := O.look
    exact PySem.W.kia_one (PySem.W.kitx_own (cl.get _) cl.hd ha hn htk hm) I.kIn J e (fun z => nomatch z) h
end
end L2

namespace L2
open PySem PySem.Spec PyProof.Rows

/-! ### room -/
structure Room (k : Nat) (A : Around) : Prop where
  hd : A.handled = none
  dp : A.depth + 3 * k + 5 < recursionLimit
  un : A.units + 16 * k + 200 < cLine
theorem Room.mono {j k : Nat} {A : Around} (r : Room k A) (h : j ≤ k) : Room j A := ⟨r.hd, by have := r.dp; omega, by have := r.un; omega⟩
theorem Room.deeper {k : Nat} {A : Around} (r : Room (k + 1) A) (env : Env) : Room k (A.deeper env) :=
  ⟨r.hd, by have := r.dp; show A.depth + 1 + 3 * k + 5 < _; omega, by have := r.un; show A.units + 3 + 16 * k + 200 < _; omega⟩
theorem Room.in1 {k : Nat} {A : Around} (r : Room (k + 1) A) : Room k A.in1 :=
  ⟨r.hd, by have := r.dp; show A.depth + 3 * k + 5 < _; omega, by have := r.un; show A.units + 1 + 16 * k + 200 < _; omega⟩
theorem make_depth {A : Around} {C : Addr} {us : List Value} {kw : List (Str × Value)} : (A.under (.builtin "type.__call__" ⟨.ref C :: us, kw⟩)).depth = A.depth + 1 := by
  first | rfl | simp [Around.under, Code.weight, Code.isCreation, Code.isGuard, Code.isCaller, Code.frames, Code.isFrame, guardIds]
theorem make_units {A : Around} {C : Addr} {us : List Value} {kw : List (Str × Value)} : (A.under (.builtin "type.__call__" ⟨.ref C :: us, kw⟩)).units = A.units + 1 := by
  first | rfl | simp [Around.under, Code.cUnits, Code.frames, Code.isFrame]
theorem Room.make {k : Nat} {A : Around} (r : Room (k + 1) A) (C : Addr) (us : List Value) (kw : List (Str × Value)) : Room k (A.under (.builtin "type.__call__" ⟨.ref C :: us, kw⟩)) :=
  ⟨r.hd, by have := r.dp; rw [make_depth]; omega, by have := r.un; rw [make_units]; omega⟩
theorem Room.depth {k : Nat} {A : Around} (r : Room k A) : A.depth < recursionLimit := by have := r.dp; omega
theorem Room.units {k : Nat} {A : Around} (r : Room k A) : A.units + 64 < cLine := by have := r.un; omega
/-! ### argument lists and displays -/
def tNil : TA := fun _ H Q => Q [] H
def tCons (ta : TE) (tr : TA) : TA := fun σ H Q => ta σ H fun x H1 => tr σ H1 fun xs H2 => Q (x :: xs) H2
section
variable {X : Cx} {e : Expr} {es : List Expr} {te : TE} {t : TA} {pos : Pos}
theorem pa_nil : PA X [] tNil := fun _ _ _ _ H Q I h => Calls.spliced_nil ⟨[], H, I, .nil, h⟩
theorem pa_cons (ha : PE X e te) (hr : PA X es t) (hs : starEach (e :: es) X.env = (false, eval e X.env) :: starEach es X.env := by rfl) : PA X (e :: es) (tCons te t) := by
  intro pos pins s σ H Q I h
  rw [hs]
  show wpAny _ _ (spliced ((false, eval e X.env) :: backTo pos (starEach es X.env))) _ _ s
  refine Calls.spliced_cons (thn (ha pins s σ H _ I h) fun u s1 ⟨x, H1, I1, r1, q1⟩ => ?_)
  exact thn (hr pos pins s1 σ H1 _ I1 q1) fun us s2 ⟨xs, H2, I2, r2, q2⟩ => ⟨x :: xs, H2, I2, .cons r1 r2, q2⟩

/-- a tuple, a list of written items -/
def tTup (t : TA) : TE := fun σ H Q => t σ H fun xs H1 => xs.length ≤ sizeLine ∧ ∀ p, H1 p = none → Q (.ref p) (upd H1 p (.tup xs))
def tLst (t : TA) : TE := fun σ H Q => t σ H fun xs H1 => xs.length ≤ sizeLine ∧ ∀ p, H1 p = none → Q (.ref p) (upd H1 p (.lst xs))
theorem pe_tup {x1} (h : PA X es t) : PE X (.Tuple es x1 pos) (tTup t) := by
  intro pins s σ H Q I hq
  refine wpAny_Tuple_spliced (thn (h pos pins s σ H _ I hq) fun us s1 ⟨xs, H1, I1, r, z, q⟩ => ⟨by rw [← r.length]; exact z, ?_⟩)
  have hf : H1 s1.heap.objs.size = none := I1.hok.fresh (Nat.le_refl _)
  refine ⟨.ref s1.heap.objs.size, upd H1 s1.heap.objs.size (.tup xs), I1.laid (t' := s1.toks) (fun b u e => Heap.get?_push_of_some _ e) (Nat.le_refl _) ?_, rfl, q _ hf⟩
  exact ⟨z, us, r, ⟨_, Heap.get?_push_size _ rfl, rfl, _, rfl⟩⟩
theorem pe_lst (h : PA X es t) : PE X (.List es pos) (tLst t) := by
  intro pins s σ H Q I hq
  refine wpAny_List_spliced (thn (h pos pins s σ H _ I hq) fun us s1 ⟨xs, H1, I1, r, z, q⟩ => ⟨by rw [← r.length]; exact z, ?_⟩)
  have hf : H1 s1.heap.objs.size = none := I1.hok.fresh (Nat.le_refl _)
  refine ⟨.ref s1.heap.objs.size, upd H1 s1.heap.objs.size (.lst xs), I1.laid (t' := s1.toks) (fun b u e => Heap.get?_push_of_some _ e) (Nat.le_refl _) ?_, rfl, q _ hf⟩
  exact ⟨z, us, 0, r, Heap.get?_push_size _ rfl⟩
end

/-! ### what a def promises -/
/-- a def's promise: the bound arguments in the parameters' order, the heap, the wanted end, the wanted exception -/
abbrev Sp := List V → Hp → VK → XK → Prop
/-- how an exception lies behind a call (file 08 gives it): the callers' frames, abstract heap and state ahead of the call, the wish, the exception, the state -/
abbrev CXT := List Env → Hp → Shared → XK → Value → Shared → Prop

/-- the state at a call -/
structure Env0 (P : Program) (w : World) (K : PySem.W.Frag) (mg : Str → Option Value) (base : Heap) (A : Around) (outer : List Env) (s : Shared) (H : Hp) : Prop where
  frames : A.frames = some outer
  mod : Mod K mg base
  bs : ∀ b o, base.get? b = some o → s.heap.get? b = some o ∧ H b = none
  bsz : base.objs.size ≤ s.heap.objs.size
  funs : s.heap.FunFrames base outer
  frf : ∀ b ∈ frs outer, H b = none
  hok : HOk P w H s.heap
  bare : AllBare s.gens
/-- a call's end -/
def CE (outer : List Env) (P : Program) (w : World) (H : Hp) (s : Shared) (Q : VK) (u : Value) (s' : Shared) : Prop :=
  ∃ v H', s'.os = s.os ∧ AllBare s'.gens ∧ Un (frs outer) [] H H' s.heap s'.heap ∧ HOk P w H' s'.heap ∧ RelV v u ∧ Q v H'
def CR (CX : CXT) (outer : List Env) (P : Program) (w : World) (H : Hp) (s : Shared) (Q : VK) (E : XK) (r : Result) (s' : Shared) : Prop :=
  match r with
  | .ok (.ret u) => CE outer P w H s Q u s'
  | .ok _ => False
  | .error e => CX outer H s E e s'
structure FnOk (P : Program) (w : World) (K : PySem.W.Frag) (mg : Str → Option Value) (base : Heap) (CX : CXT) (k : Nat) (f : Addr) (fd : FuncData) (ps : List Str) (sp : Sp) : Prop where
  len : ∀ vs H Q E, sp vs H Q E → vs.length = ps.length
  run : ∀ (A : Around) (outer : List Env) (s : Shared) (H : Hp) (args : Args) (us : List Value) (vs : List V) (Q : VK) (E : XK), Room k A → Env0 P w K mg base A outer s H → BindsTo s fd args (ps.zip us) → Vals vs us → sp vs H Q E →
    codeAny (model P w) A (.call (.ref f) args) (CR CX outer P w H s Q E) s
theorem FnOk.mono {P : Program} {w : World} {K : PySem.W.Frag} {mg : Str → Option Value} {base : Heap} {CX : CXT} {j k : Nat} {f : Addr} {fd : FuncData} {ps : List Str} {sp : Sp} (F : FnOk P w K mg base CX j f fd ps sp) (h : j ≤ k) :
    FnOk P w K mg base CX k f fd ps sp := ⟨F.len, fun A outer s H args us vs Q E hr => F.run A outer s H args us vs Q E (hr.mono h)⟩
theorem Env0.make {P : Program} {w : World} {K : PySem.W.Frag} {mg : Str → Option Value} {base : Heap} {A : Around} {outer : List Env} {s : Shared} {H : Hp} (e : Env0 P w K mg base A outer s H) (C : Addr) (us : List Value) (kw : List (Str × Value)) :
    Env0 P w K mg base (A.under (.builtin "type.__call__" ⟨.ref C :: us, kw⟩)) outer s H := ⟨by first | exact e.frames | (simpa [Around.under, Code.envs, Code.isFrame, pushEnvs] using e.frames), e.mod, e.bs, e.bsz, e.funs, e.frf, e.hok, e.bare⟩
theorem Env0.in1 {P : Program} {w : World} {K : PySem.W.Frag} {mg : Str → Option Value} {base : Heap} {A : Around} {outer : List Env} {s : Shared} {H : Hp} (e : Env0 P w K mg base A outer s H) :
    Env0 P w K mg base A.in1 outer s H := ⟨e.frames, e.mod, e.bs, e.bsz, e.funs, e.frf, e.hok, e.bare⟩

section
variable {X : Cx} {pins : List (Addr × Obj)} {σ : St} {H : Hp} {s s' : Shared}
/-- from a body: what a callee wants -/
theorem Inv.env0 (I : Inv X pins σ H s) : Env0 X.prog X.w X.K X.mg X.base X.A X.stack s H :=
  ⟨I.ok.frames, I.ok.mod, I.bs, Nat.le_trans I.ok.bsz I.sz, I.stack, I.stkFree, I.hok, I.bare⟩
/-- behind a call -/
theorem Inv.after {Q : VK} {u : Value} (I : Inv X pins σ H s) (h : CE X.stack X.prog X.w H s Q u s') : EP X pins σ Q u s' := by
  obtain ⟨v, H', os, bare, un, hok, r, q⟩ := h
  obtain ⟨hh, g, d, t, os'⟩ := s'
  obtain rfl : os' = s.os := os
  exact ⟨v, H', I.call (h' := hh) (g' := g) (d' := d) (t' := t) (ch := []) un hok bare (fun b z => absurd z (by simp)), r, q⟩
end

/-! ### calls -/
/-- f(..): the written arguments, then the defaults dvs; E: what is wanted of an exception -/
def tCall (sp : Sp) (dvs : List V) (E : XK) (t : TA) : TE := fun σ H Q => t σ H fun vs H1 => sp (vs ++ dvs) H1 Q E
/-- o.m(..) of an instance of the class at C -/
def tMeth (C : Addr) (m : Str) (sp : Sp) (dvs : List V) (E : XK) (ta : TE) (t : TA) : TE := fun σ H Q => ta σ H fun x H1 => ∃ a dx fs, x = .ref a ∧ H1 a = some (.ins C dx fs) ∧ fs.lookup m = none ∧
  t σ H1 fun vs H2 => sp (x :: (vs ++ dvs)) H2 Q E
/-- C(..): a new instance and its dict, then __init__ -/
def tMake (C : Addr) (sp : Sp) (dvs : List V) (E : XK) (t : TA) : TE := fun σ H Q => t σ H fun vs H1 => ∀ x dx, H1 x = none → H1 dx = none → dx ≠ x →
  sp (.ref x :: (vs ++ dvs)) (upd (upd H1 dx (.own x)) x (.ins C dx [])) (fun v H2 => v = .non ∧ Q (.ref x) H2) E

/-- how the parameters are bound: us the positional arguments, kw the keywords' values by name, ds the defaults that fill up -/
def Binds (K : PySem.W.Frag) (fd : FuncData) (ps : List Str) (ds : List Value) : Prop :=
  ∀ (s : Shared) (us : List Value), K.In s.heap → (us ++ ds).length = ps.length → BindsTo s fd ⟨us, []⟩ (ps.zip (us ++ ds))
/-- every parameter is given -/
theorem Binds.all {K : PySem.W.Frag} {fd : FuncData} {ps : List Str} (h : ∀ us : List Value, us.length = ps.length → bindArgs fd ⟨us, []⟩ = pure (ps.zip us)) : Binds K fd ps [] := fun s us _ hl => by
  rw [List.append_nil] at hl ⊢
  exact .of_eq (h us hl)

/-- an exception of a callee reaches what this body wants of exceptions -/
def Passes (CX : CXT) (X : Cx) (E : XK) : Prop := ∀ (pins : List (Addr × Obj)) (σ : St) (H : Hp) (s : Shared) (e : Value) (s' : Shared), Inv X pins σ H s → CX X.stack H s E e s' → X.xe e s'

section
variable {X : Cx} {CX : CXT} {k : Nat} {f C : Addr} {fd : FuncData} {ps : List Str} {sp : Sp} {dvs : List V} {ds : List Value} {E : XK} {x m : Str} {p pos apos : Pos} {e o : Expr} {es : List Expr} {ta : TE} {t : TA}

/-- the callee runs -/
theorem run_fn {pins : List (Addr × Obj)} {σ : St} {H : Hp} {s : Shared} {Q : VK} {us : List Value} {vs : List V} (F : FnOk X.prog X.w X.K X.mg X.base CX k f fd ps sp) (hr : Room k X.A) (hb : Binds X.K fd ps ds) (hd : Vals dvs ds) (hx : Passes CX X E)
    (I : Inv X pins σ H s) (r : Vals vs us) (h : sp (vs ++ dvs) H Q E) : wpAny (model X.prog X.w) X.A (call (.ref f) us) (EP X pins σ Q) X.xe s := by
  have r2 : Vals (vs ++ dvs) (us ++ ds) := r.append hd
  have hl : (us ++ ds).length = ps.length := by rw [← r2.length]; exact F.len _ _ _ _ h
  refine wpAny_call (codeAny_mono (F.run X.A X.stack s H ⟨us, []⟩ (us ++ ds) (vs ++ dvs) Q E hr I.env0 (hb s us I.kIn hl) r2 h) fun r s' hq => ?_)
  cases r with
  | error e => exact hx pins σ H s e s' I hq
  | ok fl =>
    cases fl with
    | ret u => exact I.after hq
    | next => exact False.elim hq
    | brk => exact False.elim hq
    | cont => exact False.elim hq

theorem pe_call (F : FnOk X.prog X.w X.K X.mg X.base CX k f fd ps sp) (hr : Room k X.A) (hg : Gl X x) (hm : X.mg x = some (.ref f)) (hk : PySem.W.keepIn X.K (.ref f) = true) (hb : Binds X.K fd ps ds) (hd : Vals dvs ds) (hx : Passes CX X E)
    (ha : PA X (e :: es) t) (hdb : (x == ("__debug__" : Str)) = false := by decide) (he : starEach (e :: es) X.env = (false, eval e X.env) :: starEach es X.env := by rfl) (hpl : (backTo pos (starEach es X.env)).any (·.1) = false := by rfl) :
    PE X (.Call (.Name x p) (e :: es) [] pos) (tCall sp dvs E t) := by
  intro pins s σ H Q I h
  refine wpAny_Call_Name_kw (ld_glob I hg hm ?_ hdb)
  refine PySem.W.callWith_K (h₀ := X.base) I.ok.mod.kin hk (thn (ha pos pins s σ H _ I h) fun us s1 ⟨vs, H1, I1, r, q⟩ => ⟨I1.kIn, ?_⟩) he hpl
  exact run_fn F hr hb hd hx I1 r q
/-- o.m(e, ..) -/
theorem pe_meth {pl : Sem Bool} (he : PE X o ta) (c : Cls X.K C) (hm : Meth X.K C m f) (F : FnOk X.prog X.w X.K X.mg X.base CX k f fd ps sp) (hr : Room k X.A) (hb : Binds X.K fd ps ds) (hd : Vals dvs ds) (hx : Passes CX X E) (ha : PA X (e :: es) t)
    (hst : starEach (e :: es) X.env = (false, eval e X.env) :: starEach es X.env := by rfl) (hpl : (backTo pos (starEach es X.env)).any (·.1) = false := by rfl)
    (ht : eval (.Call (.Attribute o m apos) (e :: es) [] pos) X.env = (do
      let ov ← eval o X.env
      standAt apos.atName
      let (f, first) ← holding [ov] (getMethod ov m pl)
      callWith pos f first (backTo pos (starEach (e :: es) X.env)) (backToKw pos (keywordEach [] X.env))) := by rfl) :
    PE X (.Call (.Attribute o m apos) (e :: es) [] pos) (tMeth C m sp dvs E ta t) := by
  intro pins s σ H Q I h
  refine PySem.W.methodCall_KW (pl := pl) (thn (he pins s σ H _ I h) fun u s1 ⟨x, H1, I1, rx, a, dx, fs, ex, ea, l, q⟩ => ?_) ht
  subst ex
  obtain rfl : u = Value.ref a := rx
  refine getmeth_ok I1 ea c hm l ?_
  refine PySem.W.callWith_K (first := [.ref a]) (h₀ := X.base) I.ok.mod.kin hm.kp (thn (ha pos pins s1 σ H1 _ I1 q) fun us s2 ⟨vs, H2, I2, r, q2⟩ => ⟨I2.kIn, ?_⟩) hst hpl
  exact run_fn (us := .ref a :: us) (vs := .ref a :: vs) F hr hb hd hx I2 (.cons rfl r) q2
/-- o.m() -/
theorem pe_meth0 {pl : Sem Bool} (he : PE X o ta) (c : Cls X.K C) (hm : Meth X.K C m f) (F : FnOk X.prog X.w X.K X.mg X.base CX k f fd ps sp) (hr : Room k X.A) (hb : Binds X.K fd ps ds) (hd : Vals dvs ds) (hx : Passes CX X E)
    (ht : eval (.Call (.Attribute o m apos) [] [] pos) X.env = (do
      let ov ← eval o X.env
      standAt apos.atName
      let (f, first) ← holding [ov] (getMethod ov m pl)
      callWith pos f first (backTo pos (starEach [] X.env)) (backToKw pos (keywordEach [] X.env))) := by rfl) :
    PE X (.Call (.Attribute o m apos) [] [] pos) (tMeth C m sp dvs E ta tNil) := by
  intro pins s σ H Q I h
  refine PySem.W.methodCall_KW (pl := pl) (thn (he pins s σ H _ I h) fun u s1 ⟨x, H1, I1, rx, a, dx, fs, ex, ea, l, q⟩ => ?_) ht
  subst ex
  obtain rfl : u = Value.ref a := rx
  refine getmeth_ok I1 ea c hm l ?_
  exact PySem.W.callWith_K0 (first := [.ref a]) I1.kIn hm.kp (run_fn (us := [.ref a]) (vs := [.ref a]) F hr hb hd hx I1 (.cons rfl .nil) q)

/-- what a class must have to be made -/
structure Mk (K : PySem.W.Frag) (C f : Addr) : Prop where
  makes : PySem.W.makesIn K C = true
  init : PySem.W.findIn K (.ref C) "__init__" = some (some (.ref f))
  fn : PySem.W.isFn K (.ref f) = true
  kp : PySem.W.keepIn K (.ref C) = true

theorem run_make {pins : List (Addr × Obj)} {σ : St} {H : Hp} {s : Shared} {Q : VK} {us : List Value} {vs : List V} (M : Mk X.K C f) (F : FnOk X.prog X.w X.K X.mg X.base CX k f fd ps sp) (hr : Room (k + 1) X.A) (hb : Binds X.K fd ps ds) (hd : Vals dvs ds)
    (hx : Passes CX X E) (I : Inv X pins σ H s) (r : Vals vs us)
    (h : ∀ x dx, H x = none → H dx = none → dx ≠ x → sp (.ref x :: (vs ++ dvs)) (upd (upd H dx (.own x)) x (.ins C dx [])) (fun v H2 => v = .non ∧ Q (.ref x) H2) E) :
    wpAny (model X.prog X.w) X.A (call (.ref C) us) (EP X pins σ Q) X.xe s := by
  have hq := h (s.heap.objs.size + 1) s.heap.objs.size (I.hok.fresh (Nat.le_succ _)) (I.hok.fresh (Nat.le_refl _)) (Nat.ne_of_lt (Nat.lt_succ_self _))
  have I2 := Inv.made (C := C) I
  have r2 : Vals (V.ref (s.heap.objs.size + 1) :: (vs ++ dvs)) (Value.ref (s.heap.objs.size + 1) :: (us ++ ds)) := .cons rfl (r.append hd)
  have hl : (Value.ref (s.heap.objs.size + 1) :: us ++ ds).length = ps.length := by
    have e := r2.length
    rw [F.len _ _ _ _ hq] at e
    exact e.symm
  refine wpAny_call (make_map (f := f) I.kIn M.makes M.init (beq_iff_eq.mp M.fn) (codeAny_mono (F.run _ X.stack _ _ ⟨Value.ref (s.heap.objs.size + 1) :: us, []⟩ (Value.ref (s.heap.objs.size + 1) :: (us ++ ds)) _ _ E (hr.make C us [])
    (I2.env0.make C us []) (hb _ (Value.ref (s.heap.objs.size + 1) :: us) I2.kIn hl) r2 hq) fun r s' hq' => ?_))
  cases r with
  | error e => exact hx pins σ _ _ e s' I2 hq'
  | ok fl =>
    cases fl with
    | ret u =>
      obtain ⟨v, H', I3, rv, ev, q3⟩ := I2.after hq'
      subst ev
      exact ⟨rv, ⟨V.ref (s.heap.objs.size + 1), H', I3, rfl, q3⟩⟩
    | next => exact False.elim hq'
    | brk => exact False.elim hq'
    | cont => exact False.elim hq'
theorem pe_make (M : Mk X.K C f) (F : FnOk X.prog X.w X.K X.mg X.base CX k f fd ps sp) (hr : Room (k + 1) X.A) (hg : Gl X x) (hm : X.mg x = some (.ref C)) (hb : Binds X.K fd ps ds) (hd : Vals dvs ds) (hx : Passes CX X E)
    (ha : PA X (e :: es) t) (hdb : (x == ("__debug__" : Str)) = false := by decide) (he : starEach (e :: es) X.env = (false, eval e X.env) :: starEach es X.env := by rfl) (hpl : (backTo pos (starEach es X.env)).any (·.1) = false := by rfl) :
    PE X (.Call (.Name x p) (e :: es) [] pos) (tMake C sp dvs E t) := by
  intro pins s σ H Q I h
  refine wpAny_Call_Name_kw (ld_glob I hg hm ?_ hdb)
  refine PySem.W.callWith_K (h₀ := X.base) I.ok.mod.kin M.kp (thn (ha pos pins s σ H _ I h) fun us s1 ⟨vs, H1, I1, r, q⟩ => ⟨I1.kIn, ?_⟩) he hpl
  exact run_make M F hr hb hd hx I1 r q
end

/-! ### keywords -/
section
variable {X : Cx} {CX : CXT} {k : Nat} {f C : Addr} {fd : FuncData} {ps ks : List Str} {sp : Sp} {E : XK} {x m : Str} {p pos apos kpos : Pos} {e o : Expr} {es : List Expr} {kws : List Keyword} {te ta : TE} {t tk : TA} {nm : Option Str}
/-- how a call with keywords binds: g puts the positional values us and the keywords' values ws (names ks) in the parameters' order, defaults among them -/
structure KBinds (K : PySem.W.Frag) (fd : FuncData) (ps ks : List Str) (g : List Value → List Value → List Value) (gV : List V → List V → List V) : Prop where
  to : ∀ (s : Shared) (us ws : List Value), K.In s.heap → (g us ws).length = ps.length → BindsTo s fd ⟨us, ks.zip ws⟩ (ps.zip (g us ws))
  rel : ∀ {vs : List V} {us : List Value} {zs : List V} {ws : List Value}, Vals vs us → Vals zs ws → Vals (gV vs zs) (g us ws)
variable {g : List Value → List Value → List Value} {gV : List V → List V → List V}
end

/-! ### a def's body keeps its promise -/
/-- names: the parameters first -/
structure FnScope (N P : List Str) (sc : Scope) : Prop where
  kind : sc.kind = .function
  co : sc.isCoroutine = false
  gen : sc.isGenerator = false
  nd : N.Nodup
  pre : N.take P.length = P
  par : ∀ x ∈ P, sc.names.lookup x = some .local ∨ sc.names.lookup x = some .cell
  nofree : ∀ y ∈ sc.names, y.2 ≠ .free

theorem bindL_out {kindOf : Str → Option NameKind} {x : Str} : ∀ {binds : List (Str × Value)} {m : Str → Option Value}, (∀ v, (x, v) ∉ binds) → bindL kindOf binds m x = m x
  | [], _, _ => rfl
  | (n, v) :: r, m, h => by
    unfold bindL
    rw [bindL_out fun w hw => h w (List.mem_cons_of_mem _ hw)]
    split
    · have : x ≠ n := by rintro rfl; exact h v List.mem_cons_self
      simp [this]
    · rfl
theorem bindC_out {kindOf : Str → Option NameKind} {x : Str} : ∀ {binds : List (Str × Value)} {m : Str → Option Value}, (∀ v, (x, v) ∉ binds) → bindC kindOf binds m x = m x
  | [], _, _ => rfl
  | (n, v) :: r, m, h => by
    unfold bindC
    rw [bindC_out fun w hw => h w (List.mem_cons_of_mem _ hw)]
    split
    · rfl
    · have : x ≠ n := by rintro rfl; exact h v List.mem_cons_self
      simp [this]
theorem bindL_get {kindOf : Str → Option NameKind} {x : Str} {v : Value} : ∀ {P : List Str} {vs : List Value} {i : Nat} {m : Str → Option Value}, P.Nodup → P[i]? = some x → vs[i]? = some v → kindOf x = some .local →
    bindL kindOf (P.zip vs) m x = some v
  | [], _, _, _, _, h, _, _ => by simp at h
  | _ :: _, [], _, _, _, _, h, _ => by simp at h
  | p :: P, w :: vs, 0, m, nd, h1, h2, hk => by
    simp at h1 h2; subst h1; subst h2
    show bindL kindOf ((p, w) :: P.zip vs) m p = _
    unfold bindL
    rw [bindL_out fun v hv => (List.nodup_cons.mp nd).1 (List.of_mem_zip hv).1, if_pos hk]
    simp
  | p :: P, w :: vs, i + 1, m, nd, h1, h2, hk => by
    show bindL kindOf ((p, w) :: P.zip vs) m x = _
    unfold bindL
    exact bindL_get (i := i) (List.nodup_cons.mp nd).2 (by simpa using h1) (by simpa using h2) hk
theorem bindC_get {kindOf : Str → Option NameKind} {x : Str} {v : Value} : ∀ {P : List Str} {vs : List Value} {i : Nat} {m : Str → Option Value}, P.Nodup → P[i]? = some x → vs[i]? = some v → kindOf x ≠ some .local →
    bindC kindOf (P.zip vs) m x = some v
  | [], _, _, _, _, h, _, _ => by simp at h
  | _ :: _, [], _, _, _, _, h, _ => by simp at h
  | p :: P, w :: vs, 0, m, nd, h1, h2, hk => by
    simp at h1 h2; subst h1; subst h2
    show bindC kindOf ((p, w) :: P.zip vs) m p = _
    unfold bindC
    rw [bindC_out fun v hv => (List.nodup_cons.mp nd).1 (List.of_mem_zip hv).1, if_neg hk]
    simp
  | p :: P, w :: vs, i + 1, m, nd, h1, h2, hk => by
    show bindC kindOf ((p, w) :: P.zip vs) m x = _
    unfold bindC
    exact bindC_get (i := i) (List.nodup_cons.mp nd).2 (by simpa using h1) (by simpa using h2) hk

/-- the names' values at the entry -/
def start (N : List Str) (vs : List V) : St := vs.map some ++ List.replicate (N.length - vs.length) none

/-- the context of a def's body, at its entry; an exception leaves the frame, then lies as CX says -/
def cxOf (CX : CXT) (P : Program) (w : World) (K : PySem.W.Frag) (mg : Str → Option Value) (base : Heap) (N : List Str) (qual : Str) (scope : Scope) (f : Addr) (cd : Value) (A : Around) (outer : List Env) (s : Shared) (H : Hp) (E : XK) : Cx where
  prog := P
  w := w
  K := K
  mg := mg
  base := base
  A := A.deeper (envOfC qual scope s.heap.objs.size f cd)
  N := N
  s₀ := s
  H₀ := H
  env := envOfC qual scope s.heap.objs.size f cd
  outer := outer
  stack := envOfC qual scope s.heap.objs.size f cd :: outer
  ex := []
  calm := true
  fn := fun _ => true
  pn := []
  xe := fun e s' => wpAny (model P w) (A.deeper (envOfC qual scope s.heap.objs.size f cd)) (leaving (envOfC qual scope s.heap.objs.size f cd) e) (fun _ s'' => CX outer H s E e s'') (fun e' s'' => CX outer H s E e' s'') s'

theorem cell_has {sc : Scope} {n : Nat} {x : Str} (h : sc.names.lookup x = some .cell) : ∃ c, (cellsFrom n sc.names []).lookup x = some c := by
  have q := PySem.W.cellsFrom_some sc.names n [] (.inl h)
  exact Option.isSome_iff_exists.mp q

theorem inv_start {CX : CXT} {P : Program} {w : World} {K : PySem.W.Frag} {mg : Str → Option Value} {base : Heap} {N ps : List Str} {qual : Str} {scope : Scope} {f : Addr} {cd : Value} {A : Around} {outer : List Env} {s s1 : Shared} {H : Hp} {E : XK} {us : List Value} {vs : List V}
    (S : FnScope N ps scope) (hd : A.handled = none) (e0 : Env0 P w K mg base A outer s H) (hl : vs.length = ps.length) (r : Vals vs us)
    (x : InCallC s s.heap.objs.size (bindL (envOfC qual scope s.heap.objs.size f cd).kindOf (ps.zip us) fun _ => none) (cellsFrom (s.heap.objs.size + 1) scope.names []) (bindC (envOfC qual scope s.heap.objs.size f cd).kindOf (ps.zip us) fun _ => none) s1) :
    Inv (cxOf CX P w K mg base N qual scope f cd A outer s H E) [] (start N vs) H s1 := by
  have hpl : ps.length ≤ N.length := by have := congrArg List.length S.pre; rw [List.length_take] at this; omega
  obtain ⟨h1, tk, rfl, hk⟩ := x.done
  have noA : ∀ b : Addr, b ∉ (cxOf CX P w K mg base N qual scope f cd A outer s H E).ex := fun b z => absurd (show b ∈ ([] : List Addr) from z) (by simp)
  refine ⟨⟨e0.mod, S.kind, rfl, rfl, Nat.le_refl _, fun y z c h1 h2 => ?_, fun y hy => ?_, fun y c _ h => ?_, fun _ => hd, Around.frames_deeper e0.frames, .inr ⟨rfl, rfl⟩, fun b z => absurd z (noA b), e0.bs, e0.bsz, fun b _ _ => noA b, fun b z => absurd z (noA b), e0.funs, e0.frf⟩,
    rfl, e0.bare, Un.kept hk, ⟨_, x.toInCall.ns, fun i y v h1 h2 h3 => ?_⟩, fun y c h => ⟨_, x.cell y c h⟩, e0.hok.fresh (Nat.le_refl _), fun y c h => ?_, fun p hp => absurd (show p ∈ ([] : List (Addr × Obj)) from hp) (by simp), e0.hok.kept hk, ?_⟩
  · exact name_of_addr x.apart (PySem.mem_of_lookup h1) (PySem.mem_of_lookup h2)
  · have hy : scope.names.lookup y = some .cell ∨ scope.names.lookup y = some .free := hy
    rcases hy with hy | hy
    · exact cell_has hy
    · exact absurd rfl (S.nofree _ (PySem.mem_of_lookup hy))
  · exact Nat.le_of_lt (x.above y c (PySem.mem_of_lookup h))
  · have hi : i < vs.length := by
      unfold start at h2
      by_cases hi : i < vs.length
      · exact hi
      · rw [List.getElem?_append_right (by simpa using hi)] at h2
        rw [List.getElem?_replicate] at h2
        split at h2 <;> cases h2
    have ha : vs[i]? = some v := by
      unfold start at h2
      rw [List.getElem?_append_left (by simpa using hi), List.getElem?_map] at h2
      cases e : vs[i]? with
      | none => rw [e] at h2; cases h2
      | some a => rw [e] at h2; cases h2; rfl
    obtain ⟨u, hu, rv⟩ := r.get ha
    have hp : ps[i]? = some y := by
      rw [← S.pre, List.getElem?_take_of_lt (by omega)]; exact h1
    have ndP : ps.Nodup := by rw [← S.pre]; exact S.nd.sublist (List.take_sublist _ _)
    refine ⟨u, rv, ?_⟩
    rcases S.par y (List.mem_of_getElem? hp) with k | k
    · exact .inl ⟨k, bindL_get ndP hp hu k⟩
    · obtain ⟨c, e⟩ := cell_has (n := s.heap.objs.size + 1) k
      refine .inr ⟨.inl k, c, e, ?_⟩
      have q := x.cell y c e
      rw [bindC_get ndP hp hu (by show scope.names.lookup y ≠ _; rw [k]; decide)] at q
      exact q
  · exact e0.hok.fresh (Nat.le_of_lt (x.above y c (PySem.mem_of_lookup h)))
  · unfold start
    show _ = N.length
    rw [List.length_append, List.length_map, List.length_replicate]
    omega

/-- THE RULE: a def (or a method) of the text, by its body. The body's reading t is chosen for each entry; it is run at the parameters' values -/
theorem fn_of {CX : CXT} {P : Program} {w : World} {K : PySem.W.Frag} {mg : Str → Option Value} {base : Heap} {k : Nat} {f : Addr} {name qual : Str} {params : Arguments} {body : List Stmt} {scope : Scope} {dV kV doc pm cdv ct oc : Value} {an od : Option Addr}
    {osl : Array (Option Value)} {N ps : List Str} {sp : Sp} (lk : K.lookup f = some ⟨oc, od, .func (PySem.W.fnOf name qual params body scope dV kV doc pm an cdv ct), osl⟩) (hcd : PySem.W.codeIn K cdv qual = true) (S : FnScope N ps scope)
    (len : ∀ vs H Q E, sp vs H Q E → vs.length = ps.length)
    (hbody : ∀ (A : Around) (outer : List Env) (s : Shared) (H : Hp) (vs : List V) (Q : VK) (E : XK), Room k (A.deeper (envOfC qual scope s.heap.objs.size f cdv)) → sp vs H Q E →
      ∃ t, PSs (cxOf CX P w K mg base N qual scope f cdv A outer s H E) body t ∧ t { nx := fun _ H' => Q .non H', rt := Q } (start N vs) H) :
    FnOk P w K mg base CX (k + 1) f (PySem.W.fnOf name qual params body scope dV kV doc pm an cdv ct) ps sp := by
  refine ⟨len, fun A outer s H args us vs Q E hr e0 hb r hsp => ?_⟩
  have hl := len _ _ _ _ hsp
  have KX : K.In s.heap := e0.mod.kin.keeps fun b o e => (e0.bs b o e).1
  have lim : s.heap.NoLimit := e0.mod.nolimit.keeps fun b o e => (e0.bs b o e).1
  have hkind : ∀ y ∈ ps.zip us, scope.names.lookup y.1 = some .local ∨ (scope.names.lookup y.1 = some .cell ∧ ((cellsFrom (s.heap.objs.size + 1) scope.names []).lookup y.1).isSome = true) := fun ⟨n, v⟩ hy => by
    rcases S.par n (List.of_mem_zip hy).1 with q | q
    · exact .inl q
    · exact .inr ⟨q, PySem.W.cellsFrom_some _ _ _ (.inl q)⟩
  refine codeAny_call_function hr.depth (KX _ _ lk) rfl S.co S.gen rfl (PySem.W.codeRec_of KX hcd) (hb _ _ _ _ ?_)
  refine wpAny_newFunctionEnv_cells S.kind hkind fun env he s1 x => ?_
  subst he
  refine ⟨lim.keeps x.toInCall.keep, codeAny_func ?_⟩
  obtain ⟨t, ht, hq⟩ := hbody A outer s H vs Q E (hr.deeper _) hsp
  have I : Inv (cxOf CX P w K mg base N qual scope f cdv A outer s H E) [] (start N vs) H s1 := inv_start S hr.hd e0 hl r x
  refine wpAny_mono (ht [] s1 (start N vs) H _ I hq) (fun fl s' hs => ?_) fun e s' hs => hs
  have fin : ∀ {σ' : St} {H' : Hp} {v : V} {u : Value}, Inv (cxOf CX P w K mg base N qual scope f cdv A outer s H E) [] σ' H' s' → RelV v u → Q v H' → CE outer P w H s Q u s' :=
    fun {σ' H' v u} J rv q => ⟨v, H', J.os, J.bare, J.base, J.hok, rv, q⟩
  cases fl with
  | ret u =>
    obtain ⟨v, σ', H', J, rv, q⟩ := hs
    exact fin J rv q
  | next =>
    obtain ⟨σ', H', J, q⟩ := hs
    exact fin (v := V.non) (u := Value.none) J rfl q
  | brk =>
    obtain ⟨_, _, _, q⟩ := hs
    exact False.elim q
  | cont =>
    obtain ⟨_, _, _, q⟩ := hs
    exact False.elim q
end L2

namespace L2
open PySem PySem.Spec PyProof.Rows
section
variable {X : Cx} {x : Str} {p pos : Pos} {e : Expr} {es : List Expr} {t : TA} {id T : String} {r : List V → Hp → VK → Prop}

def tCB (r : List V → Hp → VK → Prop) (t : TA) : TE := fun σ H Q => t σ H fun vs H1 => r vs H1 Q
/-- f(e, ..), f a built-in function -/
theorem pe_callB (hc : CallR X (.builtin id) r) (hg : Gl X x) (hm : X.mg x = none) (hv : bootBuiltins x = some (.builtin id)) (ha : PA X (e :: es) t) (hn : x ≠ "__name__" := by decide) (hdb : (x == ("__debug__" : Str)) = false := by decide)
    (he : starEach (e :: es) X.env = (false, eval e X.env) :: starEach es X.env := by rfl) (hpl : (backTo pos (starEach es X.env)).any (·.1) = false := by rfl) : PE X (.Call (.Name x p) (e :: es) [] pos) (tCB r t) := by
  intro pins s σ H Q I h
  refine wpAny_Call_Name_kw (ld_blt I hg hm hv ?_ hn hdb)
  exact PyProof.Rows.callWith_builtin1 (thn (ha pos pins s σ H _ I h) fun us s1 ⟨vs, H1, I1, r1, q1⟩ => hc pins s1 σ H1 vs us Q I1 r1 q1) he hpl
/-- T(e, ..), T a built-in type -/
theorem pe_callTy (hc : CallR X (.type T) r) (hg : Gl X x) (hm : X.mg x = none) (hv : bootBuiltins x = some (.type T)) (ha : PA X (e :: es) t) (hn : x ≠ "__name__" := by decide) (hdb : (x == ("__debug__" : Str)) = false := by decide)
    (he : starEach (e :: es) X.env = (false, eval e X.env) :: starEach es X.env := by rfl) (hpl : (backTo pos (starEach es X.env)).any (·.1) = false := by rfl) : PE X (.Call (.Name x p) (e :: es) [] pos) (tCB r t) := by
  intro pins s σ H Q I h
  refine wpAny_Call_Name_kw (ld_blt I hg hm hv ?_ hn hdb)
  exact PyProof.Rows.callWith_type1 (thn (ha pos pins s σ H _ I h) fun us s1 ⟨vs, H1, I1, r1, q1⟩ => hc pins s1 σ H1 vs us Q I1 r1 q1) he hpl
end
end L2

namespace HT
open PySem PyProof.Rows

section
open PySem.SeqAt
open PySem.AutoSeq1 (wpAny_loadPart')
open PySem.MeetsSeq PySem.MeetsSeq2 PySem.MeetsSeq3

end

section
variable {prog : Program} {w : World} {A : Around} {E : Value → Shared → Prop} {s : Shared}

/-! ### t[a:b], not the whole -/
/-- a slice's bound as a place among n (d where it is left out) -/
def sIx (n d : Nat) : Option Int → Nat
  | none => d
  | some v => if v < 0 then (v + (n : Int)).toNat else min v.toNat n
theorem sIx_none (n d : Nat) : sIx n d none = d := rfl
theorem sIx_nat (n d k : Nat) : sIx n d (some (k : Int)) = min k n := by
  show (if (k : Int) < 0 then ((k : Int) + (n : Int)).toNat else min (k : Int).toNat n) = min k n
  rw [if_neg (by omega), Int.toNat_natCast]
end
end HT

namespace L2
open PySem PySem.Spec PyProof.Rows

/-! ### the parts of a slice -/
abbrev TO := St → Hp → (Option Int → Hp → Prop) → Prop
/-- a slice's part (left out, or an int) -/
def PO (X : Cx) (e : Option Expr) (t : TO) : Prop :=
  ∀ (pins : List (Addr × Obj)) (s : Shared) (σ : St) (H : Hp) (Q : Option Int → Hp → Prop), Inv X pins σ H s → t σ H Q →
    wpAny (model X.prog X.w) X.A (evalPart e X.env) (fun u s' => ∃ o H', Inv X pins σ H' s' ∧ IsPart u o ∧ Q o H') X.xe s
def tNoPart : TO := fun _ H Q => Q none H
def tPart (t : TE) : TO := fun σ H Q => t σ H fun x H1 => ∃ i, x = .int i ∧ Q (some i) H1

section
variable {X : Cx} {e : Expr} {te : TE} {lo hi : Option Expr} {tl th : TO} {pos p2 : Pos}

theorem po_none : PO X none tNoPart := by
  intro pins s σ H Q I h
  rw [evalPart_none]
  exact wpAny_pure ⟨none, H, I, .none, h⟩
theorem po_some (h : PE X e te) : PO X (some e) (tPart te) := by
  intro pins s σ H Q I hw
  rw [evalPart_some]
  refine thn (h pins s σ H _ I hw) fun u s1 ⟨x, H1, I1, r1, q1⟩ => ?_
  obtain ⟨i, rfl, q⟩ := q1
  obtain ⟨t, rfl⟩ := r1
  exact ⟨some i, H1, I1, .int i t, q⟩

/-- what a slice of a value is, by values: the slice object stands at sl -/
def SlR (X : Cx) (r : V → Option Int → Option Int → Hp → VK → Prop) : Prop :=
  ∀ (pins : List (Addr × Obj)) (s : Shared) (σ : St) (H : Hp) (x : V) (v vl vu : Value) (lo hi : Option Int) (sl : Addr) (Q : VK), Inv X pins σ H s → RelV x v → s.heap.IsSliceOf sl vl vu .none → IsPart vl lo → IsPart vu hi → r x lo hi H Q →
    ∃ T id, typeLookup (.type T) "__getitem__" = pure (some (.builtin id)) ∧ s.TypeIs v T ∧ wpAny (model X.prog X.w) X.A (getItem v (.ref sl)) (EP X pins σ Q) X.xe s
def tSl (r : V → Option Int → Option Int → Hp → VK → Prop) (te : TE) (tl th : TO) : TE := fun σ H Q => te σ H fun x H1 => tl σ H1 fun l H2 => th σ H2 fun u H3 => r x l u H3 Q
/-- a[lo:hi], any a -/
theorem pe_slice {r : V → Option Int → Option Int → Hp → VK → Prop} (hr : SlR X r) (he : PE X e te) (hl : PO X lo tl) (hu : PO X hi th) : PE X (.Subscript e (.Slice lo hi none p2) pos) (tSl r te tl th) := by
  intro pins s σ H Q I h
  refine Subscript_ (thn (he pins s σ H _ I h) fun v s1 ⟨x, H1, I1, r1, q1⟩ => ?_)
  refine wpAny_Slice (thn (hl pins s1 σ H1 _ I1 q1) fun vl s2 ⟨l, H2, I2, pl, q2⟩ => thn (hu pins s2 σ H2 _ I2 q2) fun vu s3 ⟨u, H3, I3, pu, q3⟩ => ?_)
  rw [evalPart_none]
  refine wpAny_pure ?_
  have I4 : Inv X pins σ H3 { s3 with heap := s3.heap.push { cls := .type "slice", data := .fields #[vl, vu, .none] } } := I3.kept (t' := s3.toks) fun b ob q => Heap.get?_push_of_some _ q
  obtain ⟨T, id, hT, ht, hg⟩ := hr pins { s3 with heap := s3.heap.push { cls := .type "slice", data := .fields #[vl, vu, .none] } } σ H3 x v vl vu l u s3.heap.objs.size Q I4 r1 (Heap.IsSliceOf.new ..) pl pu q3
  show wpAny (model X.prog X.w) X.A (subscriptTail e (.Slice lo hi none p2) v (.ref s3.heap.objs.size)) (EP X pins σ Q) X.xe { s3 with heap := s3.heap.push { cls := .type "slice", data := .fields #[vl, vu, .none] } }
  exact tail_any (ops := [.ref s3.heap.objs.size, v]) ht hT hg (by with_unfolding_all rfl)

/-- the items of xs[lo:hi] -/
def cutV (xs : List V) (lo hi : Option Int) : List V := (xs.drop (HT.sIx xs.length 0 lo)).take (HT.sIx xs.length xs.length hi - HT.sIx xs.length 0 lo)
theorem cutV_length (xs : List V) (lo hi : Option Int) : (cutV xs lo hi).length ≤ xs.length := by
  unfold cutV
  rw [List.length_take, List.length_drop]
  omega
/-! ### t < u, t + u -/
end
end L2

namespace L2
open PySem PySem.Spec PyProof.Rows

/-! ### places -/
/-- the place that an index of any sign means -/
def ixN (n : Nat) (i : Int) : Option Nat := if 0 ≤ i then (if i < n then some i.toNat else none) else if -(n : Int) ≤ i then some (i + n).toNat else none
def atI {α : Type} (xs : List α) (i : Int) : Option α := (ixN xs.length i).bind fun j => xs[j]?
theorem ixN_seq {n : Nat} {i : Int} {j : Nat} (h : ixN n i = some j) : seqIndex? i n = some j ∧ j < n ∧ -(n : Int) ≤ i ∧ i < n := by
  unfold ixN at h
  by_cases h0 : 0 ≤ i
  · rw [if_pos h0] at h
    by_cases h1 : i < n
    · rw [if_pos h1] at h
      have e : i.toNat = j := Option.some.inj h
      exact ⟨by rw [seqIndex_of h0 h1, e], by omega, by omega, h1⟩
    · rw [if_neg h1] at h; cases h
  · rw [if_neg h0] at h
    by_cases h1 : -(n : Int) ≤ i
    · rw [if_pos h1] at h
      have e : (i + n).toNat = j := Option.some.inj h
      exact ⟨by rw [seqIndex_neg (by omega) h1, e], by omega, h1, by omega⟩
    · rw [if_neg h1] at h; cases h
theorem atI_get {α : Type} {xs : List α} {i : Int} {v : α} (h : atI xs i = some v) : ∃ j, seqIndex? i xs.length = some j ∧ xs[j]? = some v ∧ j < xs.length ∧ -(xs.length : Int) ≤ i ∧ i < xs.length := by
  unfold atI at h
  cases e : ixN xs.length i with
  | none => rw [e] at h; cases h
  | some j =>
    rw [e] at h
    obtain ⟨h1, h2, h3, h4⟩ := ixN_seq e
    exact ⟨j, h1, h, h2, h3, h4⟩
theorem atI_nat {α : Type} {xs : List α} {j : Nat} {v : α} (h : xs[j]? = some v) : atI xs (j : Int) = some v := by
  have hj : j < xs.length := (List.getElem?_eq_some_iff.mp h).1
  have e : ixN xs.length (j : Int) = some j := by
    unfold ixN
    rw [if_pos (by omega), if_pos (by omega)]; simp
  unfold atI; rw [e]; exact h
/-! ### what may be subscripted -/
/-- what stands as an index of a plain subscript -/
def PlainIx (b : Expr) : Prop := ∀ o i, subscripted b false o i = operate [o, i] (getItem o i)
/-- a subscript by values -/
def IxR (X : Cx) (r : R2) : Prop :=
  ∀ (value slice : Expr) (pins : List (Addr × Obj)) (s : Shared) (σ : St) (H : Hp) (x y : V) (v u : Value) (Q : VK), Inv X pins σ H s → RelV x v → RelV y u → r x y H Q →
    subscripted slice false v u = operate [v, u] (getItem v u) → wpAny (model X.prog X.w) X.A (subscriptTail value slice v u) (EP X pins σ Q) X.xe s
/-- a call of a builtin's method by values: the receiver, the arguments -/
def MtR (X : Cx) (id : String) (r : V → List V → Hp → VK → Prop) : Prop :=
  ∀ (pins : List (Addr × Obj)) (s : Shared) (σ : St) (H : Hp) (x : V) (xs : List V) (v : Value) (us : List Value) (Q : VK), Inv X pins σ H s → RelV x v → Vals xs us → r x xs H Q →
    wpAny (model X.prog X.w) X.A (call (.builtin id) (v :: us)) (EP X pins σ Q) X.xe s
section
variable {X : Cx} {a b : Expr} {ta tb : TE} {pos : Pos}
/-- a[b] -/
theorem pe_ix {r : R2} (hr : IxR X r) (ha : PE X a ta) (hb : PE X b tb) (hs : PlainIx b) : PE X (.Subscript a b pos) (tOp r ta tb) := by
  intro pins s σ H Q I h
  exact Subscript_ (binT ha hb I h fun v u s2 x y H2 I2 rx ry q => hr a b pins s2 σ H2 x y v u Q I2 rx ry q (hs _ _))

def rIxL (K : PySem.W.Frag) : R2 := fun x y H Q => ∃ p xs i v, x = .ref p ∧ y = .int i ∧ SqL K H p xs ∧ atI xs i = some v ∧ Q v H
def rIxT (K : PySem.W.Frag) : R2 := fun x y H Q => ∃ p xs i v, x = .ref p ∧ y = .int i ∧ SqT K H p xs ∧ atI xs i = some v ∧ Q v H
theorem ix_list : IxR X (rIxL X.K) := by
  intro value slice pins s σ H x y v u Q I rx ry h hs
  obtain ⟨p, xs, i, z, rfl, rfl, hq, he, q⟩ := h
  cases rx
  obtain ⟨t, rfl⟩ := ry
  obtain ⟨its, r, pl, hz⟩ := I.list hq
  obtain ⟨j, h1, h2, h3, h4, h5⟩ := atI_get he
  obtain ⟨w, ew, rw'⟩ := r.get h2
  have hl := r.length
  have hn := line63
  have fin : EP X pins σ Q w s := ⟨z, H, I, rw', q⟩
  by_cases h0 : 0 ≤ i
  · have hj : i.toNat = j := by
      rw [seqIndex_of h0 h5] at h1
      exact Option.some.inj h1
    exact item_listR pl.isList h0 (by omega) (by rw [hj]; simpa using ew) fin hs
  · have hj : (i + (its.toArray.size : Int)).toNat = j := by
      rw [seqIndex_neg (by omega) h4] at h1
      rw [List.size_toArray, ← hl]
      exact Option.some.inj h1
    exact subscriptTail_builtinR (x := w) pl.isList.typeIs slot_list_getitem.lookup
      (wpAny_getItem_list_neg (Q := fun r s' => r = w ∧ EP X pins σ Q r s') pl.isList (by omega) (by rw [List.size_toArray] <;> omega) (by omega) (by rw [hj]; simpa using ew) ⟨rfl, fin⟩) hs
theorem ix_tup : IxR X (rIxT X.K) := by
  intro value slice pins s σ H x y v u Q I rx ry h hs
  obtain ⟨p, xs, i, z, rfl, rfl, hq, he, q⟩ := h
  cases rx
  obtain ⟨t, rfl⟩ := ry
  obtain ⟨its, r, pl, hz⟩ := I.tuple hq
  obtain ⟨j, h1, h2, h3, h4, h5⟩ := atI_get he
  obtain ⟨w, ew, rw'⟩ := r.get h2
  have hl := r.length
  have hn := line63
  have fin : EP X pins σ Q w s := ⟨z, H, I, rw', q⟩
  exact subscriptTail_builtinR (x := w) pl.typeIs slot_tuple_getitem.lookup
    (getItem_tuple (j := j) (Q := fun r s' => r = w ∧ EP X pins σ Q r s') pl (by omega) (by omega) (by rw [List.size_toArray, ← hl]; exact h1) (by simpa using ew) ⟨rfl, fin⟩) hs
/-! ### xs[i] = v, any sign -/
/-- the list's object behind a store -/
theorem mapSeq_set (its : List Value) (n j : Nat) (u : Value) : Obj.mapSeq (·.setIfInBounds j u) { cls := .type "list", data := .seq its.toArray n } = { cls := .type "list", data := .seq (its.set j u).toArray n } := by
  simp [Obj.mapSeq]
theorem Inv.lst {pins : List (Addr × Obj)} {σ : St} {H : Hp} {s : Shared} {p : Addr} {xs : List V} (I : Inv X pins σ H s) (h : H p = some (.lst xs)) :
    ∃ (its : List Value) (n : Nat), Vals xs its ∧ s.heap.get? p = some { cls := .type "list", data := .seq its.toArray n } ∧ xs.length ≤ sizeLine := by
  obtain ⟨z, its, n, r, e⟩ := I.hok p _ h
  exact ⟨its, n, r, e, z⟩
/-- the list at p is written by an update of its object -/
theorem Inv.lstUpd {pins : List (Addr × Obj)} {σ : St} {H : Hp} {s : Shared} {p : Addr} {xs ys : List V} {its its' : List Value} {n n' : Nat} {f : Obj → Obj} (I : Inv X pins σ H s) (h : H p = some (.lst xs))
    (ho : s.heap.get? p = some { cls := .type "list", data := .seq its.toArray n }) (hf : f { cls := .type "list", data := .seq its.toArray n } = { cls := .type "list", data := .seq its'.toArray n' }) (r : Vals ys its') (hz : ys.length ≤ sizeLine) (t : Nat) :
    Inv X pins σ (upd H p (.lst ys)) { s with heap := s.heap.update p f, toks := t } := by
  have e : (s.heap.update p f).get? p = some { cls := .type "list", data := .seq its'.toArray n' } := by
    rw [Heap.get?_update_self f ho (by rw [hf] <;> rfl), hf]
  refine I.write (x := p) (e := p) (by rw [h]; trivial) (.inl rfl) (fun b u hb q => (Heap.get?_update_other _ _ (Ne.symm hb)).trans q) ⟨_, e⟩ ?_
  exact ⟨hz, its', n', r, e⟩
def rSetL : V → V → V → Hp → (Hp → Prop) → Prop := fun o i v H Q => ∃ p xs k j, o = .ref p ∧ i = .int k ∧ H p = some (.lst xs) ∧ ixN xs.length k = some j ∧ Q (upd H p (.lst (xs.set j v)))
theorem set_list : PSet X rSetL := by
  intro pins s σ H o i v ov iv u Q I ro ri rv h
  obtain ⟨p, xs, k, j, rfl, rfl, hp, hj, q⟩ := h
  cases ro
  obtain ⟨t, rfl⟩ := ri
  obtain ⟨its, n, r, ho, hz⟩ := I.lst hp
  obtain ⟨h1, h2, h3, h4⟩ := ixN_seq hj
  have hl := r.length
  have hn := line63
  have I' : Inv X pins σ (upd H p (.lst (xs.set j v))) { s with heap := s.heap.update p (Obj.mapSeq (·.setIfInBounds j u)) } :=
    I.lstUpd hp ho (mapSeq_set its n j u) (r.set rv j) (by rw [List.length_set]; exact hz) s.toks
  by_cases h0 : 0 ≤ k
  · have hk : k.toNat = j := by
      rw [seqIndex_of h0 h4] at h1
      exact Option.some.inj h1
    exact PySem.W.ki_setAt ho h0 (by omega) (by rw [List.size_toArray, ← hl]; exact h4) (by rw [hk]; exact ⟨_, I', q⟩)
  · have hk : (k + (its.toArray.size : Int)).toNat = j := by
      rw [seqIndex_neg (by omega) h3] at h1
      rw [List.size_toArray, ← hl]
      exact Option.some.inj h1
    exact PySem.W.ki_setBack ho (by omega) (by rw [List.size_toArray, ← hl]; exact h3) (by omega) (by rw [hk]; exact ⟨_, I', q⟩)

/-! ### slices -/
theorem slice_bounds (lo hi : Option Int) (n : Nat) : (sliceBounds lo hi none n).1 = ((HT.sIx n 0 lo : Nat) : Int) ∧ (sliceBounds lo hi none n).2.1 = ((HT.sIx n n hi : Nat) : Int) ∧ (sliceBounds lo hi none n).2.2 = 1 := by
  refine ⟨?_, ?_, rfl⟩
  · cases lo with
    | none => simp [sliceBounds, HT.sIx]
    | some i =>
      simp only [sliceBounds, HT.sIx, Option.getD_none, show (1 : Int) > 0 by decide, if_true]
      by_cases h : i < 0
      · simp only [h, if_true] <;> omega
      · simp only [h, if_false] <;> omega
  · cases hi with
    | none => simp [sliceBounds, HT.sIx]
    | some i =>
      simp only [sliceBounds, HT.sIx, Option.getD_none, show (1 : Int) > 0 by decide, if_true]
      by_cases h : i < 0
      · simp only [h, if_true] <;> omega
      · simp only [h, if_false] <;> omega
theorem slicePick_cut (its : List Value) (lo hi : Option Int) : slicePick its.toArray lo hi none = ((its.drop (HT.sIx its.length 0 lo)).take (HT.sIx its.length its.length hi - HT.sIx its.length 0 lo)).toArray := by
  obtain ⟨h1, h2, h3⟩ := slice_bounds lo hi its.toArray.size
  unfold slicePick
  rw [h1, h2, h3]
  simp only [sliceRange_one, pick_run, List.size_toArray] <;> rfl
/-- xs[lo:hi] of a list: a new list -/
def rSlL (K : PySem.W.Frag) : V → Option Int → Option Int → Hp → VK → Prop := fun x lo hi H Q => ∃ a xs, x = .ref a ∧ SqL K H a xs ∧ ∀ p, H p = none → Q (.ref p) (upd H p (.lst (cutV xs lo hi)))
theorem sl_list : SlR X (rSlL X.K) := by
  intro pins s σ H x v vl vu lo hi sl Q I rx hs pl pu h
  obtain ⟨a, xs, rfl, hx, q⟩ := h
  cases rx
  obtain ⟨its, r, ht, hz⟩ := I.list hx
  have hlen := r.length
  refine ⟨"list", _, slot_list_getitem.lookup, ht.isList.typeIs, ?_⟩
  refine wpAny_getItem_list_slice ht.isList hs pl pu .none (by simp) ?_ (by rw [List.size_toArray] <;> omega)
  rw [slicePick_cut, ← hlen]
  refine ⟨.ref s.heap.objs.size, _, I.laid (t' := s.toks) (o := .lst (cutV xs lo hi)) (fun b ob q => Heap.get?_push_of_some _ q) (Nat.le_refl _) ?_, rfl, q _ (I.hok.fresh (Nat.le_refl _))⟩
  exact ⟨Nat.le_trans (cutV_length xs lo hi) hz, _, 0, (r.drop (HT.sIx xs.length 0 lo)).take (HT.sIx xs.length xs.length hi - HT.sIx xs.length 0 lo), Heap.get?_push_size _ rfl⟩

/-! ### in, not in: flat items -/
def flatV : V → Bool
  | .non => true
  | .bl _ => true
  | .int _ => true
  | .str _ => true
  | _ => false
/-- == of flat values -/
def eqV : V → V → Bool
  | .non, .non => true
  | .bl a, .bl b => a == b
  | .bl a, .int b => (if a then 1 else 0) == b
  | .int a, .bl b => a == (if b then 1 else 0)
  | .int a, .int b => a == b
  | .str a, .str b => a == b
  | _, _ => false
theorem eqAt_V {A : Around} {s : Shared} {y x : V} {u v : Value} (ry : RelV y u) (rx : RelV x v) (fy : flatV y = true) (fx : flatV x = true) : SeqAt.EqAt A s u v (eqV y x) := by
  cases y with
  | non =>
    cases ry
    cases x with
    | non => cases rx; exact SeqAt.EqAt.same _
    | bl b => cases rx; exact SeqAt.EqAt.none_bool b
    | int b => obtain ⟨t, rfl⟩ := rx; exact SeqAt.EqAt.none_int b t
    | str b => obtain ⟨t, rfl⟩ := rx; exact SeqAt.EqAt.none_str b t
    | _ => exact absurd (show false = true from fx) Bool.false_ne_true
  | bl a =>
    cases ry
    cases x with
    | non => cases rx; exact SeqAt.EqAt.bool_none a
    | bl b => cases rx; exact SeqAt.EqAt.bool_bool a b
    | int b => obtain ⟨t, rfl⟩ := rx; exact SeqAt.EqAt.bool_int a b t
    | str b => obtain ⟨t, rfl⟩ := rx; exact SeqAt.EqAt.bool_str a b t
    | _ => exact absurd (show false = true from fx) Bool.false_ne_true
  | int a =>
    obtain ⟨t', rfl⟩ := ry
    cases x with
    | non => cases rx; exact SeqAt.EqAt.int_none a t'
    | bl b => cases rx; exact SeqAt.EqAt.int_bool a t' b
    | int b => obtain ⟨t, rfl⟩ := rx; exact SeqAt.EqAt.int_int a t' b t
    | str b => obtain ⟨t, rfl⟩ := rx; exact SeqAt.EqAt.int_str a t' b t
    | _ => exact absurd (show false = true from fx) Bool.false_ne_true
  | str a =>
    obtain ⟨t', rfl⟩ := ry
    cases x with
    | non => cases rx; exact SeqAt.EqAt.str_none a t'
    | bl b => cases rx; exact SeqAt.EqAt.str_bool a t' b
    | int b => obtain ⟨t, rfl⟩ := rx; exact SeqAt.EqAt.str_int a t' b t
    | str b => obtain ⟨t, rfl⟩ := rx; exact SeqAt.EqAt.str_str a t' b t
    | _ => exact absurd (show false = true from fx) Bool.false_ne_true
  | _ => exact absurd (show false = true from fy) Bool.false_ne_true
/-- the items' answers, read off the values (a value's own answer does not lean on its token) -/
def eqU (x : V) (u : Value) : Bool := match u with
  | .none => eqV .non x
  | .bool b => eqV (.bl b) x
  | .int i _ => eqV (.int i) x
  | .str z _ => eqV (.str z) x
  | _ => false
theorem eqU_of {x y : V} {u : Value} (r : RelV y u) (f : flatV y = true) : eqU x u = eqV y x := by
  cases y with
  | non => cases r; rfl
  | bl b => cases r; rfl
  | int i => obtain ⟨t, rfl⟩ := r; rfl
  | str z => obtain ⟨t, rfl⟩ := r; rfl
  | _ => exact absurd (show false = true from f) Bool.false_ne_true
theorem any_eqU {x : V} : ∀ {xs : List V} {us : List Value}, Vals xs us → xs.all flatV = true → us.any (eqU x) = xs.any fun y => eqV y x
  | _, _, .nil, _ => rfl
  | y :: xs, u :: us, .cons r t, f => by
    rw [List.all_cons, Bool.and_eq_true] at f
    rw [List.any_cons, List.any_cons, eqU_of r f.1, any_eqU t f.2]
theorem mem_eqAt {A : Around} {s : Shared} {x : V} {v : Value} (rx : RelV x v) (fx : flatV x = true) : ∀ {xs : List V} {us : List Value}, Vals xs us → xs.all flatV = true → ∀ u ∈ us, SeqAt.EqAt A s u v (eqU x u)
  | _, _, .nil, _ => fun u hu => by cases hu
  | y :: xs, u :: us, .cons r t, f => fun u' hu => by
    rw [List.all_cons, Bool.and_eq_true] at f
    rcases List.mem_cons.mp hu with rfl | hu
    · rw [eqU_of r f.1]; exact eqAt_V r rx f.1 fx
    · exact mem_eqAt rx fx t f.2 u' hu
def inV (x : V) (xs : List V) : Bool := xs.any fun y => eqV y x
/-- x in a list or tuple of flat items -/
def rIn (K : PySem.W.Frag) (neg : Bool) : R2 := fun x y H Q => ∃ p xs, y = .ref p ∧ (SqL K H p xs ∨ SqT K H p xs) ∧ flatV x = true ∧ xs.all flatV = true ∧ Q (.bl (if neg then !inV x xs else inV x xs)) H
theorem op_notIn_seq : OpR X (compareOp .NotIn) (rIn X.K true) := by
  intro pins s σ H x y v u Q I rx ry h
  obtain ⟨p, xs, rfl, hq, fx, fs, q⟩ := h
  cases ry
  rcases hq with hq | hq
  · obtain ⟨its, r, pl, hz⟩ := I.list hq
    refine SeqAt.notIn_listAt (eqU x) pl.isList (fun w hw => mem_eqAt rx fx r fs w (by simpa using hw)) ⟨.bl _, H, I, rfl, ?_⟩
    rw [show its.toArray.any (eqU x) = its.any (eqU x) by simp, any_eqU r fs]
    exact q
  · obtain ⟨its, r, pl, hz⟩ := I.tuple hq
    refine SeqAt.notIn_tupleAt (eqU x) pl (fun w hw => mem_eqAt rx fx r fs w (by simpa using hw)) ⟨.bl _, H, I, rfl, ?_⟩
    rw [show its.toArray.any (eqU x) = its.any (eqU x) by simp, any_eqU r fs]
    exact q
/-! ### len, list(x), tuple(x) of any list or tuple that is read -/
theorem call_len_seq : CallR X (.builtin "len") (fun xs H Q => ∃ p ys, xs = [.ref p] ∧ (SqL X.K H p ys ∨ SqT X.K H p ys) ∧ Q (.int ys.length) H) := by
  intro pins s σ H xs us Q I r h
  obtain ⟨p, ys, rfl, hq, q⟩ := h
  obtain ⟨u, rfl, rx⟩ := vals1 r
  cases rx
  have hn := line63
  rcases hq with hq | hq
  · obtain ⟨its, r', pl, hz⟩ := I.list hq
    have hlen := r'.length
    exact Calls.call_len_list pl.isList (by simp only [List.size_toArray] <;> omega) ⟨.int ys.length, H, I.tok _, ⟨s.toks + 1, by rw [List.size_toArray, hlen]⟩, q⟩
  · obtain ⟨its, r', pl, hz⟩ := I.tuple hq
    have hlen := r'.length
    exact len_tuple pl (by simp only [List.size_toArray] <;> omega) ⟨.int ys.length, H, I.tok _, ⟨s.toks + 1, by rw [List.size_toArray, hlen]⟩, q⟩
theorem call_list_of : CallR X (.type "list") (fun xs H Q => ∃ p ys, xs = [.ref p] ∧ (SqL X.K H p ys ∨ SqT X.K H p ys) ∧ ∀ l, H l = none → Q (.ref l) (upd H l (.lst ys))) := by
  intro pins s σ H xs us Q I r h
  obtain ⟨p, ys, rfl, hq, q⟩ := h
  obtain ⟨u, rfl, rx⟩ := vals1 r
  cases rx
  have fin : ∀ (its : List Value), Vals ys its → ys.length ≤ sizeLine → ∀ (h' : Heap) (c' : Nat), (∀ b o', s.heap.get? b = some o' → h'.get? b = some o') →
      h'.get? s.heap.objs.size = some { cls := .type "list", dict := none, data := .seq its.toArray c', slots := #[] } → EP X pins σ Q (.ref s.heap.objs.size) { s with heap := h' } := fun its r' hz h' c' kp e =>
    ⟨.ref s.heap.objs.size, _, I.laid (t' := s.toks) kp (Nat.le_refl _) (show ObjOk X.prog X.w _ h' _ (.lst ys) from ⟨hz, its, c', r', e⟩), rfl, q _ (I.hok.fresh (Nat.le_refl _))⟩
  rcases hq with hq | hq
  · obtain ⟨its, r', pl, hz⟩ := I.list hq
    have hlen := r'.length
    obtain ⟨o, ho, hc, n, hd⟩ := pl.isList
    exact call_list_seq p (.inl rfl) ho hc hd (fun h' c' kp e => fin its r' hz h' c' kp e) (by simp only [List.size_toArray] <;> omega)
  · obtain ⟨its, r', pl, hz⟩ := I.tuple hq
    have hlen := r'.length
    obtain ⟨o, ho, hc, n, hd⟩ := pl
    exact call_list_seq p (.inr rfl) ho hc hd (fun h' c' kp e => fin its r' hz h' c' kp e) (by simp only [List.size_toArray] <;> omega)
/-! ### the call of a builtin's method: o.m(..) -/
/-- the value is of that builtin type -/
def tyV (K : PySem.W.Frag) (T : String) (x : V) (H : Hp) : Prop := match x with
  | .str _ => T = "str"
  | .int _ => T = "int"
  | .ref p => (T = "list" ∧ ∃ xs, SqL K H p xs) ∨ (T = "tuple" ∧ ∃ o, K.lookup p = some o ∧ o.cls = .type "tuple" ∧ o.dict = none) ∨
      (T = "dict" ∧ ((∃ kvs, H p = some (.dK kvs)) ∨ ∃ kvs, H p = some (.dT kvs))) ∨ (T = "set" ∧ ∃ S n, H p = some (.set S n))
  | _ => False
theorem tyV_is {pins : List (Addr × Obj)} {σ : St} {H : Hp} {s : Shared} {T : String} {x : V} {v : Value} (I : Inv X pins σ H s) (r : RelV x v) (ty : tyV X.K T x H) :
    s.TypeIs v T ∧ ∀ a, v = .ref a → ∃ ob, s.heap.get? a = some ob ∧ ob.dict = none := by
  cases x with
  | str z =>
    obtain ⟨t, rfl⟩ := r
    cases (show T = "str" from ty)
    exact ⟨typeIs_str s z t, fun _ e => nomatch e⟩
  | int i =>
    obtain ⟨t, rfl⟩ := r
    cases (show T = "int" from ty)
    exact ⟨typeIs_int s i t, fun _ e => nomatch e⟩
  | ref p =>
    cases r
    rcases ty with ⟨rfl, xs, hq⟩ | ⟨rfl, o, hk, hc, hd⟩ | ⟨rfl, hk⟩ | ⟨rfl, S, n, hk⟩
    · obtain ⟨its, _, pl, _⟩ := I.list hq
      refine ⟨pl.isList.typeIs, fun a e => ?_⟩
      cases e
      obtain ⟨o, n, e, c, hd, _⟩ := pl
      exact ⟨o, e, hd⟩
    · refine ⟨⟨o, I.kIn p o hk, hc⟩, fun a e => ?_⟩
      cases e
      exact ⟨o, I.kIn _ o hk, hd⟩
    · have z : ∃ o, s.heap.get? p = some o ∧ o.ExactDict := by
        rcases hk with ⟨kvs, hk⟩ | ⟨kvs, hk⟩
        · obtain ⟨_, _, _, _, o, _, _, e, ex, _⟩ := I.hok p _ hk
          exact ⟨o, e, ex⟩
        · obtain ⟨_, _, _, _, o, _, _, e, ex, _⟩ := I.hok p _ hk
          exact ⟨o, e, ex⟩
      obtain ⟨o, e, ex⟩ := z
      refine ⟨⟨o, e, ex.1⟩, fun a e2 => ?_⟩
      cases e2
      exact ⟨o, e, ex.2.1⟩
    · obtain ⟨o, _, _, _, e, ex, _⟩ := I.hok p _ hk
      refine ⟨⟨o, e, ex.1⟩, fun a e2 => ?_⟩
      cases e2
      exact ⟨o, e, ex.2.1⟩
  | _ => exact False.elim ty
def tBM0 (K : PySem.W.Frag) (T : String) (r : V → List V → Hp → VK → Prop) (to : TE) : TE := fun σ H Q => to σ H fun x H1 => tyV K T x H1 ∧ r x [] H1 Q
def tBM (K : PySem.W.Frag) (T : String) (r : V → List V → Hp → VK → Prop) (to : TE) (t : TA) : TE := fun σ H Q => to σ H fun x H1 => tyV K T x H1 ∧ t σ H1 fun xs H2 => r x xs H2 Q
variable {o e : Expr} {es : List Expr} {to : TE} {t : TA} {name : Str} {apos cpos : Pos} {T id : String} {r : V → List V → Hp → VK → Prop}
theorem pe_bm (pa : PlainAttrs T) (slot : Slot T name id) (hty : typeOf (.builtin id) = pure (.type "method_descriptor")) (hm : MtR X id r) (ho : PE X o to) (ha : PA X (e :: es) t)
    (hbase : attributeBase o name X.env (eval o X.env) = eval o X.env := by rfl)
    (hfew : ((backTo cpos (starEach (e :: es) X.env)).all (fun x => !x.1) && (backToKw cpos (keywordEach [] X.env)).all (fun x => x.1.isSome)
      && decide ((e :: es).length + ([] : List Keyword).length + (if ([] : List Keyword).isEmpty then 0 else 1) < 30)) = true := by rfl)
    (hline : (apos.endLine == cpos.line) = true := by rfl) (hs : starEach (e :: es) X.env = (false, eval e X.env) :: starEach es X.env := by rfl) (hplain : (backTo cpos (starEach es X.env)).any (·.1) = false := by rfl) :
    PE X (.Call (.Attribute o name apos) (e :: es) [] cpos) (tBM X.K T r to t) := by
  intro pins s σ H Q I h
  refine wpAny_Call_method_late hbase hfew hline rfl (thn (ho pins s σ H _ I h) fun v s1 ⟨x, H1, I1, r1, ty, q1⟩ => ?_)
  obtain ⟨h1, h2⟩ := tyV_is I1 r1 ty
  refine ⟨T, id, pa, slot, hty, h1, h2, ?_⟩
  have hA := ha cpos pins s1 σ H1 _ I1 q1
  rw [hs] at hA ⊢
  refine Calls.callWith_builtin (by show (false || (backTo cpos (starEach es X.env)).any (·.1)) = false; rw [hplain] <;> rfl) (Calls.evalArgs_plain ?_)
  exact thn hA fun us s2 ⟨vs, H2, I2, r2, q2⟩ => hm pins s2 σ H2 x vs v us Q I2 r1 r2 q2
/- xs.append(e), list.index on a module's tuple .. are MtR facts of 06m -/
end
end L2

namespace L2
open PySem PySem.Spec PyProof.Rows

def MtM (X : Cx) (id : String) (r : V → List V → Hp → VK → Prop) : Prop :=
  ∀ (pins : List (Addr × Obj)) (s : Shared) (σ : St) (H : Hp) (x : V) (xs : List V) (v : Value) (us : List Value) (Q : VK), Inv X pins σ H s → RelV x v → Vals xs us → r x xs H Q →
    wpAny (model X.prog X.w) X.A (call (.builtin id) (v :: us)) (EP X pins σ Q) X.xe s

/-! ### lists of values -/
theorem Vals.one : ∀ {x : V} {us : List Value}, Vals [x] us → ∃ u, us = [u] ∧ RelV x u
  | _, _, .cons r .nil => ⟨_, rfl, r⟩
theorem Vals.zero : ∀ {us : List Value}, Vals [] us → us = []
  | _, .nil => rfl
theorem Vals.dropLast {xs : List V} {us : List Value} (h : Vals xs us) : Vals xs.dropLast us.dropLast := by
  induction h with
  | nil => exact .nil
  | cons r t ih =>
    cases t with
    | nil => exact .nil
    | cons q t' => exact .cons r ih
theorem Vals.rep {xs : List V} {us : List Value} (h : Vals xs us) : ∀ k : Nat, Vals (List.replicate k xs).flatten (List.replicate k us).flatten
  | 0 => .nil
  | k + 1 => by
    rw [List.replicate_succ, List.replicate_succ, List.flatten_cons, List.flatten_cons]
    exact Vals.append h (Vals.rep h k)
theorem foldl_rep (its : List Value) : ∀ (k : Nat) (acc : List Value),
    List.foldl (fun x1 x2 => x1 ++ x2) acc.toArray (List.replicate k its.toArray) = (acc ++ (List.replicate k its).flatten).toArray
  | 0, acc => by simp
  | k + 1, acc => by
    have e : acc.toArray ++ its.toArray = (acc ++ its).toArray := by simp
    have e2 : (acc ++ its) ++ (List.replicate k its).flatten = acc ++ (List.replicate (k + 1) its).flatten := by
      rw [List.replicate_succ, List.flatten_cons, List.append_assoc]
    rw [← e2, ← foldl_rep its k (acc ++ its), ← e, List.replicate_succ, List.foldl_cons]

section
variable {X : Cx} {pins : List (Addr × Obj)} {σ : St} {H : Hp} {s : Shared} {l b : Addr} {xs ys zs : List V}

/-! ### the two steps: a tracked list is rewritten, a new list is laid -/
theorem Inv.lset {its its' : List Value} {n : Nat} {f : Array Value → Array Value} {t' : Nat} (I : Inv X pins σ H s) (hH : H l = some (.lst xs))
    (e : s.heap.get? l = some { cls := .type "list", data := .seq its.toArray n }) (hf : f its.toArray = its'.toArray) (hv : Vals ys its') (hz : ys.length ≤ sizeLine) :
    Inv X pins σ (upd H l (.lst ys)) { s with heap := s.heap.update l (Obj.mapSeq f), toks := t' } := by
  have q := PySem.IsL.update e f
  rw [hf] at q
  refine I.write (x := l) (e := l) (by rw [hH]; exact trivial) (.inl rfl) (fun b' u hb hu => (Heap.get?_update_other s.heap (Obj.mapSeq f) (Ne.symm hb)).trans hu) ⟨_, q⟩ ?_
  exact ⟨hz, its', _, hv, q⟩
theorem Inv.lnew {its : List Value} {t' : Nat} (I : Inv X pins σ H s) (hv : Vals ys its) (hz : ys.length ≤ sizeLine) :
    Inv X pins σ (upd H s.heap.objs.size (.lst ys)) { s with heap := s.heap.push { cls := .type "list", data := .seq its.toArray }, toks := t' } :=
  I.laid (fun _ _ q => Heap.get?_push_of_some _ q) (Nat.le_refl _) ⟨hz, its, 0, hv, Heap.get?_push_size _ rfl⟩
theorem Inv.fresh (I : Inv X pins σ H s) : H s.heap.objs.size = none := I.hok.fresh (Nat.le_refl _)
theorem Inv.lstM (I : Inv X pins σ H s) (hH : H l = some (.lst xs)) : xs.length ≤ sizeLine ∧ ∃ (its : List Value) (n : Nat), Vals xs its ∧ xs.length = its.length ∧ s.heap.get? l = some { cls := .type "list", data := .seq its.toArray n } := by
  obtain ⟨z, its, n, r, e⟩ := I.hok l _ hH
  exact ⟨z, its, n, r, r.length, e⟩

theorem notLongL {n : Nat} (h : n ≤ sizeLine) : Builtin.List.listTooLong n = false := by
  unfold Builtin.List.listTooLong
  exact decide_eq_false (by omega)
end

section
variable {X : Cx}

/-! ### methods -/
def rAppend : V → List V → Hp → VK → Prop := fun x vs H Q => ∃ l xs y, x = .ref l ∧ vs = [y] ∧ H l = some (.lst xs) ∧ xs.length < sizeLine ∧ Q .non (upd H l (.lst (xs ++ [y])))
theorem mt_append : MtM X "list.append" rAppend := by
  intro pins s σ H x vs v us Q I rx rv h
  obtain ⟨l, xs, y, rfl, rfl, hH, hz, q⟩ := h
  cases rx
  obtain ⟨u, rfl, ru⟩ := rv.one
  obtain ⟨z, its, n, r, hl, e⟩ := I.lstM hH
  refine call_meets F.slot_list_append ⟨_, e, rfl⟩ F.entry_list_append (F.args_list_append_2 _ _) (PySem.list_append l its.toArray n u (by rw [List.size_toArray]; omega)) ⟨e, ?_⟩
  refine ⟨.non, _, I.lset (its' := its ++ [u]) hH e (by simp) (r.append (.cons ru .nil)) ?_, rfl, q⟩
  rw [List.length_append, List.length_singleton]
  omega

/-! ### list + list, list += list, list * int -/
def rCat : R2 := fun x y H Q => ∃ l b xs zs, x = .ref l ∧ y = .ref b ∧ H l = some (.lst xs) ∧ H b = some (.lst zs) ∧ xs.length + zs.length ≤ sizeLine ∧ ∀ p, H p = none → Q (.ref p) (upd H p (.lst (xs ++ zs)))
theorem op_cat : OpR X (binaryOp .Add) rCat := by
  intro pins s σ H x y v u Q I rx ry h
  obtain ⟨l, b, xs, zs, rfl, rfl, hH, hB, hz, q⟩ := h
  cases rx
  cases ry
  obtain ⟨z, its, n, r, hl, e⟩ := I.lstM hH
  obtain ⟨z2, its2, n2, r2, hl2, e2⟩ := I.lstM hB
  refine PySem.P.add_list e e2 ?_ (by rw [List.size_toArray, List.size_toArray]; omega)
  have ea : its.toArray ++ its2.toArray = (its ++ its2).toArray := by simp
  rw [ea]
  exact ⟨.ref _, _, I.lnew (t' := s.toks) (r.append r2) (by rw [List.length_append]; omega), rfl, q _ I.fresh⟩
/-- a list times an int (a negative one is nothing) -/
def rRep : R2 := fun x y H Q => ∃ l k xs, x = .ref l ∧ y = .int k ∧ H l = some (.lst xs) ∧ -(2 ^ 63) ≤ k ∧ k < 2 ^ 63 ∧ xs.length * k.toNat ≤ sizeLine ∧
  ∀ p, H p = none → Q (.ref p) (upd H p (.lst (List.replicate k.toNat xs).flatten))
theorem len_rep {α : Type} (xs : List α) (k : Nat) : (List.replicate k xs).flatten.length = k * xs.length := by
  induction k with
  | zero => simp
  | succ k ih => rw [List.replicate_succ, List.flatten_cons, List.length_append, ih, Nat.succ_mul, Nat.add_comm]
theorem op_rep : OpR X (binaryOp .Mult) rRep := by
  intro pins s σ H x y v u Q I rx ry h
  obtain ⟨l, k, xs, rfl, rfl, hH, h1, h2, hz, q⟩ := h
  cases rx
  obtain ⟨t, rfl⟩ := ry
  obtain ⟨z, its, n, r, hl, e⟩ := I.lstM hH
  have hlen : its.toArray.size * k.toNat ≤ sizeLine := by rw [List.size_toArray, ← hl]; exact hz
  have hcap : ¬ its.toArray.size * k.toNat > (2 ^ 63 - 1) / 8 := by
    have : (sizeLine : Nat) ≤ (2 ^ 63 - 1) / 8 := by decide
    omega
  have hfit : ¬ (!Builtin.List.listFitsIndex k) = true := by
    rw [fitsIndex_both h1 h2]
    exact Bool.false_ne_true
  have hlong : ¬ Builtin.List.listTooLong (its.toArray.size * k.toNat) = true := by
    rw [notLongL hlen]
    exact Bool.false_ne_true
  have hnew : List.foldl (fun x1 x2 => x1 ++ x2) #[] (List.replicate (if its.toArray.isEmpty = true then 0 else k.toNat) its.toArray) = (List.replicate k.toNat its).flatten.toArray := by
    have f0 : ∀ m : Nat, List.foldl (fun x1 x2 => x1 ++ x2) #[] (List.replicate m its.toArray) = (List.replicate m its).flatten.toArray := fun m => by
      have := foldl_rep its m []
      rw [List.nil_append] at this
      exact this
    rw [f0]
    cases its with
    | nil => simp
    | cons a r' => rw [if_neg (by simp)]
  refine wpAny_binaryOp_repeat_ref (T := "list") (U := "int") (by decide) ⟨_, e, rfl⟩ (fun s' => typeIs_int s' k t) noFill_list_mul F.fills_int_mul F.slot_int_rmul repeat_list F.slot_int_index.lookup
    (call_meets F.slot_int_rmul (typeIs_int s k t) F.entry_int_rmul (F.args_int_rmul_2 _ _) (int___rmul___int_list k t l its.toArray n)
      ⟨e, rfl, ⟨_, e, rfl⟩, call_meets F.slot_list_mul ⟨_, e, rfl⟩ F.entry_list_mul (F.args_list_mul_2 _ _) (AutoListH.list___mul___list_int_3 l its.toArray n k t hfit hcap hlong) ⟨e, ?_⟩⟩)
  rw [hnew]
  exact ⟨.ref _, _, I.lnew (t' := s.toks) (r.rep k.toNat) (by rw [len_rep, Nat.mul_comm]; exact hz), rfl, q _ I.fresh⟩

/-! ### del xs[i] -/
end

/-! ### xs[a:b] = ys -/
section
variable {prog : Program} {w : World} {A : Around} {E : Value → Shared → Prop} {s : Shared}
end

section
variable {X : Cx}
end
end L2

namespace Att
open PySem PySem.W PySem.Calls PyProof.Rows

/-! ### the script -/
theorem ints_of_wellAll {P : Params} {h : Heap} : ∀ (ns : List Int) (vs : List Value), WellAll P h vs (ns.map WData.int) → IntsAre vs ns := by
  intro ns
  induction ns with
  | nil =>
    intro vs w
    rw [List.map_nil] at w
    cases w
    exact .nil
  | cons n ns ih =>
    intro vs w
    rw [List.map_cons] at w
    cases w with
    | cons a b =>
      cases a
      exact .cons _ _ (ih _ b)

theorem script_of {l : OpenLaw} {n : Nat} (hn : l.most = some n) {P : Params} {h : Heap} {args : List WData} {vals : List Value}
    (hpre : l.row.toRowW.claim.pre args = true) (hwl : WellAll P h vals args) :
    ∃ a vs ns, vals = [Value.ref a] ∧ args = [WData.list (ns.map WData.int)] ∧ h.get? a = some { cls := .type "list", data := .seq vs.toArray } ∧ IntsAre vs ns ∧ ns.length ≤ n := by
  have hsh : WShape.hasAll [] args [.list .int] = true := (pre_splitW hpre).1
  have hc : l.pre.holds [] { args := args } = true := (pre_splitW hpre).2
  obtain ⟨d, r, rfl, h1, h2⟩ := hasAllW_cons hsh
  obtain rfl := hasAllW_nil h2
  obtain ⟨xs, rfl, h3⟩ := hasW_list h1
  obtain ⟨ns, rfl⟩ := items_int h3
  have hlen : ns.length ≤ n := by
    unfold OpenLaw.pre at hc
    have h4 : (WTm.not (.lt (.lit (.int (n : Int))) (.len (.arg 0)))).holds [] { args := [.list (ns.map .int)] } = true := by
      have h4 := (holds_andW hc).1
      rw [hn] at h4
      exact h4
    have h5 := condW_of h4 (w_not (w_lt w_lit (w_len_list (w_arg rfl))))
    rw [List.length_map] at h5
    refine Nat.le_of_not_lt fun q => ?_
    have q' : (n : Int) < ((ns.length : Nat) : Int) := by omega
    first
      | (rw [decide_eq_true q'] at h5; exact absurd h5 (by decide))
      | (simp at h5; omega)
  cases hwl with
  | cons w1 w2 =>
    cases w2
    cases w1 with
    | list ho hall => exact ⟨_, _, ns, rfl, rfl, ho, ints_of_wellAll ns _ hall, hlen⟩

theorem post_true (l : OpenLaw) (args : List WData) : l.row.toRowW.claim.post args (.bool true) args = true :=
  postW_of (r := l.row.toRowW) (X := (true == true))
    (show WShape.has [] (.bool true) .bool = true by first | rfl | decide | simp [WShape.has, WShape.arms, WShape.armsAll])
    (show (WTm.eq .res (.lit (.bool true))).value [] { args := args, res := some (.bool true), after := args } = some (.bool (true == true)) from w_eq_bool (w_res rfl) w_lit) rfl

/-! ### the attachment: holds_open's last premise (the goal 'hc' behind k_head) from a wpAny of the law's body -/
/-- the same from a codeAny of the CALL (for a layer whose function contracts speak of calls) -/
theorem attach_call {l : OpenLaw} {n : Nat} {q : Program} {loose : List Str} {XP : (Str → Option Value) → Heap → Prop} {YP : World → Heap → Prop} {d : DefRec}
    (hn : l.most = some n) (hdf : d.params.defaults = [])
    (call : ∀ (w : World) (s₀ s₁ : Shared) (mg mb : Str → Option Value) (fa : Addr) (o : Obj) (pm cd doc : Value) (a : Addr) (vs : List Value) (ns : List Int),
      Ground q loose [] XP w s₀ mg mb s₁.heap → YP w s₁.heap →
      s₁.heap.get? fa = some o → o.data = .func (docDef d.name d.params d.body d.scope pm cd doc) → s₁.heap.CodeRec cd d.name → mg d.name = some (.ref fa) →
      s₁.heap.get? a = some { cls := .type "list", data := .seq vs.toArray } → IntsAre vs ns → ns.length ≤ n → s₁.gens = #[] →
      codeAny (model l.prog w) callerA (.call (.ref fa) ⟨[.ref a], []⟩) (fun r s' => r = .ok (.ret (.bool true)) ∧ OldK s₁.heap s'.heap ∧ s'.os = s₁.os ∧ AllBare s'.gens) s₁) :
    WalkO q loose XP YP l.row.toRowW d [] (fun f vs => PySem.call f vs) := by
  intro w s₀ s₁ mg mb G Y fa o pm cd doc dV kV ho hd hcd hD hmg hg args vals as hpre hlay hrd hwl hlo
  obtain rfl : dV = .none := Dflts.none hD hdf
  obtain rfl : kV = .none := Dflts.noKw hD
  obtain ⟨a, vs, ns, rfl, rfl, hobj, hints, hlen⟩ := script_of hn hpre hwl
  refine enter_call (codeAny_mono (call w s₀ s₁ mg mb fa o pm cd doc a vs ns G Y ho (fd_plain hd) hcd hmg hobj hints hlen hg) fun r s' hq => ?_)
  obtain ⟨rfl, h2, h3, h4⟩ := hq
  exact ⟨.inl ⟨.bool true, .bool true, [], rfl, fun _ => rfl, .bool true, post_true l _, fun _ => ⟨List.Pairwise.nil, fun _ hm => (nomatch hm)⟩⟩, h2, h3, h4⟩

/-! ### rules over ANY heap (no ledger) from facts about the written part K: the library's own take a ledger (News) for what they write -/
section
variable {prog : Program} {w : World} {A : Around} {E : Value → Shared → Prop} {s : Shared} {K : Frag}

/-! the whole heap as the ledger: makes every rule that writes through a ledger a rule over any heap -/
end
end Att

namespace L2
open PySem PySem.Spec PyProof.Rows

theorem vals_ints : ∀ {vs : List Value} {ns : List Int}, IntsAre vs ns → Vals (ns.map V.int) vs
  | _, _, .nil => .nil
  | _, _, .cons n t h => .cons ⟨t, rfl⟩ (vals_ints h)

/-- nothing is tracked but the script, known to the object (or it is an object of the module) -/
def Only (H : Hp) : Prop := ∀ b, H b = none ∨ ∃ o xs, H b = some (.frz o (.lst xs))

/-- THE HEAD: the law's promise, at the heap behind the top. F, the promise of the law's def, may use that base is part of the heap (so K.In base, base.Ns mainGlobals mg stand in Mod) -/
theorem law_call {P : Program} {w : World} {K : PySem.W.Frag} {mg mb : Str → Option Value} {CX : CXT} {k : Nat} {fa a : Addr} {fd : FuncData} {x : Str} {sp : Sp} {s₁ : Shared} {vs : List Value} {ns : List Int}
    (KX : K.In s₁.heap) (hns : s₁.heap.Ns mainGlobals mg) (hb : s₁.heap.Ns builtinsNs mb) (hbb : ∀ x : Str, x ≠ "__name__" → mb x = bootBuiltins x) (hlim : s₁.heap.NoLimit) (hg : s₁.gens = #[])
    (ha : s₁.heap.get? a = some { cls := .type "list", data := .seq vs.toArray }) (hi : IntsAre vs ns) (hl : ns.length ≤ sizeLine) (hr : Room k callerA)
    (F : ∀ base : Heap, K.In base → base.Ns mainGlobals mg → FnOk P w K mg base CX k fa fd [x] sp) (hbind : ∀ (s : Shared) (u : Value), BindsTo s fd ⟨[u], []⟩ [(x, u)])
    (hsp : ∀ H : Hp, Only H → SqL K H a (ns.map V.int) → sp [.ref a] H (fun v _ => v = .bl true) fun _ _ _ => False)
    (hCX : ∀ H e s', CX [] H s₁ (fun _ _ _ => False) e s' → False) :
    codeAny (model P w) callerA (.call (.ref fa) ⟨[.ref a], []⟩) (fun r s' => r = .ok (.ret (.bool true)) ∧ OldK s₁.heap s'.heap ∧ s'.os = s₁.os ∧ AllBare s'.gens) s₁ := by
  have rv := vals_ints hi
  have lenV := hi.length
  -- from an abstract heap in which nothing but the script may be tracked
  have core : ∀ H : Hp, Only H → SqL K H a (ns.map V.int) → HOk P w H s₁.heap → (∀ b, H b ≠ none → b = a) → (H a ≠ none → K.lookup a = none) →
      codeAny (model P w) callerA (.call (.ref fa) ⟨[.ref a], []⟩) (fun r s' => r = .ok (.ret (.bool true)) ∧ OldK s₁.heap s'.heap ∧ s'.os = s₁.os ∧ AllBare s'.gens) s₁ := by
    intro H hO hS hok hA hK
    have base_of : ∀ {b : Addr} {o : Obj}, s₁.heap.get? b = some o → H b = none → (hidT s₁.heap H).get? b = some o := fun e n => hidT_get e n
    have noA : ∀ {b : Addr} {o : Obj} {es : Array DictEntry} {ep : Nat}, s₁.heap.get? b = some o → o.data = .dict es ep → H b = none := fun {b o es ep} e d => by
      cases q : H b with
      | none => rfl
      | some u =>
        have e' : b = a := hA b (by rw [q]; simp)
        subst e'
        rw [ha] at e; cases e
        have d' : Data.seq vs.toArray _ = Data.dict es ep := d
        cases d'
    have nsK : ∀ {b : Addr} {m : Str → Option Value}, s₁.heap.Ns b m → (hidT s₁.heap H).Ns b m := fun {b m} ⟨o, es, ep, e, d, r⟩ => ⟨o, es, ep, base_of e (noA e d), d, r⟩
    have hKb : K.In (hidT s₁.heap H) := fun b o e => base_of (KX b o e) (by
      cases q : H b with
      | none => rfl
      | some u =>
        have e' : b = a := hA b (by rw [q]; simp)
        subst e'
        rw [hK (by rw [q]; simp)] at e; cases e)
    have hM : Mod K mg (hidT s₁.heap H) := ⟨hKb, nsK hns, ⟨mb, nsK hb, hbb⟩, let ⟨mc, h1, h2⟩ := hlim; ⟨mc, nsK h1, h2⟩⟩
    have e0 : Env0 P w K mg (hidT s₁.heap H) callerA [] s₁ H := ⟨rfl, hM, fun b o e => of_hidT e, Nat.le_of_eq (hidT_size _ _), trivial, fun b hb => absurd (show b ∈ ([] : List Addr) from hb) (by simp), hok, .of_eq hg⟩
    refine codeAny_mono ((F _ hKb (nsK hns)).run callerA [] s₁ H ⟨[.ref a], []⟩ [.ref a] [.ref a] _ _ hr e0 (hbind s₁ (.ref a)) (.cons rfl .nil) (hsp H hO hS)) fun r s' h => ?_
    cases r with
    | error e => exact (hCX H e s' h).elim
    | ok fl =>
      cases fl with
      | next => exact False.elim h
      | brk => exact False.elim h
      | cont => exact False.elim h
      | ret u =>
        obtain ⟨v, H', os, bare, un, hok', r', q⟩ := h
        have q' : v = .bl true := q
        subst q'
        obtain rfl : u = Value.bool true := r'
        refine ⟨rfl, OldK.of_keep fun b o e => ?_, os, bare⟩
        cases q : H b with
        | none => exact un.keep b o e q (by intro z; exact absurd (show b ∈ ([] : List Addr) from z) (by simp)) (by simp)
        | some u =>
          rcases hO b with z | ⟨ob, xs, z⟩
          · rw [q] at z; cases z
          · have z2 := un.frzs b ob _ z
            obtain ⟨e1, _⟩ := hok b _ z
            obtain ⟨e2, _⟩ := hok' b _ z2
            rw [e] at e1; cases e1
            exact e2
  cases hk : K.lookup a with
  | some o =>
    -- the script is one of the module's own objects
    have e := KX a o hk
    rw [ha] at e
    cases e
    refine core (fun _ => none) (fun _ => .inl rfl) (.inr ⟨_, vs.toArray, _, hk, rfl, rfl, rfl, by rw [List.size_toArray, lenV]; exact hl, by simpa using rv⟩) (fun b u z => by have z' : (none : Option HO) = some u := z; cases z') (fun b z => absurd rfl z) fun z => absurd rfl z
  | none =>
    refine core (fun b => if b = a then some (.frz { cls := .type "list", data := .seq vs.toArray } (.lst (ns.map V.int))) else none) (fun b => ?_) (.inl (.inr ⟨{ cls := .type "list", data := .seq vs.toArray }, if_pos rfl⟩)) (fun b u z => ?_) (fun b z => ?_) fun _ => hk
    · by_cases hb : b = a
      · exact .inr ⟨_, _, if_pos hb⟩
      · exact .inl (if_neg hb)
    · by_cases hb : b = a
      · have z' := (if_pos hb).symm.trans z
        cases z'
        subst hb
        exact ⟨ha, by rw [List.length_map]; exact hl, vs, _, rv, ha⟩
      · have z' := (if_neg hb).symm.trans z
        cases z'
    · by_cases hb : b = a
      · exact hb
      · exact absurd (if_neg hb) z
end L2

namespace L2
open PySem PySem.Spec PyProof.Rows

/-- the goal that k_head leaves (case hc), from the law's promise. F gives the function object fd (K's own) once, then the promise over every base -/
theorem walk_of {l : PySem.W.OpenLaw} {n k : Nat} {q : Program} {loose : List Str} {XP : (Str → Option Value) → Heap → Prop} {YP : World → Heap → Prop} {d : DefRec} {K : Params → PySem.W.Frag} {CX : World → CXT} {sp : World → Sp} {x : Str}
    (hn : l.most = some n) (hn2 : n ≤ sizeLine) (hdf : d.params.defaults = []) (hr : Room k callerA)
    (hY : ∀ (w : World) (h : Heap), YP w h → (K w.params).In h)
    (F : ∀ (w : World) (mg : Str → Option Value) (fa : Addr) (h : Heap), (K w.params).In h → h.Ns mainGlobals mg → mg d.name = some (.ref fa) →
      ∃ fd : FuncData, (∀ (s : Shared) (u : Value), BindsTo s fd ⟨[u], []⟩ [(x, u)]) ∧
        ∀ base : Heap, (K w.params).In base → base.Ns mainGlobals mg → FnOk l.prog w (K w.params) mg base (CX w) k fa fd [x] (sp w))
    (hsp : ∀ (w : World) (H : Hp) (a : Addr) (ns : List Int), ns.length ≤ n → Only H → SqL (K w.params) H a (ns.map V.int) → sp w [.ref a] H (fun v _ => v = .bl true) fun _ _ _ => False)
    (hCX : ∀ (w : World) (H : Hp) (s : Shared) (e : Value) (s' : Shared), CX w [] H s (fun _ _ _ => False) e s' → False) :
    PySem.W.WalkO q loose XP YP l.row.toRowW d [] (fun f vs => PySem.call f vs) := by
  refine Att.attach_call hn hdf fun w s₀ s₁ mg mb fa o pm cd doc a vs ns G Y ho hd hcd hmg hobj hints hlen hg => ?_
  have KX := hY w _ Y
  obtain ⟨fd, hb, hF⟩ := F w mg fa _ KX G.T.g hmg
  exact law_call KX G.T.g G.T.b G.T.builtins G.T.nolimit hg hobj hints (Nat.le_trans hlen hn2) hr hF hb (fun H hO hS => hsp w H a ns hlen hO hS) fun H e s' => hCX w H s₁ e s'
end L2



/-! SHORT WORDS over the layer: a def of the text, its body, what a loop and a test want. -/
namespace L2
open PySem PySem.Spec PyProof.Rows

/-! ### the text by places -/

/-! ### no exception leaves a def -/
abbrev CX0 : CXT := fun _ _ _ _ _ _ => False
abbrev E0 : XK := fun _ _ _ => False
/-! ### a def (or method) of the text as it stands behind the top -/
structure Fun (K : PySem.W.Frag) (x qual : Str) (st : Stmt) (f : Addr) (fd : FuncData) : Prop where
  ex : ∃ (oc : Value) (od : Option Addr) (kV doc pm : Value) (an : Option Addr) (cdv ct : Value) (osl : Array (Option Value)),
    fd = PySem.W.fnOf x qual (defArgs st) (defBody st) (defScope st) .none kV doc pm an cdv ct ∧ K.lookup f = some ⟨oc, od, .func fd, osl⟩ ∧ PySem.W.codeIn K cdv qual = true
  kp : PySem.W.keepIn K (.ref f) = true
section
variable {P : Program} {w : World} {K : PySem.W.Frag} {mg : Str → Option Value} {base : Heap}
/-- THE RULE for a def: its body as a term of rules, and the reading of that term -/
theorem Fun.ok {x qual : Str} {st : Stmt} {f : Addr} {fd : FuncData} {N ps : List Str} {k : Nat} {sp : Sp} (F : Fun K x qual st f fd) (S : FnScope N ps (defScope st)) (len : ∀ vs H Q E, sp vs H Q E → vs.length = ps.length)
    (hbody : ∀ (cdv : Value) (A : Around) (outer : List Env) (s : Shared) (H : Hp) (vs : List V) (Q : VK) (E : XK), Room k (A.deeper (envOfC qual (defScope st) s.heap.objs.size f cdv)) → sp vs H Q E →
      ∃ t, PSs (cxOf CX0 P w K mg base N qual (defScope st) f cdv A outer s H E).nox (defBody st) t ∧ t { nx := fun _ H' => Q .non H', rt := Q } (start N vs) H) : FnOk P w K mg base CX0 (k + 1) f fd ps sp := by
  obtain ⟨oc, od, kV, doc, pm, an, cdv, ct, osl, rfl, lk, hcd⟩ := F.ex
  refine fn_of lk hcd S len fun A outer s H vs Q E hr hsp => ?_
  obtain ⟨t, h, q⟩ := hbody cdv A outer s H vs Q E hr hsp
  exact ⟨t, h.nox, q⟩
/-- how its arguments bind (no defaults): h is «fun _ _ _ _ _ _ us hl => match us, hl with | [_, _], _ => rfl», one _ a parameter -/
theorem Fun.binds {x qual : Str} {st : Stmt} {f : Addr} {fd : FuncData} {ps : List Str} (F : Fun K x qual st f fd)
    (h : ∀ (kV doc pm : Value) (an : Option Addr) (cdv ct : Value) (us : List Value), us.length = ps.length → bindArgs (PySem.W.fnOf x qual (defArgs st) (defBody st) (defScope st) .none kV doc pm an cdv ct) ⟨us, []⟩ = pure (ps.zip us)) : Binds K fd ps [] := by
  obtain ⟨oc, od, kV, doc, pm, an, cdv, ct, osl, rfl, lk, hcd⟩ := F.ex
  exact .all (h kV doc pm an cdv ct)
theorem fun_mk {x qual : Str} {st : Stmt} {f : Addr} {oc : Value} {od an : Option Addr} {osl : Array (Option Value)} {kV doc pm cdv ct : Value} (l : K.lookup f = some ⟨oc, od, .func (PySem.W.fnOf x qual (defArgs st) (defBody st) (defScope st) .none kV doc pm an cdv ct), osl⟩)
    (c : PySem.W.codeIn K cdv qual = true) (k : PySem.W.keepIn K (.ref f) = true) : Fun K x qual st f (PySem.W.fnOf x qual (defArgs st) (defBody st) (defScope st) .none kV doc pm an cdv ct) := ⟨⟨oc, od, kV, doc, pm, an, cdv, ct, osl, rfl, l, c⟩, k⟩
end
theorem small1000 {n : Nat} (h : n ≤ 1000) : n < sizeLine := Nat.lt_of_le_of_lt h (by decide)

/-! ### expressions in short: the name that stands in the i-th slot -/
section
variable {X : Cx}
theorem pv (i : Nat) {x : Str} {pos : Pos} (hN : X.N[i]? = some x := by rfl) (hv : Vis X.env.scope x := by first | exact Or.inl rfl | exact Or.inr (Or.inl rfl) | exact Or.inr (Or.inr rfl)) (hd : (x == ("__debug__" : Str)) = false := by decide)
    (hcd : (x == ("__classdict__" : Str)) = false := by decide) : PE X (.Name x pos) (tVar i) := pe_var hN hv hd hcd
end

/-! ### tests -/
theorem iteF {A B : Prop} (h : B) : if false = true then A else B := by
  rw [if_neg Bool.false_ne_true]
  exact h
theorem iteT {A B : Prop} (h : A) : if true = true then A else B := by
  rw [if_pos rfl]
  exact h
/-! ### heaps -/
/-- all that was tracked is as it was -/
def Same (H H' : Hp) : Prop := ∀ b o, H b = some o → H' b = some o
theorem Same.refl (H : Hp) : Same H H := fun _ _ h => h
theorem Same.trans {H H1 H2 : Hp} (a : Same H H1) (b : Same H1 H2) : Same H H2 := fun c o h => b c o (a c o h)
theorem Same.free {H H' : Hp} (e : Same H H') {l : Addr} (h : H' l = Option.none) : H l = Option.none := by
  cases q : H l with
  | none => rfl
  | some o =>
    rw [e l o q] at h
    cases h
theorem Same.seq {K : PySem.W.Frag} {H H' : Hp} {a : Addr} {xs : List V} (e : Same H H') (h : SqL K H a xs) : SqL K H' a xs := by
  rcases h with (h | ⟨o, h⟩) | h
  · exact .inl (.inl (e _ _ h))
  · exact .inl (.inr ⟨o, e _ _ h⟩)
  · exact .inr h

end L2

set_option Elab.async false
set_option linter.all false
set_option maxRecDepth 100000
set_option maxHeartbeats 4000000
namespace Stow
/-- a piece: its first cell, its cells, live -/
structure Pc where
  a : Int
  l : Int
  v : Bool
  deriving DecidableEq
def mkOf (l : Int) (v : Bool) : Int := l * 2 + (if v then 1 else 0)
def Pc.mk' (p : Pc) : Int := mkOf p.l p.v
/-- pieces end to end from s to e -/
def Chain : Int → List Pc → Int → Prop
  | s, [], e => s = e
  | s, p :: r, e => p.a = s ∧ 1 ≤ p.l ∧ (p.v = true → 3 ≤ p.l) ∧ Chain (s + p.l) r e
theorem Chain.le : ∀ {ps : List Pc} {s e : Int}, Chain s ps e → s + ps.length ≤ e
  | [], s, e, h => by have h : s = e := h; simp [h]
  | p :: r, s, e, h => by
    obtain ⟨_, h1, _, h2⟩ := h
    have := Chain.le h2
    simp only [List.length_cons]; omega
theorem Chain.app : ∀ {ps qs : List Pc} {s m e : Int}, Chain s ps m → Chain m qs e → Chain s (ps ++ qs) e
  | [], _, s, m, e, h, k => by have h : s = m := h; subst h; exact k
  | p :: r, qs, s, m, e, h, k => by
    obtain ⟨h0, h1, h2, h3⟩ := h
    exact ⟨h0, h1, h2, Chain.app h3 k⟩
theorem Chain.one {p : Pc} (h1 : 1 ≤ p.l) (h3 : p.v = true → 3 ≤ p.l) : Chain p.a [p] (p.a + p.l) := ⟨rfl, h1, h3, rfl⟩
theorem Chain.snoc {ps : List Pc} {s : Int} {p : Pc} (h : Chain s ps p.a) (h1 : 1 ≤ p.l) (h3 : p.v = true → 3 ≤ p.l) : Chain s (ps ++ [p]) (p.a + p.l) := h.app (.one h1 h3)
theorem Chain.mem : ∀ {ps : List Pc} {s e : Int}, Chain s ps e → ∀ p ∈ ps, s ≤ p.a ∧ 1 ≤ p.l ∧ (p.v = true → 3 ≤ p.l) ∧ p.a + p.l ≤ e
  | [], _, _, _, p, hp => by cases hp
  | q :: r, s, e, h, p, hp => by
    obtain ⟨h0, h1, h2, h3⟩ := h
    rcases List.mem_cons.mp hp with rfl | hp
    · have := h3.le
      exact ⟨by omega, h1, h2, by omega⟩
    · obtain ⟨a, b, c, d⟩ := Chain.mem h3 p hp
      exact ⟨by omega, b, c, d⟩
/-- the marks of the pieces stand in the cells -/
def Marks (cs : List Int) (ps : List Pc) : Prop := ∀ p ∈ ps, cs[p.a.toNat]? = some p.mk' ∧ cs[(p.a + p.l - 1).toNat]? = some p.mk'
theorem Marks.nil (cs : List Int) : Marks cs [] := fun p hp => by cases hp
/-- the cells of one more piece -/
theorem Marks.snoc {cs ext : List Int} {ps : List Pc} {p : Pc} (hc : Chain 0 ps p.a) (hl : (cs.length : Int) = p.a) (h1 : 1 ≤ p.l) (he : (ext.length : Int) = p.l) (m : Marks cs ps) :
    Marks ((((cs ++ ext).set p.a.toNat p.mk')).set (p.a + p.l - 1).toNat p.mk') (ps ++ [p]) := by
  intro q hq
  have h0 := hc.le
  rcases List.mem_append.mp hq with hq | hq
  · obtain ⟨a1, a2, a3, a4⟩ := hc.mem q hq
    obtain ⟨b1, b2⟩ := m q hq
    have key : ∀ k : Nat, (k : Int) < p.a → ∀ z, cs[k]? = some z → ((((cs ++ ext).set p.a.toNat p.mk')).set (p.a + p.l - 1).toNat p.mk')[k]? = some z := by
      intro k hk z hz
      rw [List.getElem?_set_ne (by omega), List.getElem?_set_ne (by omega), List.getElem?_append_left (by omega)]
      exact hz
    exact ⟨key _ (by omega) _ b1, key _ (by omega) _ b2⟩
  · have e : q = p := by simpa using hq
    subst e
    have len : (cs ++ ext).length = cs.length + ext.length := List.length_append
    constructor
    · by_cases h : (q.a + q.l - 1).toNat = q.a.toNat
      · rw [h, List.getElem?_set_self (by simp; omega)]
      · rw [List.getElem?_set_ne (by omega), List.getElem?_set_self (by simp; omega)]
    · rw [List.getElem?_set_self (by simp; omega)]
theorem mk_long (l : Int) (v : Bool) : mkOf l v / 2 = l := by unfold mkOf; split <;> omega
theorem mk_live (l : Int) (v : Bool) : decide (mkOf l v % 2 = 1) = v := by
  unfold mkOf
  cases v
  · exact decide_eq_false (by simp)
  · exact decide_eq_true (by simp)
/-- the program's own look at a piece that may begin at a cell -/
def canBegin (ns : List Int) (k : Int) : Bool :=
  if ns.getD k.toNat 0 / 2 < 1 ∨ (ns.length : Int) < k + ns.getD k.toNat 0 / 2 then false else decide (3 ≤ ns.getD k.toNat 0 / 2) || !decide (ns.getD k.toNat 0 % 2 = 1)
def badOf (ns : List Int) (k : Int) : Option Int :=
  if canBegin ns k = true then (if ns.getD (k + ns.getD k.toNat 0 / 2 - 1).toNat 0 = ns.getD k.toNat 0 then none else some (k + ns.getD k.toNat 0 / 2 - 1)) else some k
theorem getD_of {ns : List Int} {k : Nat} {x : Int} (h : ns[k]? = some x) : ns.getD k 0 = x := by rw [List.getD_eq_getElem?_getD, h]; rfl
theorem bad_none {ns : List Int} {p : Pc} (h1 : 1 ≤ p.l) (h3 : p.v = true → 3 ≤ p.l) (hl : p.a + p.l ≤ ns.length) (m1 : ns[p.a.toNat]? = some p.mk') (m2 : ns[(p.a + p.l - 1).toNat]? = some p.mk') : badOf ns p.a = none := by
  have e1 := getD_of m1
  have e2 := getD_of m2
  have e3 : ns.getD p.a.toNat 0 / 2 = p.l := by rw [e1]; exact mk_long _ _
  have hc : canBegin ns p.a = true := by
    unfold canBegin
    rw [e3, if_neg (by omega), e1]
    show (decide (3 ≤ p.l) || !decide (mkOf p.l p.v % 2 = 1)) = true
    rw [mk_live]
    cases hv : p.v with
    | false => simp
    | true => simp [h3 hv]
  unfold badOf
  rw [if_pos hc, e3, e2, e1, if_pos rfl]
end Stow

namespace Stow
theorem canBegin_iff (ns : List Int) (k : Int) : canBegin ns k = true ↔ (1 ≤ ns.getD k.toNat 0 / 2 ∧ k + ns.getD k.toNat 0 / 2 ≤ ns.length ∧ (ns.getD k.toNat 0 % 2 = 1 → 3 ≤ ns.getD k.toNat 0 / 2)) := by
  unfold canBegin
  by_cases h : ns.getD k.toNat 0 / 2 < 1 ∨ (ns.length : Int) < k + ns.getD k.toNat 0 / 2
  · rw [if_pos h]
    constructor
    · intro z; cases z
    · intro z; omega
  · rw [if_neg h]
    simp only [Bool.or_eq_true, decide_eq_true_eq, Bool.not_eq_true', decide_eq_false_iff_not]
    constructor
    · intro z
      refine ⟨by omega, by omega, fun w => ?_⟩
      rcases z with z | z
      · exact z
      · exact absurd w z
    · rintro ⟨_, _, z⟩
      by_cases w : ns.getD k.toNat 0 % 2 = 1
      · exact .inl (z w)
      · exact .inr w
/-- the piece that begins at k -/
def pcAt (ns : List Int) (k : Int) : Pc := ⟨k, ns.getD k.toNat 0 / 2, decide (ns.getD k.toNat 0 % 2 = 1)⟩
theorem bad_can {ns : List Int} {k : Int} (h : badOf ns k = none) : canBegin ns k = true := by
  unfold badOf at h
  split at h
  · assumption
  · cases h
theorem bad_pos {ns : List Int} {k : Int} (h : badOf ns k = none) : 1 ≤ ns.getD k.toNat 0 / 2 ∧ k + ns.getD k.toNat 0 / 2 ≤ ns.length ∧ (ns.getD k.toNat 0 % 2 = 1 → 3 ≤ ns.getD k.toNat 0 / 2) := (canBegin_iff ns k).mp (bad_can h)
theorem bad_no {ns : List Int} {k : Int} (h : canBegin ns k = false) : badOf ns k = some k := by
  unfold badOf
  rw [if_neg (by rw [h]; exact Bool.false_ne_true)]
theorem bad_last {ns : List Int} {k : Int} (h : canBegin ns k = true) (h2 : ns.getD (k + ns.getD k.toNat 0 / 2 - 1).toNat 0 ≠ ns.getD k.toNat 0) : badOf ns k = some (k + ns.getD k.toNat 0 / 2 - 1) := by
  unfold badOf
  rw [if_pos h, if_neg h2]
theorem bad_well {ns : List Int} {k : Int} (h : canBegin ns k = true) (h2 : ns.getD (k + ns.getD k.toNat 0 / 2 - 1).toNat 0 = ns.getD k.toNat 0) : badOf ns k = none := by
  unfold badOf
  rw [if_pos h, if_pos h2]
/-- the walk from cell k: the pieces, the first cell that cannot be -/
def walkF (ns : List Int) (k : Int) : List Pc × Option Int :=
  if h : k < ns.length ∧ badOf ns k = none then
    (pcAt ns k :: (walkF ns (k + ns.getD k.toNat 0 / 2)).1, (walkF ns (k + ns.getD k.toNat 0 / 2)).2)
  else ([], if k < ns.length then badOf ns k else none)
termination_by (ns.length - k).toNat
decreasing_by
  all_goals
    have := bad_pos h.2
    omega
theorem walkF_end {ns : List Int} {k : Int} (h : ¬ k < ns.length) : walkF ns k = ([], none) := by
  rw [walkF, dif_neg (fun z => h z.1), if_neg h]
theorem walkF_bad {ns : List Int} {k b : Int} (h : k < ns.length) (hb : badOf ns k = some b) : walkF ns k = ([], some b) := by
  rw [walkF, dif_neg (fun z => by rw [hb] at z; cases z.2), if_pos h, hb]
theorem walkF_step {ns : List Int} {k : Int} (h : k < ns.length) (hb : badOf ns k = none) : walkF ns k = (pcAt ns k :: (walkF ns (k + ns.getD k.toNat 0 / 2)).1, (walkF ns (k + ns.getD k.toNat 0 / 2)).2) := by
  rw [walkF, dif_pos ⟨h, hb⟩]
/-- the walk has come to k, the pieces ds lie behind it -/
def WPre (ns : List Int) (ds : List Pc) (k : Int) : Prop := walkF ns 0 = (ds ++ (walkF ns k).1, (walkF ns k).2)
theorem WPre.nil (ns : List Int) : WPre ns [] 0 := by unfold WPre; simp
theorem WPre.step {ns : List Int} {ds : List Pc} {k : Int} (w : WPre ns ds k) (h : k < ns.length) (hb : badOf ns k = none) : WPre ns (ds ++ [pcAt ns k]) (k + ns.getD k.toNat 0 / 2) := by
  unfold WPre at *
  rw [w, walkF_step h hb]
  simp
theorem WPre.fin {ns : List Int} {ds : List Pc} {k : Int} (w : WPre ns ds k) (h : ¬ k < ns.length) : walkF ns 0 = (ds, none) := by
  unfold WPre at w
  rw [w, walkF_end h]
  simp
theorem WPre.bad {ns : List Int} {ds : List Pc} {k b : Int} (w : WPre ns ds k) (h : k < ns.length) (hb : badOf ns k = some b) : walkF ns 0 = (ds, some b) := by
  unfold WPre at w
  rw [w, walkF_bad h hb]
  simp
end Stow
namespace Stow
end Stow
namespace Stow
theorem pcAt_of {cs : List Int} {p : Pc} (m : cs[p.a.toNat]? = some p.mk') : pcAt cs p.a = p := by
  have e := getD_of m
  unfold pcAt
  rw [e]
  show (⟨p.a, mkOf p.l p.v / 2, decide (mkOf p.l p.v % 2 = 1)⟩ : Pc) = p
  rw [mk_long, mk_live]
theorem walk_of_marks {cs : List Int} : ∀ {ps : List Pc} {k : Int}, Chain k ps cs.length → Marks cs ps → walkF cs k = (ps, none)
  | [], k, h, _ => by
    have h : k = cs.length := h
    exact walkF_end (by omega)
  | p :: r, k, h, m => by
    obtain ⟨ea, h1, h3, h4⟩ := h
    have le := h4.le
    obtain ⟨m1, m2⟩ := m p List.mem_cons_self
    have bn := bad_none h1 h3 (by omega) m1 m2
    rw [ea] at bn
    have e2 : cs.getD k.toNat 0 / 2 = p.l := by rw [← ea, getD_of m1]; exact mk_long _ _
    have ih := walk_of_marks (cs := cs) h4 fun q hq => m q (List.mem_cons_of_mem _ hq)
    rw [walkF_step (by omega) bn, e2, ih, ← ea, pcAt_of m1]
end Stow

namespace Stow
open PySem L2 PyProof.Rows

/-! ### defs of the text, by their names -/
structure Def (P : Program) (w : World) (K : PySem.W.Frag) (mg : Str → Option Value) (base : Heap) (x : Str) (k : Nat) (ps : List Str) (sp : Sp) : Prop where
  ex : ∃ (f : Addr) (fd : FuncData), FnOk P w K mg base CX0 k f fd ps sp ∧ mg x = some (.ref f) ∧ PySem.W.keepIn K (.ref f) = true ∧ Binds K fd ps []
structure Src (K : PySem.W.Frag) (mg : Str → Option Value) (x : Str) (st : Stmt) : Prop where
  ex : ∃ (f : Addr) (fd : FuncData), Fun K x x st f fd ∧ mg x = some (.ref f)
theorem src_mk {K : PySem.W.Frag} {h : Heap} {mg : Str → Option Value} {x : Str} {st : Stmt} {f : Addr} {oc kV doc pm cdv ct : Value} {od an : Option Addr} {osl : Array (Option Value)} (X : K.In h) (G : h.Ns mainGlobals mg)
    (a : PySem.W.nsIn K mainGlobals x = some (some (.ref f))) (l : K.lookup f = some ⟨oc, od, .func (PySem.W.fnOf x x (defArgs st) (defBody st) (defScope st) .none kV doc pm an cdv ct), osl⟩)
    (c : PySem.W.codeIn K cdv x = true) (k : PySem.W.keepIn K (.ref f) = true) : Src K mg x st := ⟨f, _, fun_mk l c k, PySem.W.mg_of X G a⟩
section
variable {P : Program} {w : World} {K : PySem.W.Frag} {mg : Str → Option Value} {base : Heap}
theorem Src.ok {x : Str} {st : Stmt} {N ps : List Str} {k : Nat} {sp : Sp} (S : Src K mg x st) (sc : FnScope N ps (defScope st))
    (hb : ∀ (kV doc pm : Value) (an : Option Addr) (cdv ct : Value) (us : List Value), us.length = ps.length → bindArgs (PySem.W.fnOf x x (defArgs st) (defBody st) (defScope st) .none kV doc pm an cdv ct) ⟨us, []⟩ = pure (ps.zip us))
    (len : ∀ vs H Q E, sp vs H Q E → vs.length = ps.length)
    (hbody : ∀ (f : Addr) (cdv : Value) (A : Around) (outer : List Env) (s : Shared) (H : Hp) (vs : List V) (Q : VK) (E : XK), Room k (A.deeper (envOfC x (defScope st) s.heap.objs.size f cdv)) → sp vs H Q E →
      ∃ t, PSs (cxOf CX0 P w K mg base N x (defScope st) f cdv A outer s H E).nox (defBody st) t ∧ t { nx := fun _ H' => Q .non H', rt := Q } (start N vs) H) : Def P w K mg base x (k + 1) ps sp := by
  obtain ⟨f, fd, F, hm⟩ := S.ex
  exact ⟨f, fd, F.ok sc len (hbody f), hm, F.kp, F.binds hb⟩
end
section
variable {X : Cx}
theorem call_isi : CallR X (.builtin "isinstance") (fun xs H Q => ∃ x n t b, xs = [x, .ty n] ∧ TyOf X.K H x t ∧ PySem.W.kitOne X.K t (.type n) = some b ∧ Q (.bl b) H) := by
  intro pins s σ H xs us Q I r h
  obtain ⟨x, n, t, b, rfl, ty, e, q⟩ := h
  obtain ⟨u, u', rfl, rx, ry⟩ := vals2 r
  cases (show u' = Value.type n from ry)
  exact isinst_ok I rx ty e fun tk => ⟨.bl b, H, I.tok tk, rfl, q⟩
theorem eqV_self {x : V} (h : flatV x = true) : eqV x x = true := by
  cases x <;> first | rfl | (simp [eqV]; done) | (exact absurd h Bool.false_ne_true)
end

/-! ### heaps -/
theorem _root_.L2.Same.new {H : Hp} {p : Addr} {o : HO} (h : H p = none) : Same H (upd H p o) := fun b u e => by
  rw [upd_ne (ne_of_none e h)]
  exact e
theorem _root_.L2.Same.put {H H' : Hp} {p : Addr} {o : HO} (s : Same H H') (h : H p = none) : Same H (upd H' p o) := fun b u e => by
  rw [upd_ne (ne_of_none e h)]
  exact s b u e
theorem small4000 {n : Nat} (h : n ≤ 4000) : n < sizeLine := Nat.lt_of_le_of_lt h (by decide)
theorem two1 : (2 : Int) ^ (1 : Int).toNat = 2 := by decide
theorem atI_map (ns : List Int) (k : Int) (h0 : 0 ≤ k) (h : k < ns.length) : atI (ns.map V.int) k = some (.int (ns.getD k.toNat 0)) := by
  have e : (ns.map V.int)[k.toNat]? = some (.int (ns.getD k.toNat 0)) := by
    rw [List.getElem?_map, List.getD_eq_getElem?_getD, List.getElem?_eq_getElem (by omega)]
    rfl
  have := atI_nat e
  rwa [Int.toNat_of_nonneg h0] at this
theorem live_eq (n : Int) : decide (V.int (Builtin.bitAnd n 1) = V.int 1) = decide (n % 2 = 1) := by
  rw [dec_int, bitAnd_m1]
  rfl

/-! ### isinstance of the built-in kinds -/
section
variable {K : PySem.W.Frag}
theorem kit_ii : PySem.W.kitOne K (.type "int") (.type "int") = some true := by rfl
theorem kit_bb : PySem.W.kitOne K (.type "bool") (.type "bool") = some true := by rfl
theorem kit_ll : PySem.W.kitOne K (.type "list") (.type "list") = some true := by rfl
theorem kit_tt : PySem.W.kitOne K (.type "tuple") (.type "tuple") = some true := by rfl
theorem kit_ib : PySem.W.kitOne K (.type "int") (.type "bool") = some false := by
  show (if (Value.type "int" == Value.type "bool") = true then some true else PySem.W.kitCls K (.type "int") (.type "bool")) = some false
  rw [if_neg (by decide)]
  show (if PySem.W.kitMeta "bool" = true then PySem.W.subIn K (.type "int") (.type "bool") else none) = some false
  rw [if_pos (by decide +kernel)]
  show (fastBuiltinMro "int").map (·.contains (Value.type "bool")) = some false
  decide +kernel
end
end Stow

namespace Stow
open PySem
/-- what a look of a frame at an exception leaves: e has a new entry T, the frames' slots may have changed, all else stays -/
structure Noted (fr : List Addr) (e : Addr) (oe : Obj) (fl : Value) (h h' : Heap) : Prop where
  keep : ∀ b o, b ≠ e → b ∉ fr → h.get? b = some o → h'.get? b = some o
  slot : ∀ b o, b ≠ e → h.get? b = some o → ∃ sl, h'.get? b = some { o with slots := sl }
  ent : ∃ (T : Addr) (oT : Obj) (ts : Array Value), h.get? T = none ∧ T ≠ e ∧ h'.get? e = some (oe.mapFields (·.setIfInBounds 1 (.ref T))) ∧ h'.get? T = some oT ∧ oT.data = .fields ts ∧ ts[3]? = some fl
section
variable {M : Model} {A : Around} {E : Value → Shared → Prop} {s : Shared}
theorem entry_x {base : Heap} {env : Env} {outer : List Env} {L e : Addr} {oe : Obj} {vs : Array Value} {head : Value} {had : Bool} {Q : Unit → Shared → Prop} (hfr : A.frames = some (env :: outer)) (hl : s.heap.FunFrames base (env :: outer)) (hf : env.frame = some L)
    (he : s.heap.get? e = some oe) (hd : oe.data = .fields vs) (hsz : 1 < vs.size) (h : ∀ h', Noted ((env :: outer).filterMap (·.frame)) e oe (rawInt L) s.heap h' → Q () { s with heap := h' }) :
    wpAny M A (do
      let a ← frameOf env
      let pl ← entryPlaceOf L had
      let b ← EntryCells.newEntry head a .none (rawInt L) .none pl
      setField (.ref e) 1 b) Q E s := by
  have out : e ∉ (env :: outer).filterMap (·.frame) := fun z => by
    obtain ⟨_, o, q, nf⟩ := hl.mem z
    rw [he] at q
    cases q
    exact nf vs hd
  refine wpAny_bind (wpAny_frameOf_fun hfr hl hf fun hA sA => ?_)
  refine wpAny_bind (wpAny_entryPlaceOf fun pl isP => ?_)
  unfold EntryCells.newEntry newFields
  refine wpAny_bind (wpAny_newObj_type ?_ (isP.sizeOk5 _ _ _ _ _))
  have eA : hA.get? e = some oe := (sA.2.1 e out).trans he
  refine wpAny_setField (Heap.get?_push_of_some _ eA) hd hsz (h _ ?_)
  have apart : hA.objs.size ≠ e := Nat.ne_of_gt (Heap.lt_size eA)
  have other : ∀ {ob : Obj} b o, b ≠ e → hA.get? b = some o → ((hA.push ob).update e (Obj.mapFields (·.setIfInBounds 1 (Value.ref hA.objs.size)))).get? b = some o := fun b o nb q => by
    rw [Heap.get?_update_other _ _ (fun z => nb z.symm)]
    exact Heap.get?_push_of_some _ q
  refine ⟨fun b o nb nf q => other b o nb ((sA.2.1 b nf).trans q), fun b o nb q => ?_, hA.objs.size, _, _, ?_, apart, ?_, (Heap.get?_update_other _ _ (fun z => apart z.symm)).trans (Heap.get?_push_size _ rfl), rfl, ?_⟩
  · obtain ⟨sl, q'⟩ := sA.2.2 b o q
    exact ⟨sl, other b _ nb q'⟩
  · rw [sA.1]
    exact Heap.get?_none_of_le (Nat.le_refl _)
  · exact Heap.get?_update_self _ (Heap.get?_push_of_some _ eA) (Obj.isFreed_of_fields (Obj.data_mapFields hd _))
  · first
      | (simp; done)
      | (rcases isP with rfl | ⟨_, _, _, _, _, _, _, rfl⟩ <;> simp)
theorem mapF_dict (o : Obj) (f : Array Value → Array Value) : (o.mapFields f).dict = o.dict := by
  obtain ⟨c, d, dt, sl⟩ := o
  cases dt <;> rfl
end
/-- an exception at x of the class cls: its entry T, the entry's flight -/
def Exc (h : Heap) (x : Addr) (cls : Value) (od : Option Addr) (T : Addr) (fl : Value) : Prop :=
  ∃ (oe : Obj) (vs : Array Value) (oT : Obj) (ts : Array Value), T ≠ x ∧ h.get? x = some oe ∧ oe.cls = cls ∧ oe.dict = od ∧ oe.data = .fields vs ∧ vs[1]? = some (.ref T) ∧ h.get? T = some oT ∧ oT.data = .fields ts ∧ ts[3]? = some fl
/-- an exception that has no entry yet -/
def Exc0 (h : Heap) (x : Addr) (cls : Value) (od : Option Addr) : Prop := ∃ (oe : Obj) (vs : Array Value), h.get? x = some oe ∧ oe.cls = cls ∧ oe.dict = od ∧ oe.data = .fields vs ∧ vs[1]? = some .none
/-- from h to h': of the frames at fr the slots may have changed, the objects at ex may have changed, all else stays -/
structure Upto (fr ex : List Addr) (h h' : Heap) : Prop where
  keep : ∀ b o, b ∉ ex → b ∉ fr → h.get? b = some o → h'.get? b = some o
  slot : ∀ b o, b ∉ ex → h.get? b = some o → ∃ sl, h'.get? b = some { o with slots := sl }
theorem Upto.trans {fr ex ex' : List Addr} {h1 h2 h3 : Heap} (a : Upto fr ex h1 h2) (b : Upto fr ex' h2 h3) : Upto fr (ex ++ ex') h1 h3 :=
  ⟨fun c o n1 n2 q => b.keep c o (fun z => n1 (List.mem_append_right _ z)) n2 (a.keep c o (fun z => n1 (List.mem_append_left _ z)) n2 q), fun c o n1 q => by
    obtain ⟨sl, q1⟩ := a.slot c o (fun z => n1 (List.mem_append_left _ z)) q
    obtain ⟨sl', q2⟩ := b.slot c _ (fun z => n1 (List.mem_append_right _ z)) q1
    exact ⟨sl', q2⟩⟩
theorem Upto.update {fr : List Addr} {h : Heap} {a : Addr} {f : Obj → Obj} : Upto fr [a] h (h.update a f) :=
  ⟨fun b o n _ q => by rw [Heap.get?_update_other _ _ (fun z => n (by simp [z]))]; exact q, fun b o n q => ⟨o.slots, by rw [Heap.get?_update_other _ _ (fun z => n (by simp [z]))]; exact q⟩⟩
section
variable {M : Model} {A : Around} {E : Value → Shared → Prop} {s : Shared}
/-- setFlight of an exception with an entry -/
theorem flight_x {fr : List Addr} {x : Addr} {cls : Value} {od : Option Addr} {T : Addr} {fl : Value} {Q : Unit → Shared → Prop} (ht : Exc s.heap x cls od T fl)
    (h : ∀ h', Upto fr [T] s.heap h' → Exc h' x cls od T .none → Q () { s with heap := h' }) : wpAny M A (setFlight (.ref x) none) Q E s := by
  obtain ⟨oe, vs, oT, ts, ne, ex, hc, hdi, hd, h1, eT, dT, h3⟩ := ht
  unfold setFlight
  refine wpAny_bind (wpAny_field ex hd h1 ?_)
  rw [if_pos (show (Value.ref T != Value.none) = true by simp)]
  have sz : 3 < ts.size := (Array.getElem?_eq_some_iff.mp h3).1
  refine wpAny_setField eT dT sz (h _ .update ⟨oe, vs, _, _, ne, ?_, hc, hdi, hd, h1, Heap.get?_update_self _ eT (Obj.isFreed_of_fields (Obj.data_mapFields dT _)), Obj.data_mapFields dT _, ?_⟩)
  · rw [Heap.get?_update_other _ _ ne]
    exact ex
  · simp [sz]
theorem Noted.exc {fr : List Addr} {x : Addr} {oe : Obj} {vs : Array Value} {fl : Value} {h h' : Heap} (n : Noted fr x oe fl h h') (hd : oe.data = .fields vs) (hsz : 1 < vs.size) : ∃ T, h.get? T = none ∧ Exc h' x oe.cls oe.dict T fl := by
  obtain ⟨T, oT, ts, nT, ne, ex, eT, dT, h3⟩ := n.ent
  exact ⟨T, nT, _, _, oT, ts, ne, ex, Obj.cls_mapFields _ _, mapF_dict _ _, Obj.data_mapFields hd _, by simp [hsz], eT, dT, h3⟩
theorem Noted.upto {fr : List Addr} {x : Addr} {oe : Obj} {fl : Value} {h h' : Heap} (n : Noted fr x oe fl h h') : Upto fr [x] h h' :=
  ⟨fun b o nb nf q => n.keep b o (fun z => nb (by simp [z])) nf q, fun b o nb q => n.slot b o (fun z => nb (by simp [z])) q⟩
/-- a frame looks at an exception that has no entry yet -/
theorem look0 {base : Heap} {env : Env} {outer : List Env} {L x : Addr} {cls : Value} {od : Option Addr} {Q : Unit → Shared → Prop} (hfr : A.frames = some (env :: outer)) (hl : s.heap.FunFrames base (env :: outer)) (hf : env.frame = some L) (hx : Exc0 s.heap x cls od)
    (h : ∀ h' T, s.heap.get? T = none → Upto ((env :: outer).filterMap (·.frame)) [x] s.heap h' → Exc h' x cls od T (rawInt L) → Q () { s with heap := h' }) : wpAny M A (noteFrame (.ref x) env) Q E s := by
  obtain ⟨oe, vs, ex, rfl, rfl, hd, h1⟩ := hx
  have sz := (Array.getElem?_eq_some_iff.mp h1).1
  unfold noteFrame
  simp only [hf]
  refine wpAny_bind (wpAny_field ex hd h1 ?_)
  rw [if_neg (by decide)]
  refine entry_x hfr hl hf ex hd sz fun h' n => ?_
  obtain ⟨T, nT, t⟩ := n.exc hd sz
  exact h h' T nT n.upto t
/-- a frame looks at an exception that comes from a callee -/
theorem look1 {base : Heap} {env : Env} {outer : List Env} {L x T : Addr} {cls : Value} {od : Option Addr} {Q : Unit → Shared → Prop} (hfr : A.frames = some (env :: outer)) (hl : s.heap.FunFrames base (env :: outer)) (hf : env.frame = some L) (hx : Exc s.heap x cls od T .none)
    (h : ∀ h' T', s.heap.get? T' = none → Upto ((env :: outer).filterMap (·.frame)) [T, x] s.heap h' → Exc h' x cls od T' (rawInt L) → Q () { s with heap := h' }) : wpAny M A (noteFrame (.ref x) env) Q E s := by
  obtain ⟨oe, vs, oT, ts, ne, ex, rfl, rfl, hd, h1, eT, dT, h3⟩ := hx
  have sz := (Array.getElem?_eq_some_iff.mp h1).1
  have sz3 := (Array.getElem?_eq_some_iff.mp h3).1
  unfold noteFrame
  simp only [hf]
  refine wpAny_bind (wpAny_field ex hd h1 ?_)
  rw [if_pos (show (Value.ref T != Value.none) = true by simp)]
  refine wpAny_bind (wpAny_field eT dT h3 ?_)
  rw [if_neg (show ¬ ((Value.none == rawInt L) = true) by simp [rawInt])]
  refine wpAny_bind (wpAny_setField eT dT sz3 ?_)
  have u1 : Upto ((env :: outer).filterMap (·.frame)) [T] s.heap (s.heap.update T (Obj.mapFields (·.setIfInBounds 3 Value.none))) := .update
  have hl2 : (s.heap.update T (Obj.mapFields (·.setIfInBounds 3 Value.none))).FunFrames base (env :: outer) := hl.of_keeps fun b o q nf => by
    have nb : b ≠ T := fun z => by
      subst z
      rw [eT] at q
      cases q
      exact nf ts dT
    exact ⟨o, by rw [Heap.get?_update_other _ _ (fun z => nb z.symm)]; exact q, rfl⟩
  have ex2 : (s.heap.update T (Obj.mapFields (·.setIfInBounds 3 Value.none))).get? x = some oe := by
    rw [Heap.get?_update_other _ _ ne]
    exact ex
  refine entry_x (s := { s with heap := s.heap.update T (Obj.mapFields (·.setIfInBounds 3 Value.none)) }) hfr hl2 hf ex2 hd sz fun h' n => ?_
  obtain ⟨T', nT, t⟩ := n.exc hd sz
  refine h h' T' ?_ (u1.trans n.upto) t
  cases q : s.heap.get? T' with
  | none => rfl
  | some o =>
    by_cases z : T' = T
    · subst z
      rw [Heap.get?_update_self _ eT (Obj.isFreed_of_fields (Obj.data_mapFields dT _))] at nT
      cases nT
    · rw [Heap.get?_update_other _ _ (fun y => z y.symm), q] at nT
      cases nT
/-- a frame is left -/
theorem leave0 {base : Heap} {env : Env} {outer : List Env} {L x : Addr} {cls : Value} {od : Option Addr} {Q : Unit → Shared → Prop} (hfr : A.frames = some (env :: outer)) (hl : s.heap.FunFrames base (env :: outer)) (hf : env.frame = some L) (hx : Exc0 s.heap x cls od)
    (h : ∀ h' T, s.heap.get? T = none → Upto ((env :: outer).filterMap (·.frame)) [x, T] s.heap h' → Exc h' x cls od T .none → Q () { s with heap := h' }) : wpAny M A (leaving env (.ref x)) Q E s := by
  unfold leaving
  refine wpAny_bind (look0 hfr hl hf hx fun h1 T nT u t => ?_)
  exact flight_x (s := { s with heap := h1 }) (fr := (env :: outer).filterMap (·.frame)) t fun h2 u2 t2 => h h2 T nT (u.trans u2) t2
theorem leave1 {base : Heap} {env : Env} {outer : List Env} {L x T : Addr} {cls : Value} {od : Option Addr} {Q : Unit → Shared → Prop} (hfr : A.frames = some (env :: outer)) (hl : s.heap.FunFrames base (env :: outer)) (hf : env.frame = some L) (hx : Exc s.heap x cls od T .none)
    (h : ∀ h' T', s.heap.get? T' = none → Upto ((env :: outer).filterMap (·.frame)) [T, x, T'] s.heap h' → Exc h' x cls od T' .none → Q () { s with heap := h' }) : wpAny M A (leaving env (.ref x)) Q E s := by
  unfold leaving
  refine wpAny_bind (look1 hfr hl hf hx fun h1 T' nT u t => ?_)
  exact flight_x (s := { s with heap := h1 }) (fr := (env :: outer).filterMap (·.frame)) t fun h2 u2 t2 => h h2 T' nT (u.trans u2) t2
end
end Stow

namespace Stow
open PySem
open Sem (wp)
section
variable {M : Model} {A : Around} {E : Value → Shared → Prop}
variable {nm q nm0 q0 : Str} {C N C0 N0 : Addr} {bs bm bs0 bm0 : List Value} {hdct hdct0 : Bool} {sn sn0 : List Str} {sub sub0 : List Value} {ab ab0 : Bool} {col col0 : Option Bool} {dd dd0 : Option Addr} {k0 k1 k2 k3 k5 j0 j1 j2 j3 j5 : Option Value} {newId newId0 : String}
/-- does an exception of an own class fit another own class -/
theorem match_own {h : Heap} {g : Array GenState} {d : Drawn} {t : Nat} {os : OsState} {x : Addr} {ox : Obj} {b : Bool} {Q : Bool → Shared → Prop}
    (hC : h.get? C = some (excClassObj nm q C N bs bm hdct sn sub ab col dd k0 k1 k2 k3 k5 newId)) (hC0 : h.get? C0 = some (excClassObj nm0 q0 C0 N0 bs0 bm0 hdct0 sn0 sub0 ab0 col0 dd0 j0 j1 j2 j3 j5 newId0))
    (hx : h.get? x = some ox) (hcl : ox.cls = .ref C) (hb0 : (Value.ref C0 :: bm0).contains (.type "BaseException") = true) (hb : (Value.ref C :: bm).contains (.ref C0) = b) (k : Q b ⟨h, g, d, t, os⟩) :
    wpAny M A (excMatches (.ref x) (.ref C0)) Q E ⟨h, g, d, t, os⟩ := by
  have f := tc_notTuple
  unfold excMatches
  repeat (first
    | (with_reducible refine wpAny_loadPart_at hx ?_; rw [hcl])
    | with_reducible refine wpAny_loadPart_at hC0 ?_
    | (with_reducible refine wpAny_isSubtype_exc hC0 ?_; rw [hb0])
    | (with_reducible refine wpAny_isSubtype_exc hC ?_; rw [hb])
    | wp_step)
  all_goals (cases b <;> (wp_walk; exact k))
end
end Stow

namespace Stow
open PySem
open Sem (wp)
/-- a question that is answered by the heap alone -/
def Lk (M : Model) (h : Heap) {α : Type} (m : Sem α) (v : α) : Prop := ∀ (A : Around) (E : Value → Shared → Prop) (g : Array GenState) (d : Drawn) (t : Nat) (os : OsState) (Q : α → Shared → Prop), Q v ⟨h, g, d, t, os⟩ → wpAny M A m Q E ⟨h, g, d, t, os⟩
theorem Lk.at {M : Model} {h : Heap} {α : Type} {m : Sem α} {v : α} (l : Lk M h m v) {A : Around} {E : Value → Shared → Prop} {g : Array GenState} {d : Drawn} {t : Nat} {os : OsState} {Q : α → Shared → Prop} (q : Q v ⟨h, g, d, t, os⟩) : wpAny M A m Q E ⟨h, g, d, t, os⟩ := l A E g d t os Q q
section
variable {prog : Program} {w : World} {A : Around} {E : Value → Shared → Prop} {h : Heap} {g : Array GenState} {d : Drawn} {t : Nat} {os : OsState} {a C : Addr} {o : Obj}
/-- what the class of an exception answers -/
structure XLk (prog : Program) (w : World) (h : Heap) (C : Addr) : Prop where
  ga : Lk (model prog w) h (typeLookup (.ref C) "__getattribute__") (some (.builtin "BaseException.__getattribute__"))
  gat : Lk (model prog w) h (typeLookup (.ref C) "__getattr__") none
  cls : Lk (model prog w) h (typeLookup (.ref C) "__class__") (some (.builtin "object.__class__"))
  obj : Lk (model prog w) h (isSubtype (.ref C) (.type "object")) true
  exc : Lk (model prog w) h (isSubtype (.ref C) (.type "BaseException")) true
theorem xc_get {R : Result → Shared → Prop} (L : XLk prog w h C) (hx : h.get? a = some o) (hc : o.cls = .ref C) (k : R (.ok (.ret (.ref C))) ⟨h, g, d, t, os⟩) :
    codeAny (model prog w) A (.call (.builtin "getset_descriptor.__get__") ⟨[.builtin "object.__class__", .ref a, .ref C], []⟩) R ⟨h, g, d, t, os⟩ := by
  have y5 : (⟨h, g, d, t, os⟩ : Shared).TypeIs (.builtin "object.__class__") "getset_descriptor" := F.typeOf_object_class
  have y8 : Lk (model prog w) h (isSubtype (.ref C) (.type (".".intercalate ("object.__class__".cutAt '.').dropLast))) true := by rw [F.owner_object_class]; exact L.obj
  refine codeAny_call_builtin F.slot_gs_get.plain F.entry_gs_get (F.slot_gs_get.check _ _ _ _ _ _ _ _ y5 (F.args_gs_get _ _ _) ?_)
  repeat (any_goals (first
    | assumption
    | (with_reducible refine wpAny_loadPart_at hx ?_; rw [hc])
    | with_reducible refine y8.at ?_
    | wp_step))
  refine ⟨Code.quiet_builtin _ (by decide +kernel), codeAny_builtin F.entry_object_class ?_⟩
  repeat (any_goals (first
    | assumption
    | (with_reducible refine wpAny_loadPart_at hx ?_; rw [hc])
    | wp_step))
theorem xc_entry {tk : Tok} {Q : Fin → Shared → Prop} (L : XLk prog w h C) (hx : h.get? a = some o) (hc : o.cls = .ref C) (k : Q (.done (.ret (.ref C))) ⟨h, g, d, t, os⟩) :
    wpAny (model prog w) A (Builtin.«object.__getattribute__» ⟨[.ref a, .str "__class__" tk], []⟩) Q E ⟨h, g, d, t, os⟩ := by
  have y5 : (⟨h, g, d, t, os⟩ : Shared).TypeIs (.builtin "object.__class__") "getset_descriptor" := F.typeOf_object_class
  have f5 := F.typeOf_object_class
  have f6 := F.slot_gs_get.lookup
  have f7 := F.slot_gs_set.lookup
  have l2 := L.cls
  repeat (any_goals (first
    | assumption
    | (with_reducible refine wpAny_loadPart_at hx ?_; rw [hc])
    | with_reducible refine l2.at ?_
    | wp_step))
  refine xc_get L hx hc ?_
  repeat (any_goals (first | assumption | wp_step))
theorem xc_check {nv : Value} {Q : Unit → Shared → Prop} (L : XLk prog w h C) (hx : h.get? a = some o) (hc : o.cls = .ref C) (k : Q () ⟨h, g, d, t, os⟩) : wpAny (model prog w) A (checkBuiltinCall "BaseException.__getattribute__" ⟨[.ref a, nv], []⟩) Q E ⟨h, g, d, t, os⟩ := by
  have e1 : builtinKind "BaseException.__getattribute__" = some .slot := by decide +kernel
  have e2 : splitId "BaseException.__getattribute__" = some ("BaseException", "__getattribute__") := by decide +kernel
  have ha := F.args_bexc_ga (.ref a) nv
  have l4 := L.exc
  simp only [checkBuiltinCall, e1, e2]
  refine wpAny_bind ?_
  unfold isInstance
  repeat (first
    | (with_reducible refine wpAny_loadPart_at hx ?_; rw [hc])
    | with_reducible refine l4.at ?_
    | wp_step)
  exact k
theorem xc_call {tk : Tok} {R : Result → Shared → Prop} (FB : Slot "ValueError" "__getattribute__" "BaseException.__getattribute__") (L : XLk prog w h C) (hx : h.get? a = some o) (hc : o.cls = .ref C) (k : R (.ok (.ret (.ref C))) ⟨h, g, d, t, os⟩) :
    codeAny (model prog w) A (.call (.builtin "BaseException.__getattribute__") ⟨[.ref a, .str "__class__" tk], []⟩) R ⟨h, g, d, t, os⟩ :=
  codeAny_call_builtin FB.plain F.entry_bexc_ga (xc_check L hx hc (xc_entry L hx hc k))
theorem xc_by {tk : Tok} {fill : Bool} {Q : Value → Shared → Prop} (FB : Slot "ValueError" "__getattribute__" "BaseException.__getattribute__") (L : XLk prog w h C) (hx : h.get? a = some o) (hc : o.cls = .ref C) (k : Q (.ref C) ⟨h, g, d, t, os⟩) :
    wpAny (model prog w) A (getAttrBy (.ref a) (.str "__class__" tk) fill) Q E ⟨h, g, d, t, os⟩ := by
  have f3 := FB.bind (.ref a)
  have x0 : (false && onTheHeap (Value.builtin "BaseException.__getattribute__")) = false := rfl
  have x2 : (Value.builtin "BaseException.__getattribute__" == Value.builtin "object.__getattribute__") = false := by decide +kernel
  have x1 : (onTheHeap (Value.ref C) && Value.builtin "BaseException.__getattribute__" == Value.builtin "object.__getattribute__") = false := by rw [x2, Bool.and_false]
  have l1 := L.ga
  have l2 := L.gat
  repeat (any_goals (first
    | assumption
    | (with_reducible refine wpAny_loadPart_at hx ?_; rw [hc])
    | with_reducible refine l1.at ?_
    | with_reducible refine l2.at ?_
    | wp_step))
  refine xc_call FB L hx hc ?_
  repeat (any_goals (first | assumption | wp_step))
theorem xc_attr {Q : Option Value → Shared → Prop} (FB : Slot "ValueError" "__getattribute__" "BaseException.__getattribute__") (L : XLk prog w h C) (hx : h.get? a = some o) (hc : o.cls = .ref C) (k : Q (some (.ref C)) ⟨h, g, d, t + 1, os⟩) :
    wpAny (model prog w) A (getAttr? (.ref a) "__class__") Q E ⟨h, g, d, t, os⟩ := by
  unfold getAttr? getAttrBy?
  repeat (any_goals (first | assumption | with_reducible apply xc_by FB L hx hc | wp_step))
end
end Stow

namespace Stow
open PySem L2 PyProof.Rows

/-! ### exceptions of own classes that leave defs -/
section
variable {P : Program} {w : World} {H H' : Hp} {h h' g : Heap} {a : Addr} {o : HO}
theorem ok_there (x : ObjOk P w H h a o) : ∃ ob, h.get? a = some ob := by
  cases o with
  | lst xs => obtain ⟨_, _, _, _, e⟩ := x; exact ⟨_, e⟩
  | tup xs => obtain ⟨_, _, _, ob, e, _⟩ := x; exact ⟨_, e⟩
  | dK kvs => obtain ⟨_, _, _, _, ob, _, _, e, _⟩ := x; exact ⟨_, e⟩
  | dT kvs => obtain ⟨_, _, _, _, ob, _, _, e, _⟩ := x; exact ⟨_, e⟩
  | set S n => obtain ⟨ob, _, _, _, e, _⟩ := x; exact ⟨_, e⟩
  | ins C dx fs => obtain ⟨_, _, _, e, _⟩ := x; exact ⟨_, e⟩
  | own y => obtain ⟨_, e⟩ := x; exact ⟨_, e⟩
  | xd fs => obtain ⟨_, ⟨_, _, _, e, _⟩, _⟩ := x; exact ⟨_, e⟩
  | rng lo hi => obtain ⟨_, _, _, e⟩ := x; exact ⟨_, e⟩
  | frz ob u => obtain ⟨e, _⟩ := x; exact ⟨_, e⟩
  | tbl ps => exact ⟨_, (show h.get? a = some _ from x)⟩
  | met f y => exact ⟨_, (show h.get? a = some _ from x)⟩
  | ext φ => obtain ⟨_, e, _⟩ := x; exact e
theorem hok_none (x : HOk P w H h) (e : h.get? a = none) : H a = none := by
  cases q : H a with
  | none => rfl
  | some u =>
    obtain ⟨ob, z⟩ := ok_there (x a u q)
    rw [e] at z
    cases z
theorem hok_upto {fr ex : List Addr} (x : HOk P w H h) (u : Upto fr ex h h') (hf : ∀ b ∈ fr, H b = none) (he : ∀ b ∈ ex, H b = none) : HOk P w H h' := fun a o e => by
  have out : ∀ b v, H b = some v → b ∉ ex ∧ b ∉ fr := fun b v q => ⟨(fun z => by rw [he b z] at q; cases q), (fun z => by rw [hf b z] at q; cases q)⟩
  refine (x a o e).stay (fun b ob hb q => ?_) (fun _ q => q) fun _ _ q => q
  rcases hb with rfl | hb
  · exact u.keep b ob (out b _ e).1 (out b _ e).2 q
  · exact u.keep b ob (out b _ hb).1 (out b _ hb).2 q
theorem un_upto {fs fr ex : List Addr} (u : Un fs [] H H' g h) (v : Upto fr ex h h') (hfr : ∀ b ∈ fr, b ∈ fs ∨ g.get? b = none) (hex : ∀ b ∈ ex, g.get? b = none) : Un fs [] H H' g h' := by
  have nex : ∀ b o, g.get? b = some o → b ∉ ex := fun b o q z => by rw [hex b z] at q; cases q
  refine ⟨fun b o q n hb hx => ?_, fun b o q n hb hx => ?_, u.free, fun b o q hx => ?_, u.tups, u.frzs, u.tbls⟩
  · refine v.keep b o (nex b o q) (fun z => ?_) (u.keep b o q n hb hx)
    rcases hfr b z with z | z
    · exact hb z
    · rw [z] at q
      cases q
  · obtain ⟨sl, q1⟩ := u.slot b o q n hb hx
    obtain ⟨sl', q2⟩ := v.slot b _ (nex b o q) q1
    exact ⟨sl', q2⟩
  · obtain ⟨o', q1⟩ := u.there b o q hx
    obtain ⟨sl, q2⟩ := v.slot b o' (nex b o q) q1
    exact ⟨_, q2⟩
theorem un_new {fs : List Addr} (u : Un fs [] H H' g h) (e : h.get? a = none) : g.get? a = none := by
  cases q : g.get? a with
  | none => rfl
  | some o =>
    obtain ⟨o', z⟩ := u.there a o q (by simp)
    rw [e] at z
    cases z
end
/-- how an exception lies behind a call -/
def CXe (P : Program) (w : World) : CXT := fun outer H s E e s' => ∃ (x C T : Addr) (od : Option Addr) (H' : Hp), e = .ref x ∧ s'.os = s.os ∧ AllBare s'.gens ∧ Un (frs outer) [] H H' s.heap s'.heap ∧ HOk P w H' s'.heap ∧
  s.heap.get? x = none ∧ s.heap.get? T = none ∧ H' x = none ∧ H' T = none ∧ Exc s'.heap x (.ref C) od T .none ∧ E (.ref C) od H'
section
variable {P : Program} {w : World} {K : PySem.W.Frag} {mg : Str → Option Value} {base : Heap} {N : List Str} {qual : Str} {scope : Scope} {f : Addr} {cd : Value} {A : Around} {outer : List Env} {s₀ : Shared} {H₀ : Hp} {EX : XK}
/-- an exception that was made in the body leaves it -/
theorem xe_made {pins : List (Addr × Obj)} {σ : L2.St} {H : Hp} {s : Shared} {x C : Addr} {od : Option Addr} (I : Inv (cxOf (CXe P w) P w K mg base N qual scope f cd A outer s₀ H₀ EX) pins σ H s) (hx : Exc0 s.heap x (.ref C) od) (nx : s₀.heap.get? x = none) (ux : H x = none) (q : EX (.ref C) od H) :
    (cxOf (CXe P w) P w K mg base N qual scope f cd A outer s₀ H₀ EX).xe (.ref x) s := by
  refine leave0 (base := base) (outer := outer) I.ok.frames I.stack rfl hx fun h' T nT u t => ?_
  have hu : Un (frs outer) [] H₀ H s₀.heap s.heap := I.base
  have uT : H T = none := hok_none I.hok nT
  refine ⟨x, C, T, od, H, rfl, I.os, I.bare, un_upto hu u (fun b hb => ?_) (fun b hb => ?_), hok_upto I.hok u I.stkFree (fun b hb => ?_), nx, un_new hu nT, ux, uT, t, q⟩
  · rcases List.mem_cons.mp hb with rfl | hb
    · exact .inr (Heap.get?_none_of_le (Nat.le_refl _))
    · exact .inl hb
  · rcases List.mem_cons.mp hb with rfl | hb
    · exact nx
    · have e : b = T := by simpa using hb
      subst e
      exact un_new hu nT
  · rcases List.mem_cons.mp hb with rfl | hb
    · exact ux
    · have e : b = T := by simpa using hb
      subst e
      exact uT
/-- an exception of a callee leaves the body too -/
theorem pass_x : Passes (CXe P w) (cxOf (CXe P w) P w K mg base N qual scope f cd A outer s₀ H₀ EX) EX := by
  rintro pins σ H s e s' I ⟨x, C, T, od, H', rfl, os, bare, un, hok, nx, nT, ux, uT, t, q⟩
  have I' : Inv (cxOf (CXe P w) P w K mg base N qual scope f cd A outer s₀ H₀ EX) pins σ H' s' := by
    obtain ⟨hh, gg, dd, tt, oo⟩ := s'
    obtain rfl : oo = s.os := os
    have z := I.call (h' := hh) (g' := gg) (d' := dd) (t' := tt) (ch := []) un hok bare (fun b z => absurd z (by simp))
    exact z
  refine leave1 (base := base) (outer := outer) I'.ok.frames I'.stack rfl t fun h' T' nT' u t' => ?_
  have hu : Un (frs outer) [] H₀ H' s₀.heap s'.heap := I'.base
  have hu0 : Un (frs outer) [] H₀ H s₀.heap s.heap := I.base
  have uT' : H' T' = none := hok_none hok nT'
  have n0 : ∀ b ∈ [T, x, T'], s₀.heap.get? b = none := fun b hb => by
    rcases List.mem_cons.mp hb with rfl | hb
    · exact un_new hu0 nT
    · rcases List.mem_cons.mp hb with rfl | hb
      · exact un_new hu0 nx
      · have e : b = T' := by simpa using hb
        subst e
        exact un_new hu nT'
  refine ⟨x, C, T', od, H', rfl, I'.os, I'.bare, un_upto hu u (fun b hb => ?_) n0, hok_upto hok u I'.stkFree (fun b hb => ?_), n0 x (by simp), n0 T' (by simp), ux, uT', t', q⟩
  · rcases List.mem_cons.mp hb with rfl | hb
    · exact .inr (Heap.get?_none_of_le (Nat.le_refl _))
    · exact .inl hb
  · rcases List.mem_cons.mp hb with rfl | hb
    · exact uT
    · rcases List.mem_cons.mp hb with rfl | hb
      · exact ux
      · have e : b = T' := by simpa using hb
        subst e
        exact uT'
end
end Stow

namespace Stow
open PySem L2 PyProof.Rows

/-! ### the classes of exceptions, as the written part tells them -/
theorem exc_cls {K : PySem.W.Frag} {h : Heap} {C : Addr} {bmB : List Value} {newId : String} (X : K.In h) (q : PySem.W.excIn K C bmB newId = true) :
    ∃ (bm : List Value) (N : Addr) (nm qn : Str) (bs : List Value) (hd : Bool) (sn : List Str) (sub : List Value) (ab : Bool) (col : Option Bool) (dd : Option Addr) (k0 k1 k2 k3 k5 : Option Value) (mN : Str → Option Value),
      h.get? C = some (excClassObj nm qn C N bs bm hd sn sub ab col dd k0 k1 k2 k3 k5 newId) ∧ h.Ns N mN ∧ mN "__init__" = none ∧ OwnTail h bmB bm ∧ ∀ v, PySem.W.mroIn K C v = some ((Value.ref C :: bm).contains v) := by
  unfold PySem.W.excIn at q
  split at q
  · rename_i dd cd sl lk
    split at q
    · rename_i C' bm a0 a1 a2 a3 n a5 em es
      simp only [Bool.and_eq_true, beq_iff_eq, Bool.not_eq_true'] at q
      obtain ⟨⟨⟨⟨⟨eC, rfl⟩, nodel⟩, tl⟩, okN⟩, noI⟩ := q
      have eC := eC.symm
      subst eC
      have mro : ∀ v, PySem.W.mroIn K C v = some ((Value.ref C :: bm).contains v) := fun v => by
        unfold PySem.W.mroIn PySem.W.clsIn
        rw [lk]
        first
          | rfl
          | (simp [em]; done)
      obtain ⟨nm, bs, mr, ns, qn, hd, sn, sub, ab, col, del⟩ := cd
      dsimp only at em nodel okN noI
      subst em nodel
      have esl : sl = #[a0, a1, a2, a3, some (.builtin n), a5] := by
        cases sl with
        | mk l =>
          dsimp only at es
          rw [es]
      subst esl
      exact ⟨bm, ns, nm, qn, bs, hd, sn, sub, ab, col, dd, a0, a1, a2, a3, a5, _, X _ _ lk, .of_isNs (PySem.W.isNs_of_in X okN), PySem.W.nsMap_none_of_in X okN noI, PySem.W.tail_of_in X tl, mro⟩
    · cases q
  · cases q
/-- an own exception class without methods, right or not right under a built-in one -/
structure XCls (K : PySem.W.Frag) (mg : Str → Option Value) (x : Str) (C : Addr) : Prop where
  bound : mg x = some (.ref C)
  ex : ∃ (bmB : List Value) (B newId initId : String), PySem.W.excIn K C bmB newId = true ∧ ExcBaseFacts B newId initId bmB ∧ bmB.contains (.type "BaseException") = true
/-- raise C(e, ..) -/
def tRaise (C : Addr) (E : XK) (t : TA) : TS := fun _ σ H => t σ H fun xs H1 => xs.length ≤ sizeLine ∧ E (.ref C) none H1
section
variable {P : Program} {w : World} {K : PySem.W.Frag} {mg : Str → Option Value} {base : Heap} {N : List Str} {qual : Str} {scope : Scope} {f : Addr} {cd : Value} {A : Around} {outer : List Env} {s₀ : Shared} {H₀ : Hp} {EX : XK}
theorem ps_raise {x : Str} {C : Addr} {np cpos pos : Pos} {e : Expr} {es : List Expr} {t : TA} (XC : XCls K mg x C) (hh : (cxOf (CXe P w) P w K mg base N qual scope f cd A outer s₀ H₀ EX).A.handled = none)
    (hg : Gl (cxOf (CXe P w) P w K mg base N qual scope f cd A outer s₀ H₀ EX) x) (ha : PA (cxOf (CXe P w) P w K mg base N qual scope f cd A outer s₀ H₀ EX) (e :: es) t)
    (hdb : (x == ("__debug__" : Str)) = false := by decide) (he : starEach (e :: es) (cxOf (CXe P w) P w K mg base N qual scope f cd A outer s₀ H₀ EX).env = (false, eval e (cxOf (CXe P w) P w K mg base N qual scope f cd A outer s₀ H₀ EX).env) :: starEach es (cxOf (CXe P w) P w K mg base N qual scope f cd A outer s₀ H₀ EX).env := by rfl)
    (hpl : (backTo cpos (starEach es (cxOf (CXe P w) P w K mg base N qual scope f cd A outer s₀ H₀ EX).env)).any (·.1) = false := by rfl) :
    PS (cxOf (CXe P w) P w K mg base N qual scope f cd A outer s₀ H₀ EX) (.Raise (some (.Call (.Name x np) (e :: es) [] cpos)) none pos) (tRaise C EX t) := by
  intro pins s σ H D I h
  obtain ⟨bmB, B, newId, initId, q, FB, hB⟩ := XC.ex
  obtain ⟨bm, NN, nm, qn, bs, hd, sn, sub, ab, col, dd, k0, k1, k2, k3, k5, mN, hC, hN, noI, tl, _⟩ := exc_cls I.mod.kin q
  refine wpAny_Raise_call_subT (C := C) (nm := nm) (q := qn) (N := NN) (bs := bs) (bm := bm) (hdct := hd) (sn := sn) (sub := sub) (ab := ab) (col := col) (dd := dd) (k0 := k0) (k1 := k1) (k2 := k2) (k3 := k3) (k5 := k5) FB (mN := mN) (tl.hasType hB) hh
    (by rw [he]; show (false || (backTo cpos (starEach es _)).any (·.1)) = false; rw [hpl]; rfl) noI (ld_glob I hg XC.bound ⟨rfl, ?_⟩ hdb)
  have hA := ha cpos pins s σ H _ I h
  rw [he] at hA ⊢
  refine Calls.evalArgs_plain (thn hA fun us s2 ⟨xs, H2, I2, r2, hz, q2⟩ => ⟨rfl, by rw [← r2.length]; exact hz, I2.bk _ _ hC, hN.keeps I2.bk, tl.keeps I2.bk, fun h' x hm => ?_⟩)
  have I3 : Inv (cxOf (CXe P w) P w K mg base N qual scope f cd A outer s₀ H₀ EX) pins σ H2 { s2 with heap := h' } := I2.kept (t' := s2.toks) hm.keeps
  obtain ⟨tt, ht, _, _⟩ := hm.there
  exact xe_made I3 ⟨_, _, ht, rfl, rfl, rfl, rfl⟩ (un_new (show Un (frs outer) [] H₀ H2 s₀.heap s2.heap from I2.base) hm.new) (hok_none I2.hok hm.new) q2
end

/-! ### try around one call -/
/-- an exception that is held: its class, its dict -/
def ExcO (x C : Addr) (od : Option Addr) : HO := .ext fun h => ∃ oe vs, h.get? x = some oe ∧ oe.cls = .ref C ∧ oe.dict = od ∧ oe.data = .fields vs
/-- the context of an except suite -/
abbrev Cx.suite (X : Cx) (x : Addr) : Cx := { X with A := X.A.mark (some (.ref x)), calm := false, xe := fun _ _ => False }
theorem ok_suite {X : Cx} (ok : X.Ok) (x : Addr) : (Cx.suite X x).Ok :=
  ⟨ok.mod, ok.kind, ok.glob, ok.blt, ok.above, ok.inj, ok.has, ok.cab, fun z => (nomatch z), ok.frames, ok.stk, ok.exf, ok.bs, ok.bsz, ok.noex, ok.exfs, ok.funs, ok.frf⟩
theorem inv_suite {X : Cx} {pins : List (Addr × Obj)} {σ : L2.St} {H : Hp} {s : Shared} (I : Inv X pins σ H s) (x : Addr) : Inv (Cx.suite X x) pins σ H s := ⟨ok_suite I.ok x, I.os, I.bare, I.base, I.loc, I.cell, I.free, I.freeC, I.pin, I.hok, I.len⟩
theorem inv_unsuite {X : Cx} {pins : List (Addr × Obj)} {σ : L2.St} {H : Hp} {s : Shared} {x : Addr} (ok : X.Ok) (I : Inv (Cx.suite X x) pins σ H s) : Inv X pins σ H s := ⟨ok, I.os, I.bare, I.base, I.loc, I.cell, I.free, I.freeC, I.pin, I.hok, I.len⟩
section
variable {X : Cx}
/-- behind an exception that a callee has thrown: this frame has looked at it, it is held -/
theorem inv_held {pins : List (Addr × Obj)} {σ : L2.St} {H H' : Hp} {s s' : Shared} {h' : Heap} {x C T : Addr} {od : Option Addr} {fr ex : List Addr} (I : Inv X pins σ H s) (os : s'.os = s.os) (bare : AllBare s'.gens) (un : Un (frs X.stack) [] H H' s.heap s'.heap) (hok : HOk X.prog X.w H' s'.heap)
    (nx : s.heap.get? x = none) (ux : H' x = none) (u : Upto fr ex s'.heap h') (hfr : fr = frs X.stack) (nex : ∀ b ∈ ex, s.heap.get? b = none ∧ H' b = none) (t : Exc h' x (.ref C) od T .none) : Inv X pins σ (upd H' x (ExcO x C od)) { s' with heap := h' } := by
  subst hfr
  have un2 : Un (frs X.stack) [] H H' s.heap h' := un_upto un u (fun b hb => .inl hb) fun b hb => (nex b hb).1
  have stk : ∀ b ∈ frs X.stack, H' b = none := fun b hb => by
    obtain ⟨_, o, ho, _⟩ := I.stack.mem hb
    exact un.free b o ho (I.stkFree b hb) (by simp)
  have hok2 : HOk X.prog X.w H' h' := hok_upto hok u stk fun b hb => (nex b hb).2
  have nex' : ∀ b v, H' b = some v → b ≠ x := fun b v e z => by rw [z, ux] at e; cases e
  have un3 : Un (frs X.stack) [] H (upd H' x (ExcO x C od)) s.heap h' := by
    refine ⟨un2.keep, un2.slot, fun b o q n hx => ?_, un2.there, fun b xs q => ?_, fun b o v q => ?_, fun b ps q => ?_⟩
    · rw [upd_ne (fun z => by rw [z, nx] at q; cases q)]
      exact un2.free b o q n hx
    · rw [upd_ne (nex' b _ (un2.tups b xs q))]
      exact un2.tups b xs q
    · rw [upd_ne (nex' b _ (un2.frzs b o v q))]
      exact un2.frzs b o v q
    · obtain ⟨more, z⟩ := un2.tbls b ps q
      exact ⟨more, by rw [upd_ne (nex' b _ z)]; exact z⟩
  obtain ⟨oe, vs, oT, ts, ne, ee, hc, hd, hf, _⟩ := t
  have hok3 : HOk X.prog X.w (upd H' x (ExcO x C od)) h' := fun b v e => by
    by_cases z : b = x
    · subst z
      rw [upd_same] at e
      cases e
      exact ⟨⟨oe, vs, ee, hc, hd, hf⟩, ⟨oe, ee⟩, fun h1 h2 ⟨o1, v1, q1, q2, q3, q4⟩ k => ⟨o1, v1, k o1 q1, q2, q3, q4⟩⟩
    · rw [upd_ne z] at e
      exact (hok2 b v e).stay (fun _ _ _ q => q) (fun c q => by rw [upd_ne (nex' c _ q)]; exact q) fun c xs q => by rw [upd_ne (nex' c _ q)]; exact q
  obtain ⟨hh, gg, dd, tt, oo⟩ := s'
  obtain rfl : oo = s.os := os
  have z := I.call (h' := h') (g' := gg) (d' := dd) (t' := tt) (ch := []) un3 hok3 bare (fun b z => absurd z (by simp))
  exact z
end
end Stow

namespace Stow
open PySem L2 PyProof.Rows
section
variable {X : Cx}
/-- a name of the frame goes -/
theorem unbind_ok {M : Model} {A : Around} {E : Value → Shared → Prop} {pins : List (Addr × Obj)} {σ : L2.St} {H : Hp} {s : Shared} {i : Nat} {n : Str} {pos : Pos} {Q : Unit → Shared → Prop} (I : Inv X pins σ H s) (hN : X.N.Nodup) (hi : X.N[i]? = some n)
    (hk : X.env.kindOf n = some .local) (k : ∀ s', Inv X pins (σ.set i none) H s' → Q () s') : wpAny M A (do bindName X.env n .none; unbindBehindTheSuite X.env n pos) Q E s := by
  obtain ⟨m, hn, hl⟩ := id I.loc
  have iσ : i < σ.length := by rw [I.len]; exact (List.getElem?_eq_some_iff.mp hi).1
  refine wpAny_nameGoes_keeps hk hn (by rw [I.ok.kind]; rfl) fun h' v hn' hs => k _ ?_
  have far : ∀ b o, X.s₀.heap.get? b = some o → h'.get? b = s.heap.get? b := fun b o e => hs.2 b (Nat.ne_of_lt (Nat.lt_of_lt_of_le (Heap.lt_size e) I.ok.above))
  refine ⟨I.ok, I.os, I.bare, ⟨fun b o e z hb hx => (far b o e).trans (I.base.keep b o e z hb hx), fun b o e z hb hx => ?_, I.base.free, fun b o e hx => ?_, I.base.tups, I.base.frzs, I.base.tbls⟩, ⟨_, hn', fun j y w' e1 e2 e3 => ?_⟩, fun y c e => ?_, I.free, I.freeC, fun p hp => ?_, fun b ob e => ?_, by rw [List.length_set]; exact I.len⟩
  · obtain ⟨sl, q⟩ := I.base.slot b o e z hb hx
    exact ⟨sl, (far b o e).trans q⟩
  · obtain ⟨o', q⟩ := I.base.there b o e hx
    exact ⟨o', (far b o e).trans q⟩
  · have ji : j ≠ i := fun z => by
      subst z
      rw [List.getElem?_set_self iσ] at e2
      cases e2
    rw [List.getElem?_set_ne (Ne.symm ji)] at e2
    obtain ⟨u', r', q⟩ := hl j y w' e1 e2 e3
    refine ⟨u', r', ?_⟩
    rcases q with ⟨kk, e⟩ | ⟨kk, c, e, z⟩
    · have yn : y ≠ n := fun e => ji (nodup_ix hN e1 (e ▸ hi))
      exact .inl ⟨kk, by simp [yn, e]⟩
    · exact .inr ⟨kk, c, e, z.sameBut hs (I.cne y c e)⟩
  · obtain ⟨w', z⟩ := I.cell y c e
    exact ⟨w', z.sameBut hs (I.cne y c e)⟩
  · obtain ⟨e, z, ne, nf, d⟩ := I.pin p hp
    exact ⟨(hs.2 p.1 ne).trans e, z, ne, nf, d⟩
  · refine (I.hok b ob e).stay (fun c w' hc q => (hs.2 c ?_).trans q) (fun _ q => q) fun _ _ q => q
    rintro rfl
    rcases hc with hc | hc
    · rw [← hc, I.free] at e
      cases e
    · rw [I.free] at hc
      cases hc
/-- an own exception class as the written part tells it, behind its own name bm -/
def ECls (K : PySem.W.Frag) (C : Addr) (bm : List Value) : Prop := ∃ (nm qn : Str) (N : Addr) (bs : List Value) (hd : Bool) (sn : List Str) (sub : List Value) (ab : Bool) (col : Option Bool) (dd : Option Addr) (k0 k1 k2 k3 k5 : Option Value) (newId : String),
  K.lookup C = some (excClassObj nm qn C N bs bm hd sn sub ab col dd k0 k1 k2 k3 k5 newId)
/-- an exception of the class at C fits the own class at C0 -/
def Fit (K : PySem.W.Frag) (C C0 : Addr) : Prop := ∃ (bm bm0 : List Value), ECls K C bm ∧ ECls K C0 bm0 ∧ (Value.ref C0 :: bm0).contains (.type "BaseException") = true ∧ (Value.ref C :: bm).contains (.ref C0) = true
/-- try: f(e, ..) / except C0: suite -/
def tTry (K : PySem.W.Frag) (C0 : Addr) (ta : TA) (sp : Sp) (ts : Addr → TS) : TS := fun D σ H => ta σ H fun vs H1 => sp (vs ++ []) H1 (fun _ H2 => D.nx σ H2) fun c od H2 => ∃ C, c = .ref C ∧ Fit K C C0 ∧ ∀ x, H2 x = none → ts x D σ (upd H2 x (ExcO x C od))
variable {k : Nat} {f C0 : Addr} {fd : FuncData} {ps : List Str} {sp : Sp} {fx cx : Str} {p cpos epos np hpos pos : Pos} {e : Expr} {es : List Expr} {ta : TA} {b0 : Stmt} {suite : List Stmt} {ts : Addr → TS}
/-- this frame looks at an exception of a callee -/
theorem held_x {pins : List (Addr × Obj)} {σ : L2.St} {H : Hp} {s s' : Shared} {EX : XK} {y : Value} {W : Shared → Prop} (I : Inv X pins σ H s) (hst : X.stack = X.env :: X.outer ∧ X.env.frame = some X.env.locals) (hq : CXe X.prog X.w X.stack H s EX y s')
    (k : ∀ (x C : Addr) (od : Option Addr) (T : Addr) (h2 : Heap) (H2 : Hp), y = .ref x → EX (.ref C) od H2 → Exc h2 x (.ref C) od T .none → Inv X pins σ (upd H2 x (ExcO x C od)) { s' with heap := h2 } →
      (∀ h3, Upto (frs X.stack) [T] h2 h3 → Exc h3 x (.ref C) od T .none → H2 x = none ∧ Inv X pins σ (upd H2 x (ExcO x C od)) { s' with heap := h3 }) → W { s' with heap := h2 }) {E' : Value → Shared → Prop} :
    wpAny (model X.prog X.w) X.A (noteFrame y X.env) (fun _ s2 => wpAny (model X.prog X.w) X.A (setFlight y none) (fun _ s3 => W s3) E' s2) E' s' := by
  obtain ⟨x, C, T, od, H', rfl, os, bare, un, hok, nx, nT, ux, uT, t, q⟩ := hq
  have I' : Inv X pins σ H' s' := by
    obtain ⟨hh, gg, dd, tt, oo⟩ := s'
    obtain rfl : oo = s.os := os
    have z := I.call (h' := hh) (g' := gg) (d' := dd) (t' := tt) (ch := []) un hok bare (fun b z => absurd z (by simp))
    exact z
  have efr : (X.env :: X.outer).filterMap (·.frame) = frs X.stack := by rw [hst.1]; rfl
  refine look1 (base := X.base) (outer := X.outer) (by rw [← hst.1]; exact I'.ok.frames) (by rw [← hst.1]; exact I'.stack) hst.2 t fun h1 T' nT' u1 t1 => ?_
  rw [efr] at u1
  refine flight_x (s := { s' with heap := h1 }) (fr := frs X.stack) t1 fun h2 u2 t2 => ?_
  have new : ∀ b ∈ [T, x] ++ [T'] ++ [T'], s.heap.get? b = none ∧ H' b = none := fun b hb => by
    simp only [List.cons_append, List.nil_append, List.mem_cons, List.not_mem_nil, or_false] at hb
    rcases hb with rfl | rfl | rfl | rfl
    · exact ⟨nT, uT⟩
    · exact ⟨nx, ux⟩
    · exact ⟨un_new un nT', hok_none hok nT'⟩
    · exact ⟨un_new un nT', hok_none hok nT'⟩
  refine k x C od T' h2 H' rfl q t2 (inv_held I os bare un hok nx ux (u1.trans u2) rfl (fun b hb => new b (List.mem_append_left _ hb)) t2) fun h3 u3 t3 => ⟨ux, inv_held I os bare un hok nx ux ((u1.trans u2).trans u3) rfl new t3⟩
/-- .. as n: the name's slot i -/
def tTryAs (K : PySem.W.Frag) (C0 : Addr) (i : Nat) (ta : TA) (sp : Sp) (ts : Addr → TS) : TS := fun D σ H => ta σ H fun vs H1 => sp (vs ++ []) H1 (fun _ H2 => D.nx σ H2) fun c od H2 => ∃ C, c = .ref C ∧ Fit K C C0 ∧
  ∀ x, H2 x = none → ts x { D with nx := fun σ' H' => D.nx (σ'.set i none) H', bk := fun σ' H' => D.bk (σ'.set i none) H', ct := fun σ' H' => D.ct (σ'.set i none) H' } (σ.set i (some (.ref x))) (upd H2 x (ExcO x C od))
end
end Stow

namespace Stow
open PySem L2 PyProof.Rows
/-! ### defs that may raise, by their names -/
structure Defx (P : Program) (w : World) (K : PySem.W.Frag) (mg : Str → Option Value) (base : Heap) (x : Str) (k : Nat) (ps : List Str) (sp : Sp) : Prop where
  ex : ∃ (f : Addr) (fd : FuncData), FnOk P w K mg base (CXe P w) k f fd ps sp ∧ mg x = some (.ref f) ∧ PySem.W.keepIn K (.ref f) = true ∧ Binds K fd ps []
section
variable {P : Program} {w : World} {K : PySem.W.Frag} {mg : Str → Option Value} {base : Heap}
theorem fun_okx {x qual : Str} {st : Stmt} {f : Addr} {fd : FuncData} {N ps : List Str} {k : Nat} {sp : Sp} (F : Fun K x qual st f fd) (S : FnScope N ps (defScope st)) (len : ∀ vs H Q E, sp vs H Q E → vs.length = ps.length)
    (hbody : ∀ (cdv : Value) (A : Around) (outer : List Env) (s : Shared) (H : Hp) (vs : List V) (Q : VK) (E : XK), Room k (A.deeper (envOfC qual (defScope st) s.heap.objs.size f cdv)) → sp vs H Q E →
      ∃ t, PSs (cxOf (CXe P w) P w K mg base N qual (defScope st) f cdv A outer s H E) (defBody st) t ∧ t { nx := fun _ H' => Q .non H', rt := Q } (start N vs) H) : FnOk P w K mg base (CXe P w) (k + 1) f fd ps sp := by
  obtain ⟨oc, od, kV, doc, pm, an, cdv, ct, osl, rfl, lk, hcd⟩ := F.ex
  exact fn_of lk hcd S len fun A outer s H vs Q E hr hsp => hbody cdv A outer s H vs Q E hr hsp
theorem Src.okx {x : Str} {st : Stmt} {N ps : List Str} {k : Nat} {sp : Sp} (S : Src K mg x st) (sc : FnScope N ps (defScope st))
    (hb : ∀ (kV doc pm : Value) (an : Option Addr) (cdv ct : Value) (us : List Value), us.length = ps.length → bindArgs (PySem.W.fnOf x x (defArgs st) (defBody st) (defScope st) .none kV doc pm an cdv ct) ⟨us, []⟩ = pure (ps.zip us))
    (len : ∀ vs H Q E, sp vs H Q E → vs.length = ps.length)
    (hbody : ∀ (f : Addr) (cdv : Value) (A : Around) (outer : List Env) (s : Shared) (H : Hp) (vs : List V) (Q : VK) (E : XK), Room k (A.deeper (envOfC x (defScope st) s.heap.objs.size f cdv)) → sp vs H Q E →
      ∃ t, PSs (cxOf (CXe P w) P w K mg base N x (defScope st) f cdv A outer s H E) (defBody st) t ∧ t { nx := fun _ H' => Q .non H', rt := Q } (start N vs) H) : Defx P w K mg base x (k + 1) ps sp := by
  obtain ⟨f, fd, F, hm⟩ := S.ex
  exact ⟨f, fd, fun_okx F sc len (hbody f), hm, F.kp, F.binds hb⟩
end
section
variable {X : Cx}
theorem pass_e0 : Passes (CXe X.prog X.w) X E0 := by
  rintro pins σ H s e s' I ⟨x, C, T, od, H', _, _, _, _, _, _, _, _, _, _, q⟩
  exact q.elim
/-- f(e, ..), that raises nothing there -/
theorem pe_defq {x : Str} {j k : Nat} {ps : List Str} {sp : Sp} {p pos : Pos} {e : Expr} {es : List Expr} {t : TA} (D : Defx X.prog X.w X.K X.mg X.base x j ps sp) (hr : Room k X.A) (hg : Gl X x) (ha : PA X (e :: es) t) (hk : j ≤ k := by decide)
    (hdb : (x == ("__debug__" : Str)) = false := by decide) (he : starEach (e :: es) X.env = (false, eval e X.env) :: starEach es X.env := by rfl) (hpl : (backTo pos (starEach es X.env)).any (·.1) = false := by rfl) :
    PE X (.Call (.Name x p) (e :: es) [] pos) (tCall sp [] E0 t) := by
  obtain ⟨f, fd, F, hm, kp, b⟩ := D.ex
  exact pe_call F (hr.mono hk) hg hm kp b .nil pass_e0 ha hdb he hpl
variable {j k : Nat} {C0 : Addr} {ps : List Str} {sp : Sp} {fx cx : Str} {p cpos epos np hpos pos : Pos} {e : Expr} {es : List Expr} {ta : TA} {b0 : Stmt} {suite : List Stmt} {ts : Addr → TS}
end
/-! ### isinstance of an exception that is held -/
theorem Lk.of {M : Model} {h : Heap} {α : Type} {m : Sem α} {v : α} (l : PySem.W.Looks M h m v) : Lk M h m v := fun A E g d t os Q q => l A Q E ⟨h, g, d, t, os⟩ (fun _ _ e => e) q
/-- what the written part tells of an exception's class -/
structure XK0 (K : PySem.W.Frag) (C : Addr) : Prop where
  ga : PySem.W.findIn K (.ref C) "__getattribute__" = some (some (.builtin "BaseException.__getattribute__"))
  gat : PySem.W.findIn K (.ref C) "__getattr__" = some none
  cls : PySem.W.findIn K (.ref C) "__class__" = some (some (.builtin "object.__class__"))
  obj : PySem.W.mroIn K C (.type "object") = some true
  exc : PySem.W.mroIn K C (.type "BaseException") = some true
theorem XK0.lk {prog : Program} {w : World} {K : PySem.W.Frag} {C : Addr} {h : Heap} (x : XK0 K C) (KX : K.In h) : XLk prog w h C :=
  ⟨.of (PySem.W.looks_findIn KX x.ga), .of (PySem.W.looks_findIn KX x.gat), .of (PySem.W.looks_findIn KX x.cls), .of (PySem.W.looks_mroIn KX x.obj), .of (PySem.W.looks_mroIn KX x.exc)⟩
theorem kitx_exc {K : PySem.W.Frag} {x C : Addr} (FB : Slot "ValueError" "__getattribute__" "BaseException.__getattribute__") (Z : XK0 K C) : PySem.W.KitX K (.ref x) (.ref C) (fun h => ∃ ox, h.get? x = some ox ∧ ox.cls = .ref C) where
  ty := fun M h KX ⟨ox, e, hc⟩ A Q E s k q => by
    unfold typeOf
    refine wpAny_bind (wpAny_loadPart (k _ _ e) ?_)
    rw [hc]
    exact wpAny_pure q
  it := fun M h KX _ A Q E s k q => by
    obtain ⟨cd, hcd, _⟩ := Option.bind_eq_some_iff.mp Z.obj
    unfold PySem.W.clsIn at hcd
    split at hcd
    · rename_i lk
      unfold isType loadHead
      exact wpAny_bind (wpAny_loadPart (k _ _ (KX _ _ lk)) (wpAny_pure q))
    · cases hcd
  ne := fun h tp dd its n sl KX htp => by
    obtain ⟨cd, hcd, _⟩ := Option.bind_eq_some_iff.mp Z.obj
    refine Bool.eq_false_iff.mpr fun q => ?_
    have e : C = tp := Value.ref.inj (beq_iff_eq.mp q)
    subst e
    unfold PySem.W.clsIn at hcd
    split at hcd
    · rename_i lk
      have z := (KX _ _ lk).symm.trans htp
      cases z
    · cases hcd
  ca := fun {_ _ _ _ _ s} KX ⟨ox, e, hc⟩ k => by
    obtain ⟨h, g, d, t, os⟩ := s
    exact xc_attr FB (Z.lk KX) e hc k
def clsV : V → Value
  | .ty n => .type n
  | .ref a => .ref a
  | _ => .none
section
variable {X : Cx}
theorem call_isiX (FB : Slot "ValueError" "__getattribute__" "BaseException.__getattribute__") : CallR X (.builtin "isinstance") (fun xs H Q => ∃ x C od v b, xs = [.ref x, v] ∧ H x = some (ExcO x C od) ∧ XK0 X.K C ∧ clsV v ≠ .none ∧ PySem.W.kitOne X.K (.ref C) (clsV v) = some b ∧ Q (.bl b) H) := by
  intro pins s σ H xs us Q I r h
  obtain ⟨x, C, od, v, b, rfl, hx, Z, nv, e, q⟩ := h
  obtain ⟨u, u', rfl, rx, ry⟩ := vals2 r
  cases (show u = Value.ref x from rx)
  have ev : u' = clsV v := by
    cases v with
    | ty n => exact ry
    | ref a => exact ry
    | _ => exact absurd rfl nv
  subst ev
  obtain ⟨⟨oe, vs, ee, hc, _⟩, _⟩ := I.hok x _ hx
  exact PySem.W.kia_one (kitx_exc FB Z) I.kIn ⟨oe, ee, hc⟩ e (fun z => nomatch z) fun tk => ⟨.bl b, H, I.tok tk, rfl, q⟩
end
end Stow

namespace Stow
open PySem L2 PyProof.Rows
open PySem.W in
theorem refuse_base (self : Value) : refuseLoop self "__setattr__" [.type "ValueError", .type "Exception", .type "BaseException", .type "object"] = pure () := by kernel_rfl
def excTail : List Value → Bool
  | .ref _ :: r => excTail r
  | l => l == [.type "ValueError", .type "Exception", .type "BaseException", .type "object"]
open PySem.W in
theorem refuse_tail (self : Value) : ∀ {l : List Value}, excTail l = true → refuseLoop self "__setattr__" l = pure ()
  | .ref c :: r, e => by rw [refuseLoop_ref]; exact refuse_tail self e
  | [], e => by cases e
  | .none :: r, e => by cases e
  | .type n :: r, e => by
    have e' : (Value.type n :: r) = [.type "ValueError", .type "Exception", .type "BaseException", .type "object"] := beq_iff_eq.mp e
    rw [e']
    exact refuse_base self
  | .ellipsis :: r, e => by cases e
  | .notImplemented :: r, e => by cases e
  | .bool b :: r, e => by cases e
  | .int i t :: r, e => by cases e
  | .float i t :: r, e => by cases e
  | .str i t :: r, e => by cases e
  | .bytes i t :: r, e => by cases e
  | .builtin i :: r, e => by cases e
section
variable {prog : Program} {w : World} {A : Around} {K : PySem.W.Frag} {x C : Addr} {s : Shared}
open PySem.W in
theorem set_exc0 {E : Value → Shared → Prop} {ox : Obj} {vs : Array Value} {name : Str} {v : Value} {cd : ClassData} {Q : Unit → Shared → Prop} (X : K.In s.heap) (hx : s.heap.get? x = some ox) (hcl : ox.cls = .ref C) (hdi : ox.dict = none) (hda : ox.data = .fields vs)
    (hs : findIn K (.ref C) "__setattr__" = some (some (.builtin "object.__setattr__"))) (hc : clsIn K C = some cd) (ho : excTail cd.mro = true) (hm : mroIn K C (.type "object") = some true) (hd : cd.hasDict = true) (ht : findIn K (.ref C) name = some none)
    (h : ∀ h' dx, s.heap.get? dx = none → dx ≠ x → h'.get? x = some { ox with dict := some dx } → h'.Ns1 dx (fun y => if y = name then some v else none) → (∀ b o, b ≠ x → s.heap.get? b = some o → h'.get? b = some o) → Q () { s with heap := h', toks := s.toks + 2 }) :
    wpAny (model prog w) A (setAttr (.ref x) name v) Q E s := by
  have I : InstAt s.heap x ox C none := ⟨hx, hcl, by unfold notCls; rw [hda], by rw [hdi]; trivial⟩
  refine set_plain X I hs ?_
  have SF := PySem.F.store_object
  have sub : Looks (model prog w) s.heap (isInstance (.ref x) (.type "object")) true := I.type.andThen (looks_mroIn X hm)
  refine codeAny_call_builtin SF.slot.plain SF.entry (@check_slot (model prog w) _ _ { s with toks := s.toks + 1 } "object.__setattr__" "object" "__setattr__" (.ref x) [.str name s.toks, v] [] _ SF.kind SF.split sub (SF.args (.ref x) (.str name s.toks) v) ?_)
  have mro : Looks (model prog w) s.heap (mroOf (.ref C)) cd.mro := (looks_clsIn X hc).andThen .now
  rw [osa_eq, refuse_eq]
  refine wpAny_bind (wpAny_bind (Looks.here (s := { s with toks := s.toks + 1 }) I.type (wpAny_bind (Looks.here (s := { s with toks := s.toks + 1 }) mro ?_))))
  rw [refuse_tail _ ho]
  refine wpAny_pure (wpAny_bind (Looks.here (s := { s with toks := s.toks + 1 }) I.type (wpAny_bind (Looks.here (s := { s with toks := s.toks + 1 }) (looks_findIn X ht) (wpAny_bind (wpAny_pure ?_))))))
  show wpAny _ _ (Builtin.ObjectAttr.storeInOwnDict (.ref x) (.ref C) _ name v _) _ _ _
  unfold Builtin.ObjectAttr.storeInOwnDict
  obtain ⟨c0, d0, dt0, sl0⟩ := ox
  dsimp only at hcl hdi hda
  subst hcl hdi hda
  refine wpAny_bind (wpAny_pure (wpAny_bind (wpAny_bind (wpAny_loadPart hx (wpAny_bind (Looks.here (s := { s with toks := s.toks + 1 }) (looks_clsIn X hc) ?_))))))
  rw [hd]
  show wpAny (model prog w) A.in1 (do
    let d ← alloc { cls := Value.type "dict", data := Data.dict #[] }
    update x fun o => { o with dict := some d }
    dictMade (.ref C) x d) _ _ _
  refine wpAny_bind (wpAny_alloc ?_)
  refine wpAny_bind (wpAny_update (Heap.get?_push_of_some _ hx) ?_)
  refine wpAny_pure (a := some s.heap.objs.size) (wpAny_bind (wpAny_pure (wpAny_bind ?_)))
  have ne : s.heap.objs.size ≠ x := Nat.ne_of_gt (Heap.lt_size hx)
  have n0 : ((s.heap.push { cls := .type "dict", data := .dict #[] }).update x fun o => { o with dict := some s.heap.objs.size }).Ns1 s.heap.objs.size (fun _ => none) := by
    have e1 : (s.heap.push { cls := .type "dict", data := .dict #[] }).get? s.heap.objs.size = some { cls := .type "dict", data := .dict #[] } := Heap.get?_push_size s.heap rfl
    have e3 : (s.heap.push { cls := .type "dict", data := .dict #[] }).Ns s.heap.objs.size (fun _ => none) := ⟨_, #[], _, e1, rfl, (fun e he => absurd he (by simp)), fun _ => rfl⟩
    exact (Heap.Ns1.of_empty e3).at fun o q => by rw [Heap.get?_update_other _ _ (fun z => ne z.symm)]; exact q
  refine wpAny_nsSet1 n0 fun h' hn2 hs2 => ?_
  obtain ⟨oD, esD, epD, hoD, hdD, hcD⟩ := hn2.count (PySem.Within.cons name v (ns := []) (fun y hy => absurd rfl hy))
  refine wpAny_bind (wpAny_lookBehind hoD (by rw [hdD]; exact pastItsLine_dict (Nat.le_trans hcD (by show 1 ≤ sizeLine + 1; exact Nat.le_add_left 1 _))) ?_)
  refine wpAny_pure (h _ s.heap.objs.size (Heap.get?_none_of_le (Nat.le_refl _)) ne ?_ hn2 fun b o nb q => ?_)
  · rw [hs2.2 x (fun z => ne z.symm)]
    exact Heap.get?_update_self _ (Heap.get?_push_of_some _ hx) rfl
  · rw [hs2.2 b (Nat.ne_of_lt (Heap.lt_size q))]
    show ((s.heap.push _).update x _).get? b = some o
    rw [Heap.get?_update_other _ _ (fun z => nb z.symm)]
    exact Heap.get?_push_of_some _ q
end
end Stow
namespace Stow
open PySem
open Sem (wp)
section
variable {prog : Program} {w : World} {A : Around} {E : Value → Shared → Prop} {h : Heap} {g : Array GenState} {d : Drawn} {t : Nat} {os : OsState} {a C : Addr} {o : Obj} {name : Str} {v : Value}
end
end Stow

namespace Stow
open PySem L2 PyProof.Rows
/-! ### an exception with a field -/
/-- what the written part tells of a class whose objects take the field f -/
structure XSet (K : PySem.W.Frag) (C : Addr) (f : Str) : Prop where
  sa : PySem.W.findIn K (.ref C) "__setattr__" = some (some (.builtin "object.__setattr__"))
  cd : ∃ cd, PySem.W.clsIn K C = some cd ∧ excTail cd.mro = true ∧ cd.hasDict = true
  ob : PySem.W.mroIn K C (.type "object") = some true
  no : PySem.W.findIn K (.ref C) f = some none
/-- an exception that was made and not raised yet -/
def ExcN (x C : Addr) (od : Option Addr) : HO := .ext fun h => ∃ tt, h.get? x = some { cls := .ref C, dict := od, data := .fields #[.ref tt, .none, .none, .none, .bool false, .none] }
def sFldX (K : PySem.W.Frag) (ta tv : TE) (f : Str) : TS := fun D σ H => tv σ H fun y H1 => ta σ H1 fun x H2 => ∃ a C, x = .ref a ∧ H2 a = some (ExcN a C none) ∧ XSet K C f ∧ ∀ dx, H2 dx = none → D.nx σ (upd (upd H2 dx (.xd [(f, y)])) a (ExcN a C (some dx)))
def tFldX (K : PySem.W.Frag) (ta : TE) (f : Str) : TE := fun σ H Q => ta σ H fun x H1 => ∃ a C dx fs v, x = .ref a ∧ H1 a = some (ExcO a C (some dx)) ∧ H1 dx = some (.xd fs) ∧ XK0 K C ∧ XSet K C f ∧ fs.lookup f = some v ∧ Q v H1
section
variable {X : Cx} {o e value : Expr} {f : Str} {pos pos' : Pos} {ta tv : TE}
theorem ps_fldX (ha : PE X o ta) (hv : PE X value tv) (hs : swapsWith value (some (.Attribute o f pos')) pos.line X.env = pure false := by rfl) : PS X (.Assign [.Attribute o f pos'] value pos) (sFldX X.K ta tv f) := by
  intro pins s σ H D I h
  refine plainObj_wpAny_Assign_Attribute (thn (hv pins s σ H _ I h) fun u s1 ⟨y, H1, I1, ry, q⟩ => thn (ha pins s1 σ H1 _ I1 q) fun ov s2 ⟨x, H2, I2, rx, a, C, ex, ea, Z, q2⟩ => ?_) hs
  subst ex
  obtain rfl : ov = Value.ref a := rx
  obtain ⟨⟨tt, ee⟩, _⟩ := I2.hok a _ ea
  obtain ⟨cd, hcd, ht, hdi⟩ := Z.cd
  refine set_exc0 I2.kIn ee rfl rfl rfl Z.sa hcd ht Z.ob hdi Z.no fun h' dx nd ne e' n' kp => ?_
  have ud : H2 dx = none := hok_none I2.hok nd
  have nda : a ≠ dx := fun z => ne z.symm
  refine ⟨σ, _, ?_, q2 dx ud⟩
  -- the dict is laid, the exception bears it
  have un : Un X.fs [] H2 (upd (upd H2 dx (.xd [(f, y)])) a (ExcN a C (some dx))) s2.heap h' := by
    refine ⟨fun b ob qb n _ _ => kp b ob (fun z => by rw [z, ea] at n; cases n) qb, fun b ob qb n _ _ => ⟨ob.slots, kp b ob (fun z => by rw [z, ea] at n; cases n) qb⟩, fun b ob qb n _ => ?_, fun b ob qb _ => ?_, fun b xs qb => ?_, fun b ob v' qb => ?_, fun b ps qb => ?_⟩
    · rw [upd_ne (fun z => by rw [z, ea] at n; cases n), upd_ne (fun z => by rw [z, nd] at qb; cases qb)]
      exact n
    · by_cases z : b = a
      · subst z
        exact ⟨_, e'⟩
      · exact ⟨ob, kp b ob z qb⟩
    · rw [upd_ne (fun z => by rw [z, ea] at qb; cases qb), upd_ne (ne_of_none qb ud)]
      exact qb
    · rw [upd_ne (fun z => by rw [z, ea] at qb; cases qb), upd_ne (ne_of_none qb ud)]
      exact qb
    · exact ⟨#[], by rw [upd_ne (fun z => by rw [z, ea] at qb; cases qb), upd_ne (ne_of_none qb ud), qb]; simp⟩
  have hok : HOk X.prog X.w (upd (upd H2 dx (.xd [(f, y)])) a (ExcN a C (some dx))) h' := fun b v' qb => by
    by_cases z : b = a
    · subst z
      rw [upd_same] at qb
      cases qb
      exact ⟨⟨tt, e'⟩, ⟨_, e'⟩, fun h1 h2 ⟨t1, q1⟩ k => ⟨t1, k _ q1⟩⟩
    · rw [upd_ne z] at qb
      by_cases z2 : b = dx
      · subst z2
        rw [upd_same] at qb
        cases qb
        refine ⟨_, n', fun g => ?_⟩
        show RelO (List.lookup g [(f, y)]) (if g = f then some u else none)
        by_cases zg : g = f
        · subst zg
          rw [if_pos rfl, List.lookup_cons_self]
          exact ry
        · rw [if_neg zg, List.lookup_cons, show (g == f) = false from beq_false_of_ne zg]
          trivial
      · rw [upd_ne z2] at qb
        refine (I2.hok b v' qb).stay (fun c w' hcw q => kp c w' (fun y' => ?_) q) (fun c q => ?_) fun c xs q => ?_
        · subst y'
          rcases hcw with r | r
          · exact z r.symm
          · rw [ea] at r
            cases r
        · rw [upd_ne (fun z => by rw [z, ea] at q; cases q), upd_ne (ne_of_none q ud)]
          exact q
        · rw [upd_ne (fun z => by rw [z, ea] at q; cases q), upd_ne (ne_of_none q ud)]
          exact q
  exact I2.un un hok
end
end Stow

namespace Stow
open PySem
open Sem (wp)
section
variable {prog : Program} {w : World} {A : Around} {E : Value → Shared → Prop} {h : Heap} {g : Array GenState} {d : Drawn} {t : Nat} {os : OsState}
variable {nm q : Str} {C N : Addr} {bs bm bmB : List Value} {hdct : Bool} {sn : List Str} {sub : List Value} {ab : Bool} {col : Option Bool} {dd : Option Addr} {k0 k1 k2 k3 k5 : Option Value} {B newId initId : String}
theorem make_exc1 (FB : ExcBaseFacts B newId initId bmB) (TL : OwnTail h bmB bm) {args : List Value} {fI : Addr} {oI : Obj} {Q : Fin → Shared → Prop} (hC : h.get? C = some (excClassObj nm q C N bs bm hdct sn sub ab col dd k0 k1 k2 k3 k5 newId))
    (LI : PySem.W.Looks (model prog w) h (typeLookup (.ref C) "__init__") (some (.ref fI))) (hfI : h.get? fI = some oI) (hfc : oI.cls = .type "function")
    (k : ∀ h' e, Heap.MadeExcOf h h' e (.ref C) args → wpAny (model prog w) A (call (.ref fI) (.ref e :: args)) (fun r s' => r = .none ∧ Q (.done (.ret (.ref e))) s') E ⟨h', g, d, t, os⟩) (hz : args.length ≤ sizeLine) :
    wpAny (model prog w) A (Builtin.«type.__call__» ⟨.ref C :: args, []⟩) Q E ⟨h, g, d, t, os⟩ := by
  repeat (first
    | with_reducible refine wpAny_loadPart_at hC ?_
    | with_reducible refine wpAny_madeBy_exc hC ?_
    | wp_step)
  refine codeAny_call_builtin_code (Code.quiet_builtin _ FB.quiet) (wpAny_check_new_subT FB TL hC (codeAny_exc_new_subT FB TL hC ?_ hz))
  show wpAny _ _ _ _ _ _
  have kp : ∀ b o, h.get? b = some o → ((h.push { cls := .type "tuple", data := .seq args.toArray }).push { cls := .ref C, data := .fields #[.ref h.objs.size, .none, .none, .none, .bool false, .none] }).get? b = some o :=
    fun b o z => Heap.get?_push_of_some _ (Heap.get?_push_of_some _ z)
  have gC := kp _ _ hC
  have gE : ((h.push { cls := .type "tuple", data := .seq args.toArray }).push { cls := .ref C, data := .fields #[.ref h.objs.size, .none, .none, .none, .bool false, .none] }).get? (h.objs.size + 1)
      = some { cls := .ref C, data := .fields #[.ref h.objs.size, .none, .none, .none, .bool false, .none] } := by heap_get
  have cC : (Value.ref C :: bm).contains (.ref C) = true := by simp
  unfold isInstance
  repeat (first
    | with_reducible refine wpAny_loadPart_at gE ?_
    | (with_reducible refine wpAny_isSubtype_exc gC ?_; rw [cC])
    | wp_step)
  show wpAny _ _ (typeLookup (.ref C) _) _ _ _
  refine LI _ _ _ _ kp ?_
  refine wpAny_holding (wpAny_bind ?_)
  unfold bindSpecial
  refine wpAny_bind (wpAny_typeOf (T := "function") ⟨_, kp _ _ hfI, hfc⟩ ?_)
  rw [if_pos (by decide)]
  refine wpAny_pure (wpAny_bind (wpAny_mono (k _ (h.objs.size + 1) ⟨kp, Heap.get?_none_of_le (Nat.le_succ _), h.objs.size, gE, Heap.get?_none_of_le (Nat.le_refl _), ?_⟩) (fun r s' hr => ?_) fun _ _ z => z))
  · exact Heap.get?_push_of_some _ (Heap.get?_push_at rfl rfl)
  · obtain ⟨rfl, z⟩ := hr
    wp_walk
    exact z
theorem make_exc2 (FB : ExcBaseFacts B newId initId bmB) (TL : OwnTail h bmB bm) {args : List Value} {fI : Addr} {oI : Obj} {Q : Value → Shared → Prop} (hC : h.get? C = some (excClassObj nm q C N bs bm hdct sn sub ab col dd k0 k1 k2 k3 k5 newId))
    (LI : PySem.W.Looks (model prog w) h (typeLookup (.ref C) "__init__") (some (.ref fI))) (hfI : h.get? fI = some oI) (hfc : oI.cls = .type "function")
    (k : ∀ h' e, Heap.MadeExcOf h h' e (.ref C) args → wpAny (model prog w) (A.under (.builtin "type.__call__" ⟨.ref C :: args, []⟩)) (call (.ref fI) (.ref e :: args)) (fun r s' => r = .none ∧ Q (.ref e) s') E ⟨h', g, d, t, os⟩) (hz : args.length ≤ sizeLine) :
    wpAny (model prog w) A (call (.ref C) args) Q E ⟨h, g, d, t, os⟩ := by
  have y1 := tc_lookup
  have y2 := tc_bind (.ref C)
  have y3 : (⟨h, g, d, t, os⟩ : Shared).TypeIs (.ref C) "type" := ⟨_, hC, rfl⟩
  refine wpAny_call (codeAny_of_tree ?_)
  show wpAny _ _ (callAny (.ref C) _) _ _ _
  repeat (any_goals (first
    | assumption
    | with_reducible refine wpAny_loadPart_at hC ?_
    | wp_step))
  refine ⟨rfl, codeAny_call_builtin_at (Code.quiet_builtin _ (by decide +kernel)) entry_typeCall (wpAny_check_type_call_sub hC (make_exc1 FB TL hC LI hfI hfc (fun h' e hm => ?_) hz))⟩
  exact k h' e hm
/-- raise of an exception that stands -/
theorem raise_exc {M : Model} {env : Env} {s : Shared} {x : Sem Value} {Q : Flow → Shared → Prop} (hbase : bm.contains (.type "BaseException") = true) (hh : A.handled = none)
    (k : wpAny M A x (fun v s1 => ∃ e od tt, v = .ref e ∧ s1.heap.get? C = some (excClassObj nm q C N bs bm hdct sn sub ab col dd k0 k1 k2 k3 k5 newId) ∧ s1.heap.get? e = some { cls := .ref C, dict := od, data := .fields #[.ref tt, .none, .none, .none, .bool false, .none] } ∧ E (.ref e) s1) E s) :
    wpAny M A (raiseStmt env (some x) none) Q E s := by
  have cB : (Value.ref C :: bm).contains (.type "BaseException") = true := by rw [List.contains_cons, hbase, Bool.or_true]
  unfold raiseStmt
  refine wpAny_bind (wpAny_mono k (fun v s1 k1 => ?_) fun _ _ z => z)
  obtain ⟨e, od, tt, rfl, hC, he, z⟩ := k1
  obtain ⟨hp, gg, d1, tk, os1⟩ := s1
  repeat (first
    | with_reducible refine wpAny_loadPart_at he ?_
    | with_reducible refine wpAny_loadPart_at hC ?_
    | (with_reducible refine wpAny_isSubtype_exc hC ?_; rw [cB])
    | wp_step)
  exact wpAny_raiseNew_none hh z
end
end Stow

namespace Stow
open PySem L2 PyProof.Rows
/-! ### raise C(e), the class at C with an __init__ of its own -/
/-- what the written part tells of such a class, right under the own class at C0 -/
structure XIni (K : PySem.W.Frag) (mg : Str → Option Value) (x : Str) (C C0 fI : Addr) : Prop where
  bound : mg x = some (.ref C)
  lk : ∃ (nm qn : Str) (N : Addr) (bs : List Value) (hd : Bool) (sn : List Str) (sub : List Value) (ab : Bool) (col : Option Bool) (dd : Option Addr) (k0 k1 k2 k3 k5 : Option Value),
    K.lookup C = some (excClassObj nm qn C N bs (.ref C0 :: [.type "ValueError", .type "Exception", .type "BaseException", .type "object"]) hd sn sub ab col dd k0 k1 k2 k3 k5 "ValueError.__new__")
  base : PySem.W.excIn K C0 [.type "ValueError", .type "Exception", .type "BaseException", .type "object"] "ValueError.__new__" = true
  ini : PySem.W.findIn K (.ref C) "__init__" = some (some (.ref fI))
  keep : PySem.W.keepIn K (.ref C) = true
  fn : ∃ (c : Value) (dd : Option Addr) (da : Data) (sl : Array (Option Value)), K.lookup fI = some ⟨c, dd, da, sl⟩ ∧ c = .type "function"
/-- x is not tracked any more -/
def del (H : Hp) (x : Addr) : Hp := fun b => if b = x then none else H b
theorem del_same {H : Hp} {x : Addr} : del H x x = none := by unfold del; rw [if_pos rfl]
theorem del_ne {H : Hp} {x b : Addr} (h : b ≠ x) : del H x b = H b := by unfold del; rw [if_neg h]
theorem inv_del {X : Cx} {pins : List (Addr × Obj)} {σ : L2.St} {H : Hp} {s : Shared} {x : Addr} {φ : Heap → Prop} (I : Inv X pins σ H s) (e : H x = some (.ext φ)) : Inv X pins σ (del H x) s := by
  have nx : ∀ b v, H b = some v → v ≠ .ext φ → b ≠ x := fun b v q n z => by
    subst z
    rw [e] at q
    exact n (Option.some.inj q).symm
  have un : Un X.fs [] H (del H x) s.heap s.heap := by
    refine ⟨fun b o q _ _ _ => q, fun b o q _ _ _ => ⟨o.slots, q⟩, fun b o q n _ => ?_, fun b o q _ => ⟨o, q⟩, fun b xs q => ?_, fun b o v q => ?_, fun b ps q => ⟨#[], ?_⟩⟩
    · by_cases z : b = x
      · rw [z]
        exact del_same
      · rw [del_ne z]
        exact n
    · rw [del_ne (nx b _ q (by intro z; cases z))]
      exact q
    · rw [del_ne (nx b _ q (by intro z; cases z))]
      exact q
    · rw [del_ne (nx b _ q (by intro z; cases z)), q]
      simp
  have hok : HOk X.prog X.w (del H x) s.heap := fun b v q => by
    by_cases z : b = x
    · rw [z, del_same] at q
      cases q
    · rw [del_ne z] at q
      refine (I.hok b v q).stay (fun _ _ _ z => z) (fun c q' => ?_) fun c xs q' => ?_
      · rw [del_ne (nx c _ q' (by intro z; cases z))]
        exact q'
      · rw [del_ne (nx c _ q' (by intro z; cases z))]
        exact q'
  exact I.un (h' := s.heap) (t' := s.toks) un hok
theorem inv_new {X : Cx} {pins : List (Addr × Obj)} {σ : L2.St} {H : Hp} {s : Shared} {h' : Heap} {x C tt : Addr} (I : Inv X pins σ H s) (nx : s.heap.get? x = none) (kp : ∀ b o, s.heap.get? b = some o → h'.get? b = some o)
    (e : h'.get? x = some { cls := .ref C, data := .fields #[.ref tt, .none, .none, .none, .bool false, .none] }) : Inv X pins σ (upd H x (ExcN x C none)) { s with heap := h' } := by
  have ux : H x = none := hok_none I.hok nx
  have un : Un X.fs [] H (upd H x (ExcN x C none)) s.heap h' := by
    refine ⟨fun b o q _ _ _ => kp b o q, fun b o q _ _ _ => ⟨o.slots, kp b o q⟩, fun b o q n _ => ?_, fun b o q _ => ⟨o, kp b o q⟩, fun b xs q => ?_, fun b o v q => ?_, fun b ps q => ⟨#[], ?_⟩⟩
    · rw [upd_ne (fun z => by rw [z, nx] at q; cases q)]
      exact n
    · rw [upd_ne (ne_of_none q ux)]
      exact q
    · rw [upd_ne (ne_of_none q ux)]
      exact q
    · rw [upd_ne (ne_of_none q ux), q]
      simp
  have hok : HOk X.prog X.w (upd H x (ExcN x C none)) h' := fun b v q => by
    by_cases z : b = x
    · subst z
      rw [upd_same] at q
      cases q
      exact ⟨⟨tt, e⟩, ⟨_, e⟩, fun h1 h2 ⟨t1, q1⟩ k => ⟨t1, k _ q1⟩⟩
    · rw [upd_ne z] at q
      refine (I.hok b v q).stay (fun c w' _ q' => kp c w' q') (fun c q' => ?_) fun c xs q' => ?_
      · rw [upd_ne (ne_of_none q' ux)]
        exact q'
      · rw [upd_ne (ne_of_none q' ux)]
        exact q'
  exact I.un (t' := s.toks) un hok
/-- C(e, ..) of a class with an __init__ of its own -/
theorem run_excI {X : Cx} {x : Str} {C C0 fI : Addr} {fd : FuncData} {ps : List Str} {sp : Sp} {j : Nat} {pins : List (Addr × Obj)} {σ : L2.St} {H : Hp} {s : Shared} {Q : VK} {us : List Value} {vs : List V} (XI : XIni X.K X.mg x C C0 fI) (F : FnOk X.prog X.w X.K X.mg X.base (CXe X.prog X.w) j fI fd ps sp)
    (hr : Room (j + 1) X.A) (hb : Binds X.K fd ps []) (I : Inv X pins σ H s) (r : Vals vs us) (hz : vs.length ≤ 1000) (h : ∀ y, H y = none → sp (.ref y :: vs) (upd H y (ExcN y C none)) (fun v H2 => v = .non ∧ Q (.ref y) H2) E0) :
    wpAny (model X.prog X.w) X.A (call (.ref C) us) (fun u s' => EP X pins σ Q u s' ∧ ∃ y, u = .ref y ∧ s.heap.get? y = none) X.xe s := by
  obtain ⟨nm, qn, NN, bs, hd, sn, sub, ab, col, dd, k0, k1, k2, k3, k5, lkC⟩ := XI.lk
  obtain ⟨bm, N0, nm0, qn0, bs0, hd0, sn0, sub0, ab0, col0, dd0, j0, j1, j2, j3, j5, mN0, hC0, hN0, noI, tl, _⟩ := exc_cls I.kIn XI.base
  have FB := PySem.F.excBase_ValueError
  have TL : OwnTail s.heap [.type "ValueError", .type "Exception", .type "BaseException", .type "object"] (.ref C0 :: [.type "ValueError", .type "Exception", .type "BaseException", .type "object"]) := .own hC0 hN0 noI .base
  obtain ⟨cI, dI, daI, slI, lkI, ecI⟩ := XI.fn
  have gC := I.kIn _ _ lkC
  have gI := I.kIn _ _ lkI
  have LI := PySem.W.looks_findIn (M := model X.prog X.w) I.kIn XI.ini
  obtain ⟨hp, gg, d1, tk, os1⟩ := s
  refine make_exc2 FB TL gC LI gI ecI (fun h' y hm => ?_) (by rw [← r.length]; exact Nat.le_of_lt (small1000 hz))
  obtain ⟨tt, ey, _, _⟩ := hm.there
  have I2 := inv_new I hm.new hm.keeps ey
  have uy : H y = none := hok_none I.hok hm.new
  have hq := h y uy
  have r2 : Vals (V.ref y :: vs) (Value.ref y :: us) := .cons rfl r
  have hl : ((Value.ref y :: us) ++ []).length = ps.length := by
    rw [List.append_nil, ← F.len _ _ _ _ hq]
    exact r2.length.symm
  have bd := hb _ (Value.ref y :: us) I2.kIn hl
  rw [List.append_nil] at bd
  refine wpAny_call (codeAny_mono (F.run _ X.stack _ _ ⟨Value.ref y :: us, []⟩ (Value.ref y :: us) _ _ E0 (hr.make C us []) (I2.env0.make C us []) bd r2 hq) fun rs s' hq' => ?_)
  cases rs with
  | error e => obtain ⟨_, _, _, _, _, _, _, _, _, _, _, _, _, _, _, z⟩ := hq'; exact z.elim
  | ok fl =>
    cases fl with
    | ret u =>
      obtain ⟨v, H', I3, rv, ev, q3⟩ := I2.after hq'
      subst ev
      exact ⟨rv, ⟨V.ref y, H', I3, rfl, q3⟩, y, rfl, hm.new⟩
    | next => exact False.elim hq'
    | brk => exact False.elim hq'
    | cont => exact False.elim hq'
/-- raise C(e, ..) with the promise sp of its __init__ -/
def tRaiseI (C : Addr) (sp : Sp) (E : XK) (t : TA) : TS := fun _ σ H => t σ H fun vs H1 => vs.length ≤ 1000 ∧ ∀ y, H1 y = none → sp (.ref y :: vs) (upd H1 y (ExcN y C none)) (fun v H2 => v = .non ∧ ∃ z, V.ref y = V.ref z ∧ ∃ od, H2 z = some (ExcN z C od) ∧ E (.ref C) od (del H2 z)) E0
section
variable {P : Program} {w : World} {K : PySem.W.Frag} {mg : Str → Option Value} {base : Heap} {N : List Str} {qual : Str} {scope : Scope} {f : Addr} {cd : Value} {A : Around} {outer : List Env} {s₀ : Shared} {H₀ : Hp} {EX : XK}
theorem ps_raiseI {x : Str} {C C0 fI : Addr} {fd : FuncData} {ps : List Str} {sp : Sp} {j k : Nat} {np cpos pos : Pos} {e : Expr} {es : List Expr} {t : TA} (XI : XIni K mg x C C0 fI) (F : FnOk P w K mg base (CXe P w) j fI fd ps sp) (hb : Binds K fd ps [])
    (hr : Room k (cxOf (CXe P w) P w K mg base N qual scope f cd A outer s₀ H₀ EX).A)
    (hg : Gl (cxOf (CXe P w) P w K mg base N qual scope f cd A outer s₀ H₀ EX) x) (ha : PA (cxOf (CXe P w) P w K mg base N qual scope f cd A outer s₀ H₀ EX) (e :: es) t) (hj : j + 1 ≤ k := by decide)
    (hdb : (x == ("__debug__" : Str)) = false := by decide) (he : starEach (e :: es) (cxOf (CXe P w) P w K mg base N qual scope f cd A outer s₀ H₀ EX).env = (false, eval e (cxOf (CXe P w) P w K mg base N qual scope f cd A outer s₀ H₀ EX).env) :: starEach es (cxOf (CXe P w) P w K mg base N qual scope f cd A outer s₀ H₀ EX).env := by rfl)
    (hpl : (backTo cpos (starEach es (cxOf (CXe P w) P w K mg base N qual scope f cd A outer s₀ H₀ EX).env)).any (·.1) = false := by rfl) :
    PS (cxOf (CXe P w) P w K mg base N qual scope f cd A outer s₀ H₀ EX) (.Raise (some (.Call (.Name x np) (e :: es) [] cpos)) none pos) (tRaiseI C sp EX t) := by
  intro pins s σ H D I h
  obtain ⟨nm, qn, NN, bs, hd, sn, sub, ab, col, dd, k0, k1, k2, k3, k5, lkC⟩ := id XI.lk
  have hB : (Value.ref C0 :: [.type "ValueError", .type "Exception", .type "BaseException", .type "object"] : List Value).contains (.type "BaseException") = true := by
    rw [List.contains_cons, PySem.F.excBase_ValueError.hasBase, Bool.or_true]
  rw [arm_exec_Raise]
  refine wpAny_bind (wpAny_standAt (raise_exc (C := C) (nm := nm) (q := qn) (N := NN) (bs := bs) (bm := .ref C0 :: [.type "ValueError", .type "Exception", .type "BaseException", .type "object"]) (hdct := hd) (sn := sn) (sub := sub) (ab := ab) (col := col) (dd := dd) (k0 := k0) (k1 := k1) (k2 := k2) (k3 := k3) (k5 := k5) (newId := "ValueError.__new__") hB hr.hd ?_))
  refine wpAny_bind (wpAny_mono ?_ (fun v s1 hv => wpAny_bind (wpAny_standAt (wpAny_pure hv))) (fun _ _ z => z))
  refine wpAny_Call_Name_kw (ld_glob I hg XI.bound ?_ hdb)
  refine PySem.W.callWith_K (h₀ := base) I.ok.mod.kin XI.keep (thn (ha cpos pins s σ H _ I h) fun us s1 ⟨vs, H1, I1, r, hz, q⟩ => ⟨I1.kIn, ?_⟩) he hpl
  refine thn (run_excI XI F (hr.mono hj) hb I1 r hz (Q := fun u H2 => ∃ z, u = .ref z ∧ ∃ od, H2 z = some (ExcN z C od) ∧ EX (.ref C) od (del H2 z)) (fun y hy => q y hy)) fun u s2 ⟨⟨v, H2, I2, rv, y, ev, od, ey, qe⟩, y', eu, ny⟩ => ?_
  · subst ev
    obtain rfl : u = Value.ref y := rv
    cases eu
    obtain ⟨⟨tt, g1⟩, _⟩ := I2.hok y _ ey
    refine ⟨y, od, tt, rfl, I2.kIn _ _ lkC, g1, ?_⟩
    exact xe_made (inv_del I2 ey) ⟨_, _, g1, rfl, rfl, rfl, rfl⟩ (un_new (show Un (frs outer) [] H₀ H1 s₀.heap s1.heap from I1.base) ny) del_same qe
end
end Stow

set_option Elab.async false
set_option linter.all false
set_option maxRecDepth 100000
set_option maxHeartbeats 4000000
namespace Stow
open PySem L2 PyProof.Rows
/-! ### raising classes with an __init__, by their names; readings of tries and raises -/
structure DefI (P : Program) (w : World) (K : PySem.W.Frag) (mg : Str → Option Value) (base : Heap) (x : Str) (C C0 : Addr) (j : Nat) (ps : List Str) (sp : Sp) : Prop where
  ex : ∃ (fI : Addr) (fd : FuncData), XIni K mg x C C0 fI ∧ FnOk P w K mg base (CXe P w) j fI fd ps sp ∧ Binds K fd ps []
/-- what the __init__ that keeps one field promises -/
def spInit (C : Addr) (f : Str) : Sp := fun vs H Q _ => ∃ (y : Addr) (v : V), vs = [.ref y, v] ∧ H y = some (ExcN y C none) ∧ ∀ dx, H dx = none → Q .non (upd (upd H dx (.xd [(f, v)])) y (ExcN y C (some dx)))
section
variable {P : Program} {w : World} {K : PySem.W.Frag} {mg : Str → Option Value} {base : Heap} {N : List Str} {qual : Str} {scope : Scope} {f : Addr} {cd : Value} {A : Around} {outer : List Env} {s₀ : Shared} {H₀ : Hp} {EX : XK}
theorem ps_raiseD {x : Str} {C C0 : Addr} {ps : List Str} {sp : Sp} {j k : Nat} {np cpos pos : Pos} {e : Expr} {es : List Expr} {t : TA} (D : DefI P w K mg base x C C0 j ps sp)
    (hr : Room k (cxOf (CXe P w) P w K mg base N qual scope f cd A outer s₀ H₀ EX).A)
    (hg : Gl (cxOf (CXe P w) P w K mg base N qual scope f cd A outer s₀ H₀ EX) x) (ha : PA (cxOf (CXe P w) P w K mg base N qual scope f cd A outer s₀ H₀ EX) (e :: es) t) (hj : j + 1 ≤ k := by decide)
    (hdb : (x == ("__debug__" : Str)) = false := by decide) (he : starEach (e :: es) (cxOf (CXe P w) P w K mg base N qual scope f cd A outer s₀ H₀ EX).env = (false, eval e (cxOf (CXe P w) P w K mg base N qual scope f cd A outer s₀ H₀ EX).env) :: starEach es (cxOf (CXe P w) P w K mg base N qual scope f cd A outer s₀ H₀ EX).env := by rfl)
    (hpl : (backTo cpos (starEach es (cxOf (CXe P w) P w K mg base N qual scope f cd A outer s₀ H₀ EX).env)).any (·.1) = false := by rfl) :
    PS (cxOf (CXe P w) P w K mg base N qual scope f cd A outer s₀ H₀ EX) (.Raise (some (.Call (.Name x np) (e :: es) [] cpos)) none pos) (tRaiseI C sp EX t) := by
  obtain ⟨fI, fd, XI, F, hb⟩ := D.ex
  exact ps_raiseI XI F hb hr hg ha hj hdb he hpl
/-- f(e, ..) of a def whose exceptions leave this def too -/
theorem pe_defx {x : Str} {j k : Nat} {ps : List Str} {sp : Sp} {p pos : Pos} {e : Expr} {es : List Expr} {t : TA} (D : Defx P w K mg base x j ps sp) (hr : Room k (cxOf (CXe P w) P w K mg base N qual scope f cd A outer s₀ H₀ EX).A)
    (hg : Gl (cxOf (CXe P w) P w K mg base N qual scope f cd A outer s₀ H₀ EX) x) (ha : PA (cxOf (CXe P w) P w K mg base N qual scope f cd A outer s₀ H₀ EX) (e :: es) t) (hk : j ≤ k := by decide)
    (hdb : (x == ("__debug__" : Str)) = false := by decide) (he : starEach (e :: es) (cxOf (CXe P w) P w K mg base N qual scope f cd A outer s₀ H₀ EX).env = (false, eval e (cxOf (CXe P w) P w K mg base N qual scope f cd A outer s₀ H₀ EX).env) :: starEach es (cxOf (CXe P w) P w K mg base N qual scope f cd A outer s₀ H₀ EX).env := by rfl)
    (hpl : (backTo pos (starEach es (cxOf (CXe P w) P w K mg base N qual scope f cd A outer s₀ H₀ EX).env)).any (·.1) = false := by rfl) :
    PE (cxOf (CXe P w) P w K mg base N qual scope f cd A outer s₀ H₀ EX) (.Call (.Name x p) (e :: es) [] pos) (tCall sp [] EX t) := by
  obtain ⟨f', fd, F, hm, kp, b⟩ := D.ex
  exact pe_call F (hr.mono hk) hg hm kp b .nil pass_x ha hdb he hpl
end
section
variable {K : PySem.W.Frag} {σ : L2.St} {H : Hp} {D : Ends}
theorem r_raise {C : Addr} {E : XK} {t : TA} (h : t σ H fun xs H1 => xs.length ≤ sizeLine ∧ E (.ref C) none H1) : tRaise C E t D σ H := h
theorem r_raiseI {C : Addr} {sp : Sp} {E : XK} {t : TA} (h : t σ H fun vs H1 => vs.length ≤ 1000 ∧ ∀ y, H1 y = none → sp (.ref y :: vs) (upd H1 y (ExcN y C none)) (fun v H2 => v = .non ∧ ∃ z, V.ref y = V.ref z ∧ ∃ od, H2 z = some (ExcN z C od) ∧ E (.ref C) od (del H2 z)) E0) :
    tRaiseI C sp E t D σ H := h
theorem r_made {C : Addr} {f : Str} {E : XK} {v : V} (q : ∀ dx, H dx = none → E (.ref C) (some dx) (upd H dx (.xd [(f, v)]))) :
    [v].length ≤ 1000 ∧ ∀ y, H y = none → spInit C f (.ref y :: [v]) (upd H y (ExcN y C none)) (fun v H2 => v = .non ∧ ∃ z, V.ref y = V.ref z ∧ ∃ od, H2 z = some (ExcN z C od) ∧ E (.ref C) od (del H2 z)) E0 := by
  refine ⟨by show 1 ≤ 1000; decide, fun y hy => ⟨y, v, rfl, upd_same, fun dx hd => ⟨rfl, y, rfl, some dx, upd_same, ?_⟩⟩⟩
  have ne : dx ≠ y := fun z => by rw [z, upd_same] at hd; cases hd
  have hd' : H dx = none := by rw [upd_ne ne] at hd; exact hd
  have e : del (upd (upd (upd H y (ExcN y C none)) dx (.xd [(f, v)])) y (ExcN y C (some dx))) y = upd H dx (.xd [(f, v)]) := by
    funext b
    by_cases hb : b = y
    · subst hb
      rw [del_same, upd_ne (Ne.symm ne)]
      exact hy.symm
    · rw [del_ne hb, upd_ne hb]
      by_cases hbd : b = dx
      · subst hbd
        rw [upd_same, upd_same]
      · rw [upd_ne hbd, upd_ne hb, upd_ne hbd]
  rw [e]
  exact q dx hd'
theorem r_tryAs {C0 : Addr} {i : Nat} {ta : TA} {sp : Sp} {ts : Addr → TS} (h : ta σ H fun vs H1 => sp vs H1 (fun _ H2 => D.nx σ H2) fun c od H2 => ∃ C, c = .ref C ∧ Fit K C C0 ∧
    ∀ x, H2 x = none → ts x { D with nx := fun σ' H' => D.nx (σ'.set i none) H', bk := fun σ' H' => D.bk (σ'.set i none) H', ct := fun σ' H' => D.ct (σ'.set i none) H' } (σ.set i (some (.ref x))) (upd H2 x (ExcO x C od))) : tTryAs K C0 i ta sp ts D σ H := by
  unfold tTryAs
  simp only [List.append_nil]
  exact h
theorem r_try {C0 : Addr} {ta : TA} {sp : Sp} {ts : Addr → TS} (h : ta σ H fun vs H1 => sp vs H1 (fun _ H2 => D.nx σ H2) fun c od H2 => ∃ C, c = .ref C ∧ Fit K C C0 ∧ ∀ x, H2 x = none → ts x D σ (upd H2 x (ExcO x C od))) : tTry K C0 ta sp ts D σ H := by
  unfold tTry
  simp only [List.append_nil]
  exact h
theorem r_fldX {f : Str} {ta : TE} {Q : VK} (h : ta σ H fun x H1 => ∃ a C dx fs v, x = .ref a ∧ H1 a = some (ExcO a C (some dx)) ∧ H1 dx = some (.xd fs) ∧ XK0 K C ∧ XSet K C f ∧ fs.lookup f = some v ∧ Q v H1) : tFldX K ta f σ H Q := h
theorem r_isiX {x C C' : Addr} {od : Option Addr} {b : Bool} {P : Bool → Prop} (h : H x = some (ExcO x C od)) (z : XK0 K C) (e : PySem.W.kitOne K (.ref C) (.ref C') = some b) (q : P b) :
    ∃ x' C0 od' v b', [V.ref x, V.ref C'] = [V.ref x', v] ∧ H x' = some (ExcO x' C0 od') ∧ XK0 K C0 ∧ clsV v ≠ .none ∧ PySem.W.kitOne K (.ref C0) (clsV v) = some b' ∧ P b' := ⟨x, C, od, .ref C', b, rfl, h, z, (fun z => nomatch z), e, q⟩
end
end Stow

namespace Stow
open PySem L2 PyProof.Rows
/-! ### exceptions that are made and not raised -/
def tMakeX (C : Addr) (t : TA) : TE := fun σ H Q => t σ H fun xs H1 => xs.length ≤ sizeLine ∧ ∀ y, H1 y = none → Q (.ref y) (upd H1 y (ExcN y C none))
def tMakeI (C : Addr) (sp : Sp) (t : TA) : TE := fun σ H Q => t σ H fun vs H1 => vs.length ≤ 1000 ∧ ∀ y, H1 y = none → sp (.ref y :: vs) (upd H1 y (ExcN y C none)) (fun v H2 => v = .non ∧ Q (.ref y) H2) E0
def tFldN (K : PySem.W.Frag) (ta : TE) (f : Str) : TE := fun σ H Q => ta σ H fun x H1 => ∃ a C dx fs v, x = .ref a ∧ H1 a = some (ExcN a C (some dx)) ∧ H1 dx = some (.xd fs) ∧ XK0 K C ∧ XSet K C f ∧ fs.lookup f = some v ∧ Q v H1
section
variable {X : Cx} {x : Str} {C : Addr} {p pos : Pos} {e : Expr} {es : List Expr} {t : TA}
end
section
variable {K : PySem.W.Frag} {σ : L2.St} {H : Hp} {Q : VK}
theorem r_makeX {C : Addr} {t : TA} (h : t σ H fun xs H1 => xs.length ≤ sizeLine ∧ ∀ y, H1 y = none → Q (.ref y) (upd H1 y (ExcN y C none))) : tMakeX C t σ H Q := h
theorem r_makeI {C : Addr} {sp : Sp} {t : TA} (h : t σ H fun vs H1 => vs.length ≤ 1000 ∧ ∀ y, H1 y = none → sp (.ref y :: vs) (upd H1 y (ExcN y C none)) (fun v H2 => v = .non ∧ Q (.ref y) H2) E0) : tMakeI C sp t σ H Q := h
theorem r_fldN {f : Str} {ta : TE} (h : ta σ H fun x H1 => ∃ a C dx fs v, x = .ref a ∧ H1 a = some (ExcN a C (some dx)) ∧ H1 dx = some (.xd fs) ∧ XK0 K C ∧ XSet K C f ∧ fs.lookup f = some v ∧ Q v H1) : tFldN K ta f σ H Q := h
theorem r_isiN {x C : Addr} {v : V} {od : Option Addr} {b : Bool} {P : Bool → Prop} (h : H x = some (ExcN x C od)) (z : XK0 K C) (n : clsV v ≠ .none) (e : PySem.W.kitOne K (.ref C) (clsV v) = some b) (q : P b) :
    ∃ x' C0 od' v' b', [V.ref x, v] = [V.ref x', v'] ∧ H x' = some (ExcN x' C0 od') ∧ XK0 K C0 ∧ clsV v' ≠ .none ∧ PySem.W.kitOne K (.ref C0) (clsV v') = some b' ∧ P b' := ⟨x, C, od, v, b, rfl, h, z, n, e, q⟩
end
end Stow
namespace Stow
open PySem L2 PyProof.Rows
/-! ### a text's slice -/
def rSlS : V → Option Int → Option Int → Hp → VK → Prop := fun x lo hi H Q => ∃ z, x = .str z ∧ z.length ≤ sizeLine ∧ ∀ y : Str, Q (.str y) H
theorem r_slS {z : Str} {lo hi : Option Int} {H : Hp} {Q : VK} (hz : z.length ≤ sizeLine) (q : ∀ y : Str, Q (.str y) H) : rSlS (.str z) lo hi H Q := ⟨z, rfl, hz, q⟩
end Stow

namespace Stow
open PySem L2 PyProof.Rows
/-! ### list comprehensions without free names -/
section
variable {X : Cx}
/-- the reading: D, the list that comes; W, the invariant by the turn, a measure, what D holds -/
def tComp (wi : TI) (tt : TT) (te : TE) : TE := fun σ H Q => wi σ H fun J H1 => ∀ D, H1 D = none → ∃ W : Nat → Nat → List V → Hp → Prop, (∃ m, W 0 m [] (upd H1 D (.lst []))) ∧ ∀ i m ys H2, W i m ys H2 →
  (J.stop i H2 ∧ Q (.ref D) H2) ∨ (J.go i H2 ∧ ∀ x H3, J.yld i H2 x H3 → tt [some x] H3 fun b H4 => if b = true then te [some x] H4 fun y H5 => H5 D = some (.lst ys) ∧ ys.length < sizeLine ∧ ∃ m', m' < m ∧ W (i + 1) m' (ys ++ [y]) (upd H5 D (.lst (ys ++ [y]))) else ∃ m', m' < m ∧ W (i + 1) m' ys H4)
/-- what the block's tests are -/
def PTs (X : Cx) (ifs : List Expr) (t : TT) : Prop := ∀ (pins : List (Addr × Obj)) (s : Shared) (σ : L2.St) (H : Hp) (Q : Bool → Hp → Prop), Inv X pins σ H s → t σ H Q →
  wpAny (model X.prog X.w) X.A (forIn ifs true fun c r => if r = true then do let ok ← isTrue c X.env (eval c X.env); pure (ForInStep.yield ok) else pure (ForInStep.yield r)) (TP X pins σ Q) X.xe s
theorem pts_nil : PTs X [] (fun _ H Q => Q true H) := fun pins s σ H Q I q => wpAny_tests_nil ⟨H, I, q⟩
theorem pts_one {c : Expr} {t : TT} (h : PT X c t) : PTs X [c] t := fun pins s σ H Q I q => wpAny_tests_one (h pins s σ H Q I q)
end
end Stow

namespace Stow
open PySem L2 PyProof.Rows
/-! ### the readings, step by step -/
section
variable {K : PySem.W.Frag} {σ : L2.St} {H : Hp} {Q : VK} {D : Ends}
theorem r_next (h : D.nx σ H) : tNext D σ H := h
theorem r_seq {t u : TS} (h : t { D with nx := u D } σ H) : tSeq t u D σ H := h
theorem r_nx {f : L2.St → Hp → Prop} {r : VK} {b c : L2.St → Hp → Prop} (h : f σ H) : Ends.nx ⟨f, r, b, c⟩ σ H := h
theorem r_bk {f : L2.St → Hp → Prop} {r : VK} {b c : L2.St → Hp → Prop} (h : b σ H) : Ends.bk ⟨f, r, b, c⟩ σ H := h
theorem r_ct {f : L2.St → Hp → Prop} {r : VK} {b c : L2.St → Hp → Prop} (h : c σ H) : Ends.ct ⟨f, r, b, c⟩ σ H := h
theorem r_rt {f : L2.St → Hp → Prop} {r : VK} {b c : L2.St → Hp → Prop} {v : V} (h : r v H) : Ends.rt ⟨f, r, b, c⟩ v H := h
theorem r_break (h : D.bk σ H) : tBreak D σ H := h
theorem r_cont (h : D.ct σ H) : tCont D σ H := h
theorem r_drop {te : TE} (h : te σ H fun _ H1 => D.nx σ H1) : tDrop te D σ H := h
theorem r_ret {te : TE} (h : te σ H D.rt) : tRet te D σ H := h
theorem r_retN (h : D.rt .non H) : tRetN D σ H := h
theorem r_ifS {c : TT} {t u : TS} (h : c σ H fun b H1 => if b = true then t D σ H1 else u D σ H1) : tIfS c t u D σ H := h
theorem r_asg {te : TE} {g : TG} (h : te σ H fun x H1 => g x σ H1 D.nx) : tAsg te g D σ H := h
theorem r_gname {i : Nat} {v : V} {R : L2.St → Hp → Prop} (h : R (σ.set i (some v)) H) : gName i v σ H R := h
theorem r_gsub {to ti : TE} {t : TSet} {v : V} {R : L2.St → Hp → Prop} (h : to σ H fun o H1 => ti σ H1 fun i H2 => t o i v H2 fun H3 => R σ H3) : gSub to ti t v σ H R := h
theorem r_var {i : Nat} {v : V} (e : σ[i]? = some (some v)) (h : Q v H) : tVar i σ H Q := ⟨v, e, h⟩
theorem r_c {v : V} (h : Q v H) : tC v σ H Q := h
theorem r_op {r : R2} {ta tb : TE} (h : ta σ H fun x H1 => tb σ H1 fun y H2 => r x y H2 Q) : tOp r ta tb σ H Q := h
theorem r_un {r : V → Hp → VK → Prop} {ta : TE} (h : ta σ H fun x H1 => r x H1 Q) : tUn r ta σ H Q := h
theorem r_rI0 {g : Int → Int → V} {i j : Int} (h : Q (g i j) H) : rI0 g (.int i) (.int j) H Q := ⟨i, j, rfl, rfl, h⟩
theorem r_rI {C : Int → Int → Prop} {g : Int → Int → V} {i j : Int} (c : C i j) (h : Q (g i j) H) : rI C g (.int i) (.int j) H Q := ⟨i, j, rfl, rfl, c, h⟩
theorem r_rU {g : Int → V} {i : Int} (h : Q (g i) H) : rU g (.int i) H Q := ⟨i, rfl, h⟩
theorem decV {i j : Int} : decide (V.int i = V.int j) = decide (i = j) := by rw [dec_int]; exact Bool.beq_eq_decide_eq i j
theorem decB {i j : Bool} : decide (V.bl i = V.bl j) = decide (i = j) := by rw [dec_bl]; exact Bool.beq_eq_decide_eq i j
theorem r_eqI {i j : Int} (h : Q (.bl (decide (i = j))) H) : rEq (.int i) (.int j) H Q := ⟨rfl, by rw [decV]; exact h⟩
theorem r_neI {i j : Int} (h : Q (.bl (!decide (i = j))) H) : rNe (.int i) (.int j) H Q := ⟨rfl, by rw [decV]; exact h⟩
theorem r_eqB {i j : Bool} (h : Q (.bl (decide (i = j))) H) : rEq (.bl i) (.bl j) H Q := ⟨rfl, by rw [decB]; exact h⟩
theorem r_neB {i j : Bool} (h : Q (.bl (!decide (i = j))) H) : rNe (.bl i) (.bl j) H Q := ⟨rfl, by rw [decB]; exact h⟩
theorem r_isN {P : Prop} (h : P) : V.non = V.non ∧ P := ⟨rfl, h⟩
theorem r_bl {b : Bool} {P : Bool → Prop} (h : P b) : ∃ k, V.bl b = V.bl k ∧ P k := ⟨b, rfl, h⟩
theorem r_int {i : Int} {P : Int → Prop} (h : P i) : ∃ k, V.int i = V.int k ∧ P k := ⟨i, rfl, h⟩
theorem r_test {t : TE} {R : Bool → Hp → Prop} (h : t σ H fun x H' => ∃ k, x = .bl k ∧ R k H') : tTest t σ H R := h
theorem r_tB {t : TE} {R : Bool → Hp → Prop} (h : t σ H fun x H' => ∃ k, x = .bl k ∧ R k H') : tB t σ H R := h
theorem r_and {t u : TT} {R : Bool → Hp → Prop} (h : t σ H fun c H1 => if c = true then u σ H1 R else R false H1) : tAnd t u σ H R := h
theorem r_or {t u : TT} {R : Bool → Hp → Prop} (h : t σ H fun c H1 => if c = true then R true H1 else u σ H1 R) : tOr t u σ H R := h
theorem r_not {t : TT} {R : Bool → Hp → Prop} (h : t σ H fun c H1 => R (!c) H1) : tNot t σ H R := h
theorem r_andV {ta tb : TE} (h : ta σ H fun x H1 => ∃ c, x = .bl c ∧ if c = true then tb σ H1 Q else Q (.bl false) H1) : tAndV ta tb σ H Q := h
theorem r_orV {ta tb : TE} (h : ta σ H fun x H1 => ∃ c, x = .bl c ∧ if c = true then Q (.bl true) H1 else tb σ H1 Q) : tOrV ta tb σ H Q := h
theorem r_notV {ta : TE} (h : ta σ H fun x H1 => ∃ c, x = .bl c ∧ Q (.bl (!c)) H1) : tNotV ta σ H Q := h
theorem r_ifE {t : TT} {ta tb : TE} (h : t σ H fun c H1 => if c = true then ta σ H1 Q else tb σ H1 Q) : tIf t ta tb σ H Q := h
theorem r_cons {ta : TE} {tr : TA} {R : List V → Hp → Prop} (h : ta σ H fun x H1 => tr σ H1 fun xs H2 => R (x :: xs) H2) : tCons ta tr σ H R := h
theorem r_nil {R : List V → Hp → Prop} (h : R [] H) : tNil σ H R := h
theorem r_tup {t : TA} (h : t σ H fun xs H1 => xs.length ≤ sizeLine ∧ ∀ p, H1 p = none → Q (.ref p) (upd H1 p (.tup xs))) : tTup t σ H Q := h
theorem r_lst {t : TA} (h : t σ H fun xs H1 => xs.length ≤ sizeLine ∧ ∀ p, H1 p = none → Q (.ref p) (upd H1 p (.lst xs))) : tLst t σ H Q := h
theorem r_call {sp : Sp} {E : XK} {t : TA} (h : t σ H fun vs H1 => sp vs H1 Q E) : tCall sp [] E t σ H Q := by
  have e : (fun (vs : List V) H1 => sp (vs ++ []) H1 Q E) = fun vs H1 => sp vs H1 Q E := by funext vs H1; rw [List.append_nil]
  show t σ H fun vs H1 => sp (vs ++ []) H1 Q E
  rw [e]
  exact h
theorem r_cb {r : List V → Hp → VK → Prop} {t : TA} (h : t σ H fun vs H1 => r vs H1 Q) : tCB r t σ H Q := h
theorem r_sl {r : V → Option Int → Option Int → Hp → VK → Prop} {te : TE} {tl th : TO} (h : te σ H fun x H1 => tl σ H1 fun l H2 => th σ H2 fun u H3 => r x l u H3 Q) : tSl r te tl th σ H Q := h
theorem r_nopart {R : Option Int → Hp → Prop} (h : R none H) : tNoPart σ H R := h
theorem r_part {t : TE} {R : Option Int → Hp → Prop} (h : t σ H fun x H1 => ∃ i, x = .int i ∧ R (some i) H1) : tPart t σ H R := h
theorem r_bm {T : String} {r : V → List V → Hp → VK → Prop} {to : TE} {t : TA} (h : to σ H fun x H1 => tyV K T x H1 ∧ t σ H1 fun xs H2 => r x xs H2 Q) : tBM K T r to t σ H Q := h
theorem r_bm0 {T : String} {r : V → List V → Hp → VK → Prop} {to : TE} (h : to σ H fun x H1 => tyV K T x H1 ∧ r x [] H1 Q) : tBM0 K T r to σ H Q := h
theorem r_tyL {p : Addr} {xs : List V} {P : Prop} (h : H p = some (.lst xs)) (q : P) : tyV K "list" (.ref p) H ∧ P := ⟨.inl ⟨rfl, xs, SqL.of h⟩, q⟩
theorem r_append {l : Addr} {xs : List V} {y : V} (h : H l = some (.lst xs)) (hz : xs.length < sizeLine) (q : Q .non (upd H l (.lst (xs ++ [y])))) : rAppend (.ref l) [y] H Q := ⟨l, xs, y, rfl, rfl, h, hz, q⟩
theorem r_appendI {l : Addr} {ns : List Int} {y : Int} (h : H l = some (.lst (ns.map V.int))) (hz : ns.length < sizeLine) (q : Q .non (upd H l (.lst ((ns ++ [y]).map V.int)))) : rAppend (.ref l) [.int y] H Q := by
  rw [List.map_append] at q
  exact ⟨l, _, .int y, rfl, rfl, h, by rw [List.length_map]; exact hz, q⟩
theorem r_cat {l b : Addr} {xs zs : List V} (h : H l = some (.lst xs)) (h2 : H b = some (.lst zs)) (hz : xs.length + zs.length ≤ sizeLine) (q : ∀ p, H p = none → Q (.ref p) (upd H p (.lst (xs ++ zs)))) : rCat (.ref l) (.ref b) H Q := ⟨l, b, xs, zs, rfl, rfl, h, h2, hz, q⟩
theorem r_ixL {p : Addr} {xs : List V} {i : Int} {v : V} (h : SqL K H p xs) (e : atI xs i = some v) (q : Q v H) : rIxL K (.ref p) (.int i) H Q := ⟨p, xs, i, v, rfl, rfl, h, e, q⟩
theorem r_ixT {p : Addr} {xs : List V} {i : Int} {v : V} (h : H p = some (.tup xs)) (e : atI xs i = some v) (q : Q v H) : rIxT K (.ref p) (.int i) H Q := ⟨p, xs, i, v, rfl, rfl, SqT.of h, e, q⟩
theorem r_ixI {p : Addr} {ns : List Int} {k : Int} (h : SqL K H p (ns.map V.int)) (h0 : 0 ≤ k) (h1 : k < ns.length) (q : Q (.int (ns.getD k.toNat 0)) H) : rIxL K (.ref p) (.int k) H Q := ⟨p, _, k, _, rfl, rfl, h, atI_map ns k h0 h1, q⟩
theorem ixN_at {n : Nat} {k : Int} (h0 : 0 ≤ k) (h : k < n) : ixN n k = some k.toNat := by
  unfold ixN
  rw [if_pos h0, if_pos h]
theorem r_setI {p : Addr} {ns : List Int} {k x : Int} {R : Hp → Prop} (h : H p = some (.lst (ns.map V.int))) (h0 : 0 ≤ k) (h1 : k < ns.length) (q : R (upd H p (.lst ((ns.set k.toNat x).map V.int)))) : rSetL (.ref p) (.int k) (.int x) H R := by
  refine ⟨p, _, k, k.toNat, rfl, rfl, h, ixN_at h0 (by rw [List.length_map]; exact h1), ?_⟩
  rw [List.map_set] at q
  exact q
theorem r_sll {a : Addr} {xs : List V} {lo hi : Option Int} (h : SqL K H a xs) (q : ∀ p, H p = none → Q (.ref p) (upd H p (.lst (cutV xs lo hi)))) : rSlL K (.ref a) lo hi H Q := ⟨a, xs, rfl, h, q⟩
theorem r_lenI {p : Addr} {ns : List Int} {P : List V → Prop} (h : SqL K H p (ns.map V.int)) (q : P (ns.map V.int)) : ∃ p' ys, [V.ref p] = [V.ref p'] ∧ (SqL K H p' ys ∨ SqT K H p' ys) ∧ P ys := ⟨p, _, rfl, .inl h, q⟩
theorem r_lenL {p : Addr} {xs : List V} {P : List V → Prop} (h : H p = some (.lst xs)) (q : P xs) : ∃ p' ys, [V.ref p] = [V.ref p'] ∧ (SqL K H p' ys ∨ SqT K H p' ys) ∧ P ys := ⟨p, _, rfl, .inl (SqL.of h), q⟩
theorem r_lenT {p : Addr} {xs : List V} {P : List V → Prop} (h : H p = some (.tup xs)) (q : P xs) : ∃ p' ys, [V.ref p] = [V.ref p'] ∧ (SqL K H p' ys ∨ SqT K H p' ys) ∧ P ys := ⟨p, _, rfl, .inr (SqT.of h), q⟩
theorem r_listI {p : Addr} {xs : List V} {P : List V → Prop} (h : SqL K H p xs) (q : P xs) : ∃ p' ys, [V.ref p] = [V.ref p'] ∧ (SqL K H p' ys ∨ SqT K H p' ys) ∧ P ys := ⟨p, xs, rfl, .inl h, q⟩
theorem r_isi {x : V} {n : String} {t : Value} {b : Bool} {P : Bool → Prop} (ty : TyOf K H x t) (e : PySem.W.kitOne K t (.type n) = some b) (q : P b) : ∃ x' n' t' b', [x, V.ty n] = [x', V.ty n'] ∧ TyOf K H x' t' ∧ PySem.W.kitOne K t' (.type n') = some b' ∧ P b' := ⟨x, n, t, b, rfl, ty, e, q⟩
theorem r_intB {k : Bool} {P1 : Int → Prop} {P2 : Bool → Prop} (q : P2 k) : (∃ i, [V.bl k] = [V.int i] ∧ P1 i) ∨ ∃ k', [V.bl k] = [V.bl k'] ∧ P2 k' := .inr ⟨k, rfl, q⟩
theorem r_intI {k : Int} {P1 : Int → Prop} {P2 : Bool → Prop} (q : P1 k) : (∃ i, [V.int k] = [V.int i] ∧ P1 i) ∨ ∃ k', [V.int k] = [V.bl k'] ∧ P2 k' := .inl ⟨k, rfl, q⟩
theorem r_max {i j : Int} {P : Int → Int → Prop} (q : P i j) : ∃ i' j', [V.int i, V.int j] = [V.int i', V.int j'] ∧ P i' j' := ⟨i, j, rfl, q⟩
theorem r_new {xs : List V} {P : Prop} (h : xs.length ≤ 1000) (q : P) : xs.length ≤ sizeLine ∧ P := ⟨Nat.le_of_lt (small1000 h), q⟩
theorem r_truB {b : Bool} {P : Bool → Prop} (q : P b) : ∃ k, TruV K (.bl b) H k ∧ P k := ⟨b, rfl, q⟩
theorem r_truL {p : Addr} {xs : List V} {P : Bool → Prop} (h : SqL K H p xs) (q : P (!xs.isEmpty)) : ∃ k, TruV K (.ref p) H k ∧ P k := ⟨_, .inl ⟨xs, h, rfl⟩, q⟩
theorem r_for {wi : TI} {g : TG} {tb : TS} (h : wi σ H fun J H1 => ∃ W : Nat → Nat → L2.St → Hp → Prop, (∃ m, W 0 m σ H1) ∧ ∀ i m σ H, W i m σ H →
    (J.stop i H ∧ D.nx σ H) ∨ (J.go i H ∧ ∃ N : L2.St → Hp → Prop, (∀ σ' H', N σ' H' → ∃ m', m' < m ∧ W (i + 1) m' σ' H') ∧ ∀ x H', J.yld i H x H' → g x σ H' fun σ2 H2 => tb { D with nx := N, ct := N, bk := D.nx } σ2 H2)) : tFor wi g tb D σ H := h
theorem r_iL {tl : TE} {R : It → Hp → Prop} (h : tl σ H fun x H1 => ∃ a, x = .ref a ∧ (∃ xs, SqL K H1 a xs) ∧ R (Itl K a) H1) : iList K tl σ H R := h
theorem r_iR1 {ta : TA} {R : It → Hp → Prop} (h : ta σ H fun vs H1 => ∃ j : Int, vs = [.int j] ∧ -(2 ^ 62) ≤ j ∧ j < 2 ^ 62 ∧ R (Itr 0 j.toNat) H1) : iRng1 ta σ H R := h
theorem r_iR2 {ta : TA} {R : It → Hp → Prop} (h : ta σ H fun vs H1 => ∃ i j : Int, vs = [.int i, .int j] ∧ (-(2 ^ 62) ≤ i ∧ i < 2 ^ 62 ∧ -(2 ^ 62) ≤ j ∧ j < 2 ^ 62) ∧ R (Itr i (j - i).toNat) H1) : iRng2 ta σ H R := h
def CompG (J : It) (tt : TT) (te : TE) (Q : VK) (H1 : Hp) : Prop := ∀ D, H1 D = none → ∃ W : Nat → Nat → List V → Hp → Prop, (∃ m, W 0 m [] (upd H1 D (.lst []))) ∧ ∀ i m ys H2, W i m ys H2 →
    (J.stop i H2 ∧ Q (.ref D) H2) ∨ (J.go i H2 ∧ ∀ x H3, J.yld i H2 x H3 → tt [some x] H3 fun b H4 => if b = true then te [some x] H4 fun y H5 => H5 D = some (.lst ys) ∧ ys.length < sizeLine ∧ ∃ m', m' < m ∧ W (i + 1) m' (ys ++ [y]) (upd H5 D (.lst (ys ++ [y]))) else ∃ m', m' < m ∧ W (i + 1) m' ys H4)
theorem r_comp {wi : TI} {tt : TT} {te : TE} (h : wi σ H fun J H1 => CompG J tt te Q H1) : tComp wi tt te σ H Q := h
theorem r_seqM {t u : TS} {M : L2.St → Hp → Prop} (hM : ∀ σ' H', M σ' H' → u D σ' H') (h : ∀ nx : L2.St → Hp → Prop, (∀ σ' H', M σ' H' → nx σ' H') → t { D with nx := nx } σ H) : tSeq t u D σ H := h (u D) hM
theorem r_isIf {c : TT} {t u v : TS} (h : tSeq (tIfS c t u) v D σ H) : tSeq (tIfS c t u) v D σ H := h
end
/-! ### tests -/
theorem r_ifN {b : Bool} {A B : Prop} (h : if b = true then B else A) : if (!b) = true then A else B := by cases b <;> exact h
theorem r_ifd {c A B : Prop} [Decidable c] (h1 : c → A) (h2 : ¬ c → B) : if decide c = true then A else B := by
  by_cases h : c
  · rw [decide_eq_true h]
    exact iteT (h1 h)
  · rw [decide_eq_false h]
    exact iteF (h2 h)
theorem r_ifdT {c A B : Prop} [Decidable c] (h : c) (h1 : A) : if decide c = true then A else B := r_ifd (fun _ => h1) fun z => absurd h z
theorem r_ifdF {c A B : Prop} [Decidable c] (h : ¬ c) (h1 : B) : if decide c = true then A else B := r_ifd (fun z => absurd z h) fun _ => h1
theorem r_ifb {b : Bool} {A B : Prop} (h1 : b = true → A) (h2 : b = false → B) : if b = true then A else B := by
  cases b with
  | true => exact iteT (h1 rfl)
  | false => exact iteF (h2 rfl)
/-! ### what stands in the heap -/
theorem look_put {H : Hp} {p d : Addr} {o v : HO} (hp : H p = none) (h : H d = some v) : upd H p o d = some v := (upd_ne (ne_of_none h hp)).trans h
theorem look_ne {H : Hp} {p d : Addr} {o v : HO} (hp : d ≠ p) (h : H d = some v) : upd H p o d = some v := (upd_ne hp).trans h
theorem look_tup {H : Hp} {p d : Addr} {o : HO} {xs ys : List V} (hp : H p = some (.lst ys)) (h : H d = some (.tup xs)) : upd H p o d = some (.tup xs) := look_ne (fun z => by rw [z, hp] at h; cases h) h
theorem seq_put {K : PySem.W.Frag} {H : Hp} {p d : Addr} {o : HO} {xs : List V} (hp : H p = none) (h : SqL K H d xs) : SqL K (upd H p o) d xs := (Same.new hp).seq h
end Stow

namespace Stow
open PySem L2 PyProof.Rows
/-! ### try: one statement with one call that may raise; several except clauses -/
abbrev TX := L2.St → Hp → VK → XK → Prop
/-- an expression, what comes and what is thrown apart -/
def PX (X : Cx) (e : Expr) (t : TX) : Prop := ∀ (pins : List (Addr × Obj)) (s : Shared) (σ : L2.St) (H : Hp) (QV : VK) (EX : XK) (Qp W : Value → Shared → Prop), Inv X pins σ H s → t σ H QV EX → (∀ u s', EP X pins σ QV u s' → Qp u s') →
  (∀ H1 s1 y s', Inv X pins σ H1 s1 → CXe X.prog X.w X.stack H1 s1 EX y s' → W y s') → wpAny (model X.prog X.w) X.A (eval e X.env) Qp W s
def xCall (sp : Sp) (dvs : List V) (ta : TA) : TX := fun σ H QV EX => ta σ H fun vs H1 => sp (vs ++ dvs) H1 QV EX
def xMeth (C : Addr) (m : Str) (sp : Sp) (dvs : List V) (to : TE) (ta : TA) : TX := fun σ H QV EX => to σ H fun x H1 => ∃ a dx fs, x = .ref a ∧ H1 a = some (.ins C dx fs) ∧ fs.lookup m = none ∧ ta σ H1 fun vs H2 => sp (x :: (vs ++ dvs)) H2 QV EX
def xMake (C : Addr) (sp : Sp) (dvs : List V) (ta : TA) : TX := fun σ H QV EX => ta σ H fun vs H1 => ∀ x dx, H1 x = none → H1 dx = none → dx ≠ x → sp (.ref x :: (vs ++ dvs)) (upd (upd H1 dx (.own x)) x (.ins C dx [])) (fun v H2 => v = .non ∧ QV (.ref x) H2) EX
section
variable {X : Cx} {k : Nat} {f C : Addr} {fd : FuncData} {ps : List Str} {sp : Sp} {dvs : List V} {ds : List Value} {fx m : Str} {p pos apos : Pos} {e o : Expr} {es : List Expr} {to : TE} {ta : TA}
theorem run_x {pins : List (Addr × Obj)} {σ : L2.St} {H : Hp} {s : Shared} {us : List Value} {vs : List V} {QV : VK} {EX : XK} {Qp W : Value → Shared → Prop} (F : FnOk X.prog X.w X.K X.mg X.base (CXe X.prog X.w) k f fd ps sp) (hr : Room k X.A) (hb : Binds X.K fd ps ds) (hd : Vals dvs ds)
    (I : Inv X pins σ H s) (r : Vals vs us) (h : sp (vs ++ dvs) H QV EX) (hv : ∀ u s', EP X pins σ QV u s' → Qp u s') (hx : ∀ y s', CXe X.prog X.w X.stack H s EX y s' → W y s') : wpAny (model X.prog X.w) X.A (call (.ref f) us) Qp W s := by
  have r2 : Vals (vs ++ dvs) (us ++ ds) := r.append hd
  have hl : (us ++ ds).length = ps.length := by rw [← r2.length]; exact F.len _ _ _ _ h
  refine wpAny_call (codeAny_mono (F.run X.A X.stack s H ⟨us, []⟩ (us ++ ds) (vs ++ dvs) QV EX hr I.env0 (hb s us I.kIn hl) r2 h) fun r s' hq => ?_)
  cases r with
  | error y => exact hx y s' hq
  | ok fl =>
    cases fl with
    | ret u => exact hv u s' (I.after hq)
    | next => exact False.elim hq
    | brk => exact False.elim hq
    | cont => exact False.elim hq
theorem px_meth {pl : Sem Bool} (ho : PE X.nox o to) (c : Cls X.K C) (hm : Meth X.K C m f) (F : FnOk X.prog X.w X.K X.mg X.base (CXe X.prog X.w) k f fd ps sp) (hr : Room k X.A) (hb : Binds X.K fd ps ds) (hd : Vals dvs ds) (ha : PA X.nox (e :: es) ta)
    (hst : starEach (e :: es) X.env = (false, eval e X.env) :: starEach es X.env := by rfl) (hpl : (backTo pos (starEach es X.env)).any (·.1) = false := by rfl)
    (ht : eval (.Call (.Attribute o m apos) (e :: es) [] pos) X.env = (do
      let ov ← eval o X.env
      standAt apos.atName
      let (f, first) ← holding [ov] (getMethod ov m pl)
      callWith pos f first (backTo pos (starEach (e :: es) X.env)) (backToKw pos (keywordEach [] X.env))) := by rfl) :
    PX X (.Call (.Attribute o m apos) (e :: es) [] pos) (xMeth C m sp dvs to ta) := by
  intro pins s σ H QV EX Qp W I h hv hx
  refine PySem.W.methodCall_KW (pl := pl) (wpAny_mono (ho pins s σ H _ (I.wish _) h) (fun u s1 ⟨x, H1, I1', rx, a, dx, fs, ex, ea, l, q⟩ => ?_) (fun _ _ z => z.elim)) ht
  have I1 := I1'.unwish
  subst ex
  obtain rfl : u = Value.ref a := rx
  refine getmeth_ok I1 ea c hm l ?_
  refine PySem.W.callWith_K (first := [.ref a]) (h₀ := X.base) I.ok.mod.kin hm.kp (wpAny_mono (ha pos pins s1 σ H1 _ (I1.wish _) q) (fun us s2 ⟨vs, H2, I2', r, q2⟩ => ?_) (fun _ _ z => z.elim)) hst hpl
  have I2 := I2'.unwish
  exact ⟨I2.kIn, run_x (us := .ref a :: us) (vs := .ref a :: vs) F hr hb hd I2 (.cons rfl r) q2 hv fun y s' hq => hx H2 s2 y s' I2 hq⟩
theorem px_make (M : Mk X.K C f) (F : FnOk X.prog X.w X.K X.mg X.base (CXe X.prog X.w) k f fd ps sp) (hr : Room (k + 1) X.A) (hg : Gl X fx) (hm : X.mg fx = some (.ref C)) (hb : Binds X.K fd ps ds) (hd : Vals dvs ds) (ha : PA X.nox (e :: es) ta)
    (hdb : (fx == ("__debug__" : Str)) = false := by decide) (he : starEach (e :: es) X.env = (false, eval e X.env) :: starEach es X.env := by rfl) (hpl : (backTo pos (starEach es X.env)).any (·.1) = false := by rfl) :
    PX X (.Call (.Name fx p) (e :: es) [] pos) (xMake C sp dvs ta) := by
  intro pins s σ H QV EX Qp W I h hv hx
  refine wpAny_Call_Name_kw (ld_glob I hg hm ?_ hdb)
  refine PySem.W.callWith_K (h₀ := X.base) I.ok.mod.kin M.kp (wpAny_mono (ha pos pins s σ H _ (I.wish _) h) (fun us s1 ⟨vs, H1, I1', r, q⟩ => ?_) (fun _ _ z => z.elim)) he hpl
  have I1 := I1'.unwish
  refine ⟨I1.kIn, ?_⟩
  have hq := q (s1.heap.objs.size + 1) s1.heap.objs.size (I1.hok.fresh (Nat.le_succ _)) (I1.hok.fresh (Nat.le_refl _)) (Nat.ne_of_lt (Nat.lt_succ_self _))
  have I2 := Inv.made (C := C) I1
  have r2 : Vals (V.ref (s1.heap.objs.size + 1) :: (vs ++ dvs)) (Value.ref (s1.heap.objs.size + 1) :: (us ++ ds)) := .cons rfl (r.append hd)
  have hl : (Value.ref (s1.heap.objs.size + 1) :: us ++ ds).length = ps.length := by
    have e := r2.length
    rw [F.len _ _ _ _ hq] at e
    exact e.symm
  refine wpAny_call (make_map (f := f) I1.kIn M.makes M.init (beq_iff_eq.mp M.fn) (codeAny_mono (F.run _ X.stack _ _ ⟨Value.ref (s1.heap.objs.size + 1) :: us, []⟩ (Value.ref (s1.heap.objs.size + 1) :: (us ++ ds)) _ _ EX (hr.make C us [])
    (I2.env0.make C us []) (hb _ (Value.ref (s1.heap.objs.size + 1) :: us) I2.kIn hl) r2 hq) fun r s' hq' => ?_))
  cases r with
  | error y => exact hx _ _ y s' I2 hq'
  | ok fl =>
    cases fl with
    | ret u =>
      obtain ⟨v, H', I3, rv, ev, q3⟩ := I2.after hq'
      subst ev
      exact ⟨rv, hv _ _ ⟨V.ref (s1.heap.objs.size + 1), H', I3, rfl, q3⟩⟩
    | next => exact False.elim hq'
    | brk => exact False.elim hq'
    | cont => exact False.elim hq'
end
/-- does an exception of the class at C fit the own class at C0: b -/
def Fits (K : PySem.W.Frag) (C C0 : Addr) (b : Bool) : Prop := ∃ (bm bm0 : List Value), ECls K C bm ∧ ECls K C0 bm0 ∧ (Value.ref C0 :: bm0).contains (.type "BaseException") = true ∧ (Value.ref C :: bm).contains (.ref C0) = b
theorem fits_ok {M : Model} {A : Around} {E : Value → Shared → Prop} {K : PySem.W.Frag} {C C0 x : Addr} {ox : Obj} {s : Shared} {b : Bool} {Q : Bool → Shared → Prop} (F : Fits K C C0 b) (KX : K.In s.heap) (hx : s.heap.get? x = some ox) (hc : ox.cls = .ref C) (k : Q b s) :
    wpAny M A (excMatches (.ref x) (.ref C0)) Q E s := by
  obtain ⟨bm, bm0, ⟨nm, qn, N, bs, hd, sn, sub, ab, col, dd, k0, k1, k2, k3, k5, newId, lk⟩, ⟨nm', qn', N', bs', hd', sn', sub', ab', col', dd', j0, j1, j2, j3, j5, new', lk0⟩, hb, hm⟩ := F
  have hC := KX _ _ lk
  have hC0 := KX _ _ lk0
  obtain ⟨hh, g, d, t, os⟩ := s
  exact match_own hC hC0 hx hc hb hm k
abbrev TH := Addr → Addr → TS
/-- the except clauses, of an exception at x of the class at C -/
def PH (X : Cx) (hs : List ExceptHandler) (th : TH) : Prop := ∀ (pins : List (Addr × Obj)) (s : Shared) (σ : L2.St) (H : Hp) (D : Ends) (x C T : Addr) (od : Option Addr), X.Ok → Inv X pins σ H s → Exc s.heap x (.ref C) od T .none →
  (∀ h3, Upto (frs X.stack) [T] s.heap h3 → Exc h3 x (.ref C) od T .none → Inv X pins σ H { s with heap := h3 }) → th x C D σ H → wpAny (model X.prog X.w) X.A (handleBy (.ref x) X.env hs) (SP X pins D) X.xe s
section
variable {X : Cx} {C0 : Addr} {cx : Str} {np hpos pos epos : Pos} {b0 : Stmt} {suite : List Stmt} {ts : Addr → TS} {hs : List ExceptHandler} {th : TH} {e : Expr} {t : TX}
theorem ph_nil : PH X [] (fun _ _ _ _ _ => False) := fun _ _ _ _ _ _ _ _ _ _ _ _ _ h => h.elim
theorem ph_consAs {i : Nat} {n : Str} (hgc : Gl X cx) (hc0 : X.mg cx = some (.ref C0)) (hN : X.N.Nodup) (hi : X.N[i]? = some n) (hln : X.env.kindOf n = some .local) (hss : ∀ x, PSs (Cx.suite X x) (b0 :: suite) (ts x)) (hr : PH X hs th) (hdc : (cx == ("__debug__" : Str)) = false := by decide) :
    PH X (.ExceptHandler (some (.Name cx np)) (some n) (b0 :: suite) hpos :: hs)
      (fun x C D σ H => (Fits X.K C C0 true ∧ ts x { D with nx := fun σ' H' => D.nx (σ'.set i none) H', bk := fun σ' H' => D.bk (σ'.set i none) H', ct := fun σ' H' => D.ct (σ'.set i none) H' } (σ.set i (some (.ref x))) H) ∨ (Fits X.K C C0 false ∧ th x C D σ H)) := by
  intro pins s σ H D x C T od ok J t2 again h
  obtain ⟨oe, vs, oT, tts, ne, ee, hcl, _⟩ := id t2
  rcases h with ⟨fit, q⟩ | ⟨fit, q⟩
  · refine wpAny_handleBy_cons (codeAny_handlers_test (ld_glob (X := Cx.suite X x) (inv_suite J x) hgc hc0 (fits_ok fit J.kIn ee hcl ?_) hdc)) (by intro z; cases z)
    refine codeAny_handlers_suite_as ?_
    refine flight_x (fr := frs X.stack) t2 fun h3 u3 t3 => ?_
    refine store_ok (X := Cx.suite X x) (inv_suite (again h3 u3 t3) x) hN hi (.inl hln) (v := .ref x) rfl (fun s4 J4 => ?_) (.inr hln)
    refine wpAny_mono (hss x pins s4 _ _ _ J4 q) (fun fl s5 q5 => ?_) (fun _ _ z => z.elim)
    cases fl with
    | next => obtain ⟨σ', H', I5, q⟩ := q5; exact unbind_ok (inv_unsuite ok I5) hN hi hln fun s6 I6 => ⟨_, _, I6, q⟩
    | brk => obtain ⟨σ', H', I5, q⟩ := q5; exact unbind_ok (inv_unsuite ok I5) hN hi hln fun s6 I6 => ⟨_, _, I6, q⟩
    | cont => obtain ⟨σ', H', I5, q⟩ := q5; exact unbind_ok (inv_unsuite ok I5) hN hi hln fun s6 I6 => ⟨_, _, I6, q⟩
    | ret u => obtain ⟨v, σ', H', I5, r, q⟩ := q5; exact unbind_ok (inv_unsuite ok I5) hN hi hln fun s6 I6 => ⟨v, _, _, I6, r, q⟩
  · refine wpAny_handleBy_cons (codeAny_handlers_test (ld_glob (X := Cx.suite X x) (inv_suite J x) hgc hc0 (fits_ok fit J.kIn ee hcl ?_) hdc)) (by intro z; cases z)
    exact hr pins s σ H D x C T od ok J t2 again q
theorem Upto.refl (fr ex : List Addr) (h : Heap) : Upto fr ex h h := ⟨fun _ _ _ _ q => q, fun b o _ q => ⟨o.slots, q⟩⟩
def tTryE (t : TX) (th : TH) : TS := fun D σ H => t σ H (fun _ H2 => D.nx σ H2) fun c od H2 => ∃ C, c = .ref C ∧ ∀ x, H2 x = none → th x C D σ (upd H2 x (ExcO x C od))
def tTryA (i : Nat) (t : TX) (th : TH) : TS := fun D σ H => t σ H (fun v H2 => D.nx (σ.set i (some v)) H2) fun c od H2 => ∃ C, c = .ref C ∧ ∀ x, H2 x = none → th x C D σ (upd H2 x (ExcO x C od))
theorem ps_tryE {h₀ : ExceptHandler} (he : PX X e t) (hst : X.stack = X.env :: X.outer ∧ X.env.frame = some X.env.locals) (hh : PH X (h₀ :: hs) th) (hsw : swapsWith e none epos.line X.env = pure false := by rfl) :
    PS X (.Try [.Expr e epos] (h₀ :: hs) [] [] pos) (tTryE t th) := by
  intro pins s σ H D I h
  refine wpAny_Try_except (wpAny_execs_cons (wpAny_Expr_any (he pins s σ H _ _ _ _ I h (fun u s' ⟨v, H2, I2, _, q2⟩ => wpAny_execs_nil (wpAny_execs_nil ⟨σ, H2, I2, q2⟩)) (fun H1 s1 y s' I1 hq => ?_)) I.quiet hsw))
  refine held_x I1 hst hq fun x C od T h2 H2 ex ⟨C', ec, q⟩ t2 J2 again => ?_
  subst ex
  cases ec
  exact hh pins _ σ _ D x C T od I.ok J2 t2 (fun h3 u3 t3 => (again h3 u3 t3).2) (q x (again h2 (Upto.refl _ _ _) t2).1)
end
section
variable {K : PySem.W.Frag} {σ : L2.St} {H : Hp} {D : Ends}
theorem r_tryE {t : TX} {th : TH} (h : t σ H (fun _ H2 => D.nx σ H2) fun c od H2 => ∃ C, c = .ref C ∧ ∀ x, H2 x = none → th x C D σ (upd H2 x (ExcO x C od))) : tTryE t th D σ H := h
theorem r_tryA {i : Nat} {t : TX} {th : TH} (h : t σ H (fun v H2 => D.nx (σ.set i (some v)) H2) fun c od H2 => ∃ C, c = .ref C ∧ ∀ x, H2 x = none → th x C D σ (upd H2 x (ExcO x C od))) : tTryA i t th D σ H := h
theorem r_xCall {sp : Sp} {ta : TA} {QV : VK} {EX : XK} (h : ta σ H fun vs H1 => sp vs H1 QV EX) : xCall sp [] ta σ H QV EX := by
  unfold xCall
  simp only [List.append_nil]
  exact h
end
end Stow

namespace Stow
open PySem L2 PyProof.Rows
/-! ### defs with defaults, methods, classes that are made, a base's __init__ -/
structure FunD (K : PySem.W.Frag) (x qual : Str) (st : Stmt) (dV : Value) (f : Addr) (fd : FuncData) : Prop where
  ex : ∃ (oc : Value) (od : Option Addr) (kV doc pm : Value) (an : Option Addr) (cdv ct : Value) (osl : Array (Option Value)),
    fd = PySem.W.fnOf x qual (defArgs st) (defBody st) (defScope st) dV kV doc pm an cdv ct ∧ K.lookup f = some ⟨oc, od, .func fd, osl⟩ ∧ PySem.W.codeIn K cdv qual = true
  kp : PySem.W.keepIn K (.ref f) = true
theorem funD_mk {K : PySem.W.Frag} {x qual : Str} {st : Stmt} {f : Addr} {oc : Value} {od an : Option Addr} {osl : Array (Option Value)} {dV kV doc pm cdv ct : Value} (l : K.lookup f = some ⟨oc, od, .func (PySem.W.fnOf x qual (defArgs st) (defBody st) (defScope st) dV kV doc pm an cdv ct), osl⟩)
    (c : PySem.W.codeIn K cdv qual = true) (k : PySem.W.keepIn K (.ref f) = true) : FunD K x qual st dV f (PySem.W.fnOf x qual (defArgs st) (defBody st) (defScope st) dV kV doc pm an cdv ct) := ⟨⟨oc, od, kV, doc, pm, an, cdv, ct, osl, rfl, l, c⟩, k⟩
section
variable {P : Program} {w : World} {K : PySem.W.Frag} {mg : Str → Option Value} {base : Heap}
theorem funD_okx {x qual : Str} {st : Stmt} {dV : Value} {f : Addr} {fd : FuncData} {N ps : List Str} {k : Nat} {sp : Sp} (F : FunD K x qual st dV f fd) (S : FnScope N ps (defScope st)) (len : ∀ vs H Q E, sp vs H Q E → vs.length = ps.length)
    (hbody : ∀ (cdv : Value) (A : Around) (outer : List Env) (s : Shared) (H : Hp) (vs : List V) (Q : VK) (E : XK), Room k (A.deeper (envOfC qual (defScope st) s.heap.objs.size f cdv)) → sp vs H Q E →
      ∃ t, PSs (cxOf (CXe P w) P w K mg base N qual (defScope st) f cdv A outer s H E) (defBody st) t ∧ t { nx := fun _ H' => Q .non H', rt := Q } (start N vs) H) : FnOk P w K mg base (CXe P w) (k + 1) f fd ps sp := by
  obtain ⟨oc, od, kV, doc, pm, an, cdv, ct, osl, rfl, lk, hcd⟩ := F.ex
  exact fn_of lk hcd S len fun A outer s H vs Q E hr hsp => hbody cdv A outer s H vs Q E hr hsp
/-- all parameters are given -/
theorem FunD.binds {x qual : Str} {st : Stmt} {dV : Value} {f : Addr} {fd : FuncData} {ps : List Str} (F : FunD K x qual st dV f fd)
    (h : ∀ (kV doc pm : Value) (an : Option Addr) (cdv ct : Value) (us : List Value), us.length = ps.length → bindArgs (PySem.W.fnOf x qual (defArgs st) (defBody st) (defScope st) dV kV doc pm an cdv ct) ⟨us, []⟩ = pure (ps.zip us)) : Binds K fd ps [] := by
  obtain ⟨oc, od, kV, doc, pm, an, cdv, ct, osl, rfl, lk, hcd⟩ := F.ex
  exact .all (h kV doc pm an cdv ct)
/-- the defaults fill up -/
theorem FunD.bindsD {x qual : Str} {st : Stmt} {T : Addr} {f : Addr} {fd : FuncData} {ps : List Str} {ds : List Value} {tc : Value} {td : Option Addr} {tn : Nat} {tsl : Array (Option Value)} (F : FunD K x qual st (.ref T) f fd)
    (lt : K.lookup T = some ⟨tc, td, .seq ds.toArray tn, tsl⟩)
    (h : ∀ (kV doc pm : Value) (an : Option Addr) (cdv ct : Value) (us : List Value), (us ++ ds).length = ps.length → ∃ k : Option (Array Value) → Sem (List (Str × Value)),
      bindArgs (PySem.W.fnOf x qual (defArgs st) (defBody st) (defScope st) (.ref T) kV doc pm an cdv ct) ⟨us, []⟩ = seqItems? (.ref T) >>= k ∧ k (some ds.toArray) = pure (ps.zip (us ++ ds))) : Binds K fd ps ds := by
  obtain ⟨oc, od, kV, doc, pm, an, cdv, ct, osl, rfl, lk, hcd⟩ := F.ex
  intro s us X hl
  obtain ⟨k, h1, h2⟩ := h kV doc pm an cdv ct us hl
  exact .of_defaults rfl (X _ _ lt) rfl h1 h2
end
/-- a method m of the class at C; dvs: the defaults that fill up -/
structure Methx (P : Program) (w : World) (K : PySem.W.Frag) (mg : Str → Option Value) (base : Heap) (C : Addr) (m : Str) (j : Nat) (ps : List Str) (dvs : List V) (sp : Sp) : Prop where
  ex : ∃ (f : Addr) (fd : FuncData) (ds : List Value), FnOk P w K mg base (CXe P w) j f fd ps sp ∧ Meth K C m f ∧ Binds K fd ps ds ∧ Vals dvs ds
  cl : Cls K C
/-- a class that is made -/
structure Makex (P : Program) (w : World) (K : PySem.W.Frag) (mg : Str → Option Value) (base : Heap) (x : Str) (C : Addr) (j : Nat) (ps : List Str) (dvs : List V) (sp : Sp) : Prop where
  ex : ∃ (f : Addr) (fd : FuncData) (ds : List Value), FnOk P w K mg base (CXe P w) j f fd ps sp ∧ Mk K C f ∧ Binds K fd ps ds ∧ Vals dvs ds
  bound : mg x = some (.ref C)
/-- a def read off a class: B.__init__ -/
structure ClsM (K : PySem.W.Frag) (C : Addr) (m : Str) (f : Addr) : Prop where
  sp : PySem.W.specialIn K (.ref C) "__getattribute__" = some (some (.builtin "type.__getattribute__"))
  rd : PySem.W.readsIn K C (.type "type") = true
  fc : PySem.W.findCls K (.ref C) (.type "type") m = some (.val (.ref f))
  kp : PySem.W.keepIn K (.ref f) = true
structure Basex (P : Program) (w : World) (K : PySem.W.Frag) (mg : Str → Option Value) (base : Heap) (x : Str) (m : Str) (j : Nat) (ps : List Str) (sp : Sp) : Prop where
  ex : ∃ (C f : Addr) (fd : FuncData), FnOk P w K mg base (CXe P w) j f fd ps sp ∧ ClsM K C m f ∧ Binds K fd ps [] ∧ mg x = some (.ref C)
section
variable {X : Cx} {j k : Nat} {C : Addr} {ps : List Str} {sp : Sp} {dvs : List V} {x m : Str} {p pos apos : Pos} {e o : Expr} {es : List Expr} {to : TE} {t : TA} {EX : XK}
theorem pe_methp {pl : Sem Bool} (D : Methx X.prog X.w X.K X.mg X.base C m j ps dvs sp) (hp : Passes (CXe X.prog X.w) X EX) (hr : Room k X.A) (ho : PE X o to) (ha : PA X (e :: es) t) (hk : j ≤ k := by decide)
    (hst : starEach (e :: es) X.env = (false, eval e X.env) :: starEach es X.env := by rfl) (hpl : (backTo pos (starEach es X.env)).any (·.1) = false := by rfl)
    (ht : eval (.Call (.Attribute o m apos) (e :: es) [] pos) X.env = (do
      let ov ← eval o X.env
      standAt apos.atName
      let (f, first) ← holding [ov] (getMethod ov m pl)
      callWith pos f first (backTo pos (starEach (e :: es) X.env)) (backToKw pos (keywordEach [] X.env))) := by rfl) : PE X (.Call (.Attribute o m apos) (e :: es) [] pos) (tMeth C m sp dvs EX to t) := by
  obtain ⟨f, fd, ds, F, hm, hb, hd⟩ := D.ex
  exact pe_meth (pl := pl) ho D.cl hm F (hr.mono hk) hb hd hp ha hst hpl ht
theorem pe_methp0 {pl : Sem Bool} (D : Methx X.prog X.w X.K X.mg X.base C m j ps dvs sp) (hp : Passes (CXe X.prog X.w) X EX) (hr : Room k X.A) (ho : PE X o to) (hk : j ≤ k := by decide)
    (ht : eval (.Call (.Attribute o m apos) [] [] pos) X.env = (do
      let ov ← eval o X.env
      standAt apos.atName
      let (f, first) ← holding [ov] (getMethod ov m pl)
      callWith pos f first (backTo pos (starEach [] X.env)) (backToKw pos (keywordEach [] X.env))) := by rfl) : PE X (.Call (.Attribute o m apos) [] [] pos) (tMeth C m sp dvs EX to tNil) := by
  obtain ⟨f, fd, ds, F, hm, hb, hd⟩ := D.ex
  exact pe_meth0 (pl := pl) ho D.cl hm F (hr.mono hk) hb hd hp ht
theorem px_methD {pl : Sem Bool} (D : Methx X.prog X.w X.K X.mg X.base C m j ps dvs sp) (hr : Room k X.A) (ho : PE X.nox o to) (ha : PA X.nox (e :: es) t) (hk : j ≤ k := by decide)
    (hst : starEach (e :: es) X.env = (false, eval e X.env) :: starEach es X.env := by rfl) (hpl : (backTo pos (starEach es X.env)).any (·.1) = false := by rfl)
    (ht : eval (.Call (.Attribute o m apos) (e :: es) [] pos) X.env = (do
      let ov ← eval o X.env
      standAt apos.atName
      let (f, first) ← holding [ov] (getMethod ov m pl)
      callWith pos f first (backTo pos (starEach (e :: es) X.env)) (backToKw pos (keywordEach [] X.env))) := by rfl) : PX X (.Call (.Attribute o m apos) (e :: es) [] pos) (xMeth C m sp dvs to t) := by
  obtain ⟨f, fd, ds, F, hm, hb, hd⟩ := D.ex
  exact px_meth (pl := pl) ho D.cl hm F (hr.mono hk) hb hd ha hst hpl ht
theorem pe_makep (D : Makex X.prog X.w X.K X.mg X.base x C j ps dvs sp) (hp : Passes (CXe X.prog X.w) X EX) (hr : Room k X.A) (hg : Gl X x) (ha : PA X (e :: es) t) (hk : j + 1 ≤ k := by decide)
    (hdb : (x == ("__debug__" : Str)) = false := by decide) (he : starEach (e :: es) X.env = (false, eval e X.env) :: starEach es X.env := by rfl) (hpl : (backTo pos (starEach es X.env)).any (·.1) = false := by rfl) : PE X (.Call (.Name x p) (e :: es) [] pos) (tMake C sp dvs EX t) := by
  obtain ⟨f, fd, ds, F, M, hb, hd⟩ := D.ex
  exact pe_make M F (hr.mono hk) hg D.bound hb hd hp ha hdb he hpl
theorem px_makeD (D : Makex X.prog X.w X.K X.mg X.base x C j ps dvs sp) (hr : Room k X.A) (hg : Gl X x) (ha : PA X.nox (e :: es) t) (hk : j + 1 ≤ k := by decide)
    (hdb : (x == ("__debug__" : Str)) = false := by decide) (he : starEach (e :: es) X.env = (false, eval e X.env) :: starEach es X.env := by rfl) (hpl : (backTo pos (starEach es X.env)).any (·.1) = false := by rfl) : PX X (.Call (.Name x p) (e :: es) [] pos) (xMake C sp dvs t) := by
  obtain ⟨f, fd, ds, F, M, hb, hd⟩ := D.ex
  exact px_make M F (hr.mono hk) hg D.bound hb hd ha hdb he hpl
/-- B.m(self, ..) -/
theorem pe_basep {pl : Sem Bool} {p' : Pos} (D : Basex X.prog X.w X.K X.mg X.base x m j ps sp) (hp : Passes (CXe X.prog X.w) X EX) (hr : Room k X.A) (hg : Gl X x) (ha : PA X (e :: es) t) (hk : j ≤ k := by decide) (hdb : (x == ("__debug__" : Str)) = false := by decide)
    (hst : starEach (e :: es) X.env = (false, eval e X.env) :: starEach es X.env := by rfl) (hpl : (backTo pos (starEach es X.env)).any (·.1) = false := by rfl)
    (ht : eval (.Call (.Attribute (.Name x p') m apos) (e :: es) [] pos) X.env = (do
      let ov ← eval (.Name x p') X.env
      standAt apos.atName
      let (f, first) ← holding [ov] (getMethod ov m pl)
      callWith pos f first (backTo pos (starEach (e :: es) X.env)) (backToKw pos (keywordEach [] X.env))) := by rfl) : PE X (.Call (.Attribute (.Name x p') m apos) (e :: es) [] pos) (tCall sp [] EX t) := by
  obtain ⟨C, f, fd, F, M, hb, hm⟩ := D.ex
  intro pins s σ H Q I h
  refine PySem.W.methodCall_KW (pl := pl) (ld_glob I hg hm ?_ hdb) ht
  refine PySem.W.method_cls I.kIn M.sp (PySem.W.cls_value I.kIn M.rd M.fc rfl ?_)
  have I' := I.tok (s.toks + 1)
  refine PySem.W.callWith_K (h₀ := X.base) I.ok.mod.kin M.kp (thn (ha pos pins _ σ H _ I' h) fun us s1 ⟨vs, H1, I1, r, q⟩ => ⟨I1.kIn, ?_⟩) hst hpl
  exact run_fn F (hr.mono hk) hb .nil hp I1 r q
end
section
variable {K : PySem.W.Frag} {σ : L2.St} {H : Hp} {Q : VK} {D : Ends}
theorem r_fld {f : Str} {ta : TE} (h : ta σ H fun x H1 => ∃ a C dx fs v, x = .ref a ∧ H1 a = some (.ins C dx fs) ∧ Cls K C ∧ NoAttr K C f ∧ fs.lookup f = some v ∧ Q v H1) : tFld K ta f σ H Q := h
theorem r_at {a C dx : Addr} {fs : List (Str × V)} {f : Str} {v : V} {P : V → Prop} (h : H a = some (.ins C dx fs)) (c : Cls K C) (n : NoAttr K C f) (l : fs.lookup f = some v) (q : P v) :
    ∃ a' C' dx' fs' v', V.ref a = V.ref a' ∧ H a' = some (.ins C' dx' fs') ∧ Cls K C' ∧ NoAttr K C' f ∧ fs'.lookup f = some v' ∧ P v' := ⟨a, C, dx, fs, v, rfl, h, c, n, l, q⟩
theorem r_sfld {f : Str} {ta tv : TE} (h : tv σ H fun y H1 => ta σ H1 fun x H2 => ∃ a C dx fs, x = .ref a ∧ H2 a = some (.ins C dx fs) ∧ Cls K C ∧ NoAttr K C f ∧ fs.length < 1000 ∧ D.nx σ (upd H2 a (.ins C dx (putF f y fs)))) : sFld K ta tv f D σ H := h
theorem r_meth {C : Addr} {m : Str} {sp : Sp} {E : XK} {ta : TE} {t : TA} (h : ta σ H fun x H1 => ∃ a dx fs, x = .ref a ∧ H1 a = some (.ins C dx fs) ∧ fs.lookup m = none ∧ t σ H1 fun vs H2 => sp (x :: vs) H2 Q E) : tMeth C m sp [] E ta t σ H Q := by
  unfold tMeth
  simp only [List.append_nil]
  exact h
theorem r_methD {C : Addr} {m : Str} {sp : Sp} {E : XK} {ta : TE} {t : TA} {dvs : List V} (h : ta σ H fun x H1 => ∃ a dx fs, x = .ref a ∧ H1 a = some (.ins C dx fs) ∧ fs.lookup m = none ∧ t σ H1 fun vs H2 => sp (x :: (vs ++ dvs)) H2 Q E) : tMeth C m sp dvs E ta t σ H Q := h
theorem r_xMeth {C : Addr} {m : Str} {sp : Sp} {EX : XK} {ta : TE} {t : TA} (h : ta σ H fun x H1 => ∃ a dx fs, x = .ref a ∧ H1 a = some (.ins C dx fs) ∧ fs.lookup m = none ∧ t σ H1 fun vs H2 => sp (x :: vs) H2 Q EX) : xMeth C m sp [] ta t σ H Q EX := by
  unfold xMeth
  simp only [List.append_nil]
  exact h
end
end Stow

namespace Stow
open PySem L2 PyProof.Rows
section
variable {X : Cx}
end
/-! ### stores, kept written out (a store read through a row of sets costs twice as much with each of them) -/
section
variable {a x : Option V} {v : V} {l r : L2.St} {k : Nat} {n : Str} {ns : List Str} {vs : List V}
theorem set0_c : (a :: l).set 0 x = x :: l := rfl
theorem start_c : L2.start (n :: ns) (v :: vs) = some v :: L2.start ns vs := by
  unfold L2.start
  rw [List.length_cons, List.length_cons, Nat.add_sub_add_right]
  rfl
theorem set0_1 : (L2.start (n :: ns) (v :: vs)).set 0 x = x :: L2.start ns vs := by
  rw [start_c]
  rfl
theorem set0_0 : (L2.start (n :: ns) []).set 0 x = x :: L2.start ns [] := rfl
theorem setS_c (h : l.set k x = r) : (a :: l).set (k + 1) x = a :: r := h ▸ rfl
theorem setS_1 (h : (L2.start ns vs).set k x = r) : (L2.start (n :: ns) (v :: vs)).set (k + 1) x = some v :: r := by
  rw [start_c, ← h]
  rfl
theorem setS_0 (h : (L2.start ns []).set k x = r) : (L2.start (n :: ns) []).set (k + 1) x = none :: r := h ▸ rfl
theorem r_gnameN {σ σ' : L2.St} {H : Hp} {i : Nat} {R : L2.St → Hp → Prop} (e : σ.set i (some v) = σ') (h : R σ' H) : gName i v σ H R := by
  subst e
  exact h
end
/-! ### cuts of lists of ints -/
def cutI (ns : List Int) (l u : Option Int) : List Int := (ns.drop (HT.sIx ns.length 0 l)).take (HT.sIx ns.length ns.length u - HT.sIx ns.length 0 l)
theorem cut_map (ns : List Int) (l u : Option Int) : cutV (ns.map V.int) l u = (cutI ns l u).map V.int := by
  unfold cutV cutI
  rw [List.map_take, List.map_drop, List.length_map]
section
variable {K : PySem.W.Frag} {σ : L2.St} {H : Hp} {D : Ends} {Q : VK}
theorem r_sllG {a : Addr} {ns : List Int} {lo hi : Option Int} (h : SqL K H a (ns.map V.int)) (q : ∀ p H', H p = none → Same H H' → H' p = some (.lst ((cutI ns lo hi).map V.int)) → Q (.ref p) H') : rSlL K (.ref a) lo hi H Q :=
  ⟨a, _, rfl, h, fun p hp => by rw [cut_map]; exact q p _ hp (Same.new hp) upd_same⟩
theorem r_catG {l b : Addr} {xs zs : List Int} (h : H l = some (.lst (xs.map V.int))) (h2 : H b = some (.lst (zs.map V.int))) (hz : xs.length + zs.length ≤ 4000) (q : ∀ p H', H p = none → Same H H' → H' p = some (.lst ((xs ++ zs).map V.int)) → Q (.ref p) H') : rCat (.ref l) (.ref b) H Q :=
  ⟨l, b, _, _, rfl, rfl, h, h2, by rw [List.length_map, List.length_map]; exact Nat.le_of_lt (small4000 hz), fun p hp => by rw [← List.map_append]; exact q p _ hp (Same.new hp) upd_same⟩
theorem r_isSeq {t u : TS} (h : tSeq t u D σ H) : tSeq t u D σ H := h
theorem r_isAnd {ta tb : TE} (h : tAndV ta tb σ H Q) : tAndV ta tb σ H Q := h
theorem r_isOr {ta tb : TE} (h : tOrV ta tb σ H Q) : tOrV ta tb σ H Q := h
end
end Stow

namespace Stow
open PySem L2 PyProof.Rows
/-! ### several targets at once; the last item of a list -/
section
variable {K : PySem.W.Frag} {σ : L2.St} {H : Hp} {Q : VK}
theorem r_gtup {a : Addr} {xs : List V} {n : Nat} {t : TGs} {R : L2.St → Hp → Prop} (h : H a = some (.tup xs)) (hl : xs.length = n) (q : t xs σ H R) : gTup K n t (.ref a) σ H R := ⟨a, xs, rfl, SqT.of h, hl, q⟩
theorem r_gcons {v : V} {r : List V} {t : TG} {u : TGs} {R : L2.St → Hp → Prop} (h : t v σ H fun σ' H' => u r σ' H' R) : gCons t u (v :: r) σ H R := ⟨v, r, rfl, h⟩
theorem r_gnil {R : L2.St → Hp → Prop} (h : R σ H) : gNil [] σ H R := ⟨rfl, h⟩
end
end Stow

namespace Stow
/-- the least cell from a on behind which a multiple of b comes -/
def fpl (a b : Int) : Int := a + (b - 1 - a % b)
def fp (a n L b : Int) : Option Int := if fpl a b + L ≤ a + n then some (fpl a b) else none
end Stow

namespace Stow
open PySem L2 PyProof.Rows
/-! ### pieces in the heap -/
def PcsAt (H : Hp) (us : List V) (ps : List Pc) : Prop := us.length = ps.length ∧ ∀ (i : Nat) (p : Pc), ps[i]? = some p → ∃ a, us[i]? = some (.ref a) ∧ H a = some (.tup [.int p.a, .int p.l, .bl p.v])
theorem PcsAt.nil {H : Hp} : PcsAt H [] [] := ⟨rfl, fun i p h => by simp at h⟩
theorem PcsAt.mono {H H' : Hp} {us : List V} {ps : List Pc} (h : PcsAt H us ps) (k : ∀ b xs, H b = some (.tup xs) → H' b = some (.tup xs)) : PcsAt H' us ps :=
  ⟨h.1, fun i p e => let ⟨a, h1, h2⟩ := h.2 i p e; ⟨a, h1, k _ _ h2⟩⟩
theorem PcsAt.same {H H' : Hp} {us : List V} {ps : List Pc} (h : PcsAt H us ps) (k : Same H H') : PcsAt H' us ps := h.mono fun b xs e => k b _ e
theorem PcsAt.snoc {H : Hp} {us : List V} {ps : List Pc} {p : Pc} {a : Addr} (h : PcsAt H us ps) (ha : H a = some (.tup [.int p.a, .int p.l, .bl p.v])) : PcsAt H (us ++ [.ref a]) (ps ++ [p]) := by
  refine ⟨by simp [h.1], fun i q e => ?_⟩
  have hl := h.1
  by_cases hi : i < ps.length
  · rw [List.getElem?_append_left hi] at e
    obtain ⟨b, h1, h2⟩ := h.2 i q e
    exact ⟨b, by rw [List.getElem?_append_left (by omega)]; exact h1, h2⟩
  · have hlt : i < (ps ++ [p]).length := (List.getElem?_eq_some_iff.mp e).1
    have hi2 : i = ps.length := by simp at hlt; omega
    subst hi2
    rw [List.getElem?_append_right (Nat.le_refl _)] at e
    have e' : p = q := by simpa using e
    subst e'
    exact ⟨a, by rw [← hl, List.getElem?_append_right (Nat.le_refl _)]; simp, ha⟩
theorem keepT {H : Hp} {p : Addr} {o : HO} (hp : H p = none ∨ ∃ xs, H p = some (.lst xs)) : ∀ b xs, H b = some (.tup xs) → upd H p o b = some (.tup xs) := fun b xs e => by
  have hne : b ≠ p := fun z => by
    subst z
    rcases hp with h | ⟨ys, h⟩
    · rw [h] at e; cases e
    · rw [h] at e; cases e
  rw [upd_ne hne]
  exact e
/-- the list of pieces at p takes one more -/
theorem PcsAt.push {H : Hp} {us : List V} {ps : List Pc} {p t : Addr} {z : Pc} (h : PcsAt H us ps) (hp : H p = some (.lst us)) (ht : H t = none) :
    upd (upd H t (.tup [.int z.a, .int z.l, .bl z.v])) p (.lst (us ++ [.ref t])) p = some (.lst (us ++ [.ref t])) ∧
    PcsAt (upd (upd H t (.tup [.int z.a, .int z.l, .bl z.v])) p (.lst (us ++ [.ref t]))) (us ++ [.ref t]) (ps ++ [z]) := by
  have hpt : p ≠ t := ne_of_none hp ht
  have hp2 : upd H t (.tup [.int z.a, .int z.l, .bl z.v]) p = some (.lst us) := by rw [upd_ne hpt]; exact hp
  refine ⟨upd_same, ?_⟩
  refine PcsAt.snoc ?_ ?_
  · exact (h.mono (keepT (.inl ht))).mono (keepT (.inr ⟨_, hp2⟩))
  · exact keepT (.inr ⟨_, hp2⟩) _ _ upd_same
theorem PcsAt.at {H : Hp} {us : List V} {ps : List Pc} (h : PcsAt H us ps) {k : Int} (h0 : 0 ≤ k) (h1 : k < us.length) : ∃ t z, atI us k = some (.ref t) ∧ ps[k.toNat]? = some z ∧ H t = some (.tup [.int z.a, .int z.l, .bl z.v]) := by
  have hl := h.1
  have hk : k.toNat < ps.length := by omega
  obtain ⟨t, e1, e2⟩ := h.2 k.toNat ps[k.toNat] (by simp [hk])
  refine ⟨t, _, ?_, by simp [hk], e2⟩
  have := atI_nat e1
  rwa [Int.toNat_of_nonneg h0] at this
/-! ### tuples in a list -/
def TupsAt (H : Hp) (us : List V) (xs : List (List V)) : Prop := us.length = xs.length ∧ ∀ (i : Nat) (x : List V), xs[i]? = some x → ∃ a, us[i]? = some (.ref a) ∧ H a = some (.tup x)
theorem TupsAt.nil {H : Hp} : TupsAt H [] [] := ⟨rfl, fun i p h => by simp at h⟩
theorem TupsAt.mono {H H' : Hp} {us : List V} {xs : List (List V)} (h : TupsAt H us xs) (k : ∀ b ys, H b = some (.tup ys) → H' b = some (.tup ys)) : TupsAt H' us xs :=
  ⟨h.1, fun i p e => let ⟨a, h1, h2⟩ := h.2 i p e; ⟨a, h1, k _ _ h2⟩⟩
theorem TupsAt.same {H H' : Hp} {us : List V} {xs : List (List V)} (h : TupsAt H us xs) (k : Same H H') : TupsAt H' us xs := h.mono fun b ys e => k b _ e
theorem TupsAt.push {H : Hp} {us : List V} {xs : List (List V)} {p t : Addr} {z : List V} (h : TupsAt H us xs) (hp : H p = some (.lst us)) (ht : H t = none) :
    TupsAt (upd (upd H t (.tup z)) p (.lst (us ++ [.ref t]))) (us ++ [.ref t]) (xs ++ [z]) := by
  have hpt : p ≠ t := ne_of_none hp ht
  have hp2 : upd H t (.tup z) p = some (.lst us) := by rw [upd_ne hpt]; exact hp
  have h2 := (h.mono (keepT (o := .tup z) (.inl ht))).mono (keepT (o := .lst (us ++ [.ref t])) (.inr ⟨_, hp2⟩))
  have hz : upd (upd H t (.tup z)) p (.lst (us ++ [.ref t])) t = some (.tup z) := keepT (.inr ⟨_, hp2⟩) _ _ upd_same
  refine ⟨by simp [h.1], fun i q e => ?_⟩
  have hl := h.1
  by_cases hi : i < xs.length
  · rw [List.getElem?_append_left hi] at e
    obtain ⟨b, h1, h3⟩ := h2.2 i q e
    exact ⟨b, by rw [List.getElem?_append_left (by omega)]; exact h1, h3⟩
  · have hlt : i < (xs ++ [z]).length := (List.getElem?_eq_some_iff.mp e).1
    have hi2 : i = xs.length := by simp at hlt; omega
    subst hi2
    rw [List.getElem?_append_right (Nat.le_refl _)] at e
    have e' : z = q := by simpa using e
    subst e'
    exact ⟨t, by rw [← hl, List.getElem?_append_right (Nat.le_refl _)]; simp, hz⟩
theorem TupsAt.at {H : Hp} {us : List V} {xs : List (List V)} (h : TupsAt H us xs) {i : Nat} (h1 : i < us.length) : ∃ t z, atI us (0 + (i : Int)) = some (.ref t) ∧ xs[i]? = some z ∧ H t = some (.tup z) := by
  have hl := h.1
  have hk : i < xs.length := by omega
  obtain ⟨t, e1, e2⟩ := h.2 i xs[i] (by simp [hk])
  exact ⟨t, _, by rw [Int.zero_add]; exact atI_nat e1, by simp [hk], e2⟩
@[reducible] def optV : Option Int → V
  | none => .non
  | some b => .int b
/-! ### promises that many laws share -/
def spLong : Sp := fun vs H Q _ => ∃ n : Int, vs = [.int n] ∧ Q (.int (n / 2)) H
def spLive : Sp := fun vs H Q _ => ∃ n : Int, vs = [.int n] ∧ Q (.bl (decide (n % 2 = 1))) H
def spCan (K : PySem.W.Frag) : Sp := fun vs H Q _ => ∃ (a : Addr) (ns : List Int) (k : Int), vs = [.ref a, .int k] ∧ SqL K H a (ns.map V.int) ∧ 0 ≤ k ∧ k < ns.length ∧ Q (.bl (canBegin ns k)) H
def spBad (K : PySem.W.Frag) : Sp := fun vs H Q _ => ∃ (a : Addr) (ns : List Int) (k : Int), vs = [.ref a, .int k] ∧ SqL K H a (ns.map V.int) ∧ 0 ≤ k ∧ k < ns.length ∧ Q (optV (badOf ns k)) H
def spLooked (K : PySem.W.Frag) (C : Addr) : Sp := fun vs H Q E => ∃ (a : Addr) (ns : List Int), vs = [.ref a] ∧ SqL K H a (ns.map V.int) ∧ ns.length ≤ 4000 ∧
  (∀ b, (walkF ns 0).2 = some b → ∀ (dx : Addr) (H' : Hp), Same H H' → H' dx = some (.xd [("cell", .int b)]) → E (.ref C) (some dx) H') ∧
  ((walkF ns 0).2 = none → ∀ (p : Addr) (us : List V) (H' : Hp), H p = none → Same H H' → H' p = some (.lst us) → PcsAt H' us (walkF ns 0).1 → Q (.ref p) H')
def spCell (K : PySem.W.Frag) : Sp := fun vs H Q _ => ∃ (a : Addr) (ns : List Int) (k : Int), vs = [.ref a, .int k] ∧ SqL K H a (ns.map V.int) ∧ 0 ≤ k ∧ Q (.int (ns.getD k.toNat 0)) H
def spWhole : Sp := fun vs H Q _ => ∃ n : Int, vs = [.int n] ∧ Q (.bl true) H
def spLaw (K : PySem.W.Frag) : Sp := fun vs H Q _ => ∃ (a : Addr) (ns : List Int), vs = [.ref a] ∧ SqL K H a (ns.map V.int) ∧ ns.length ≤ 63 ∧ ∀ H', Q (.bl true) H'
section
variable {K : PySem.W.Frag} {H : Hp} {Q : VK} {E : XK}
theorem i_long {n : Int} (q : Q (.int (n / 2)) H) : spLong [.int n] H Q E := ⟨n, rfl, q⟩
theorem i_live {n : Int} (q : Q (.bl (decide (n % 2 = 1))) H) : spLive [.int n] H Q E := ⟨n, rfl, q⟩
theorem i_can {a : Addr} {ns : List Int} {k : Int} (h : SqL K H a (ns.map V.int)) (h0 : 0 ≤ k) (h1 : k < ns.length) (q : Q (.bl (canBegin ns k)) H) : spCan K [.ref a, .int k] H Q E := ⟨a, ns, k, rfl, h, h0, h1, q⟩
theorem i_bad {a : Addr} {ns : List Int} {k : Int} (h : SqL K H a (ns.map V.int)) (h0 : 0 ≤ k) (h1 : k < ns.length) (q : Q (optV (badOf ns k)) H) : spBad K [.ref a, .int k] H Q E := ⟨a, ns, k, rfl, h, h0, h1, q⟩
theorem i_cell {a : Addr} {ns : List Int} {k : Int} (h : SqL K H a (ns.map V.int)) (h0 : 0 ≤ k) (q : Q (.int (ns.getD k.toNat 0)) H) : spCell K [.ref a, .int k] H Q E := ⟨a, ns, k, rfl, h, h0, q⟩
theorem i_whole {n : Int} (q : Q (.bl true) H) : spWhole [.int n] H Q E := ⟨n, rfl, q⟩
theorem live_eq2 (n : Int) : decide (Builtin.bitAnd n 1 = 1) = decide (n % 2 = 1) := by rw [← live_eq, decV]
end
end Stow

namespace Stow
/-! ### pieces laid into cells (numbers alone) -/
def laidI (cs : List Int) (k l : Int) (v : Bool) : List Int := (cs.set k.toNat (l * 2 + if v then 1 else 0)).set (k + l - 1).toNat (l * 2 + if v then 1 else 0)
theorem laidI_len (cs : List Int) (k l : Int) (v : Bool) : (laidI cs k l v).length = cs.length := by
  unfold laidI
  rw [List.length_set, List.length_set]
theorem laidI_out {cs : List Int} {k l : Int} {v : Bool} {j : Nat} (h0 : 0 ≤ k) (h1 : 1 ≤ l) (h : (j : Int) < k ∨ k + l ≤ j) : (laidI cs k l v)[j]? = cs[j]? := by
  unfold laidI
  rw [List.getElem?_set_ne (by omega), List.getElem?_set_ne (by omega)]
theorem laidI_first {cs : List Int} {k l : Int} {v : Bool} (h0 : 0 ≤ k) (h1 : 1 ≤ l) (h : k + l ≤ cs.length) : (laidI cs k l v)[k.toNat]? = some (mkOf l v) := by
  unfold laidI mkOf
  by_cases e : (k + l - 1).toNat = k.toNat
  · rw [e, List.getElem?_set_self (by rw [List.length_set]; omega)]
  · rw [List.getElem?_set_ne e, List.getElem?_set_self (by omega)]
theorem laidI_last {cs : List Int} {k l : Int} {v : Bool} (h0 : 0 ≤ k) (h1 : 1 ≤ l) (h : k + l ≤ cs.length) : (laidI cs k l v)[(k + l - 1).toNat]? = some (mkOf l v) := by
  unfold laidI mkOf
  rw [List.getElem?_set_self (by rw [List.length_set]; omega)]
/-- pieces that end at k or ahead, pieces that begin at e or behind -/
def EndBy (ds : List Pc) (k : Int) : Prop := ∀ p ∈ ds, 0 ≤ p.a ∧ 1 ≤ p.l ∧ p.a + p.l ≤ k
def FromOn (rs : List Pc) (e : Int) : Prop := ∀ p ∈ rs, e ≤ p.a ∧ 1 ≤ p.l
theorem Chain.endBy {ds : List Pc} {s e : Int} (h : Chain s ds e) (h0 : 0 ≤ s) : EndBy ds e := fun p hp => by
  obtain ⟨h1, h2, _, h3⟩ := h.mem p hp
  omega
theorem Chain.fromOn {ds : List Pc} {s e : Int} (h : Chain s ds e) : FromOn ds s := fun p hp => by
  obtain ⟨h1, h2, _, _⟩ := h.mem p hp
  omega
theorem EndBy.mono {ds : List Pc} {k k' : Int} (h : EndBy ds k) (e : k ≤ k') : EndBy ds k' := fun p hp => by have := h p hp; omega
theorem EndBy.app {ds es : List Pc} {k : Int} (h : EndBy ds k) (g : EndBy es k) : EndBy (ds ++ es) k := fun p hp => (List.mem_append.mp hp).elim (h p) (g p)
theorem Marks.sub {cs : List Int} {ps qs : List Pc} (m : Marks cs ps) (h : ∀ p ∈ qs, p ∈ ps) : Marks cs qs := fun p hp => m p (h p hp)
theorem Marks.lay {cs : List Int} {ds rs : List Pc} {k l : Int} {v : Bool} (h0 : 0 ≤ k) (h1 : 1 ≤ l) (hl : k + l ≤ cs.length) (hd : EndBy ds k) (hr : FromOn rs (k + l)) (m : Marks cs (ds ++ rs)) :
    Marks (laidI cs k l v) (ds ++ ⟨k, l, v⟩ :: rs) := by
  intro p hp
  rcases List.mem_append.mp hp with h | h
  · obtain ⟨a0, a1, a2⟩ := hd p h
    obtain ⟨m1, m2⟩ := m p (List.mem_append_left _ h)
    exact ⟨by rw [laidI_out h0 h1 (by omega)]; exact m1, by rw [laidI_out h0 h1 (by omega)]; exact m2⟩
  · rcases List.mem_cons.mp h with h | h
    · subst h
      exact ⟨laidI_first h0 h1 hl, laidI_last h0 h1 hl⟩
    · obtain ⟨a0, a1⟩ := hr p h
      obtain ⟨m1, m2⟩ := m p (List.mem_append_right _ h)
      exact ⟨by rw [laidI_out h0 h1 (by omega)]; exact m1, by rw [laidI_out h0 h1 (by omega)]; exact m2⟩
def fr (b e : Int) : List Pc := if b = e then [] else [⟨b, e - b, false⟩]
/-! ### neighbours -/
theorem chain_apart {ps : List Pc} : ∀ {b e : Int}, Chain b ps e → ∀ (i j : Nat) (y z : Pc), ps[i]? = some y → ps[j]? = some z → y.a = z.a → y = z := by
  induction ps with
  | nil => intro b e _ i j y z hi; simp at hi
  | cons p r ih =>
    intro b e h i j y z hi hj ha
    obtain ⟨e1, h1, h3, c⟩ := h
    have up : ∀ (i : Nat) (y : Pc), r[i]? = some y → y.a > p.a := fun i y hy => by
      have := (c.mem y (List.mem_of_getElem? hy)).1
      omega
    cases i with
    | zero =>
      cases j with
      | zero => simp at hi hj; rw [← hi, ← hj]
      | succ j =>
        have e2 : p = y := by simpa using hi
        have := up j z (by simpa using hj)
        subst e2; omega
    | succ i =>
      cases j with
      | zero =>
        have e2 : p = z := by simpa using hj
        have := up i y (by simpa using hi)
        subst e2; omega
      | succ j => exact ih c i j y z (by simpa using hi) (by simpa using hj) ha
end Stow
namespace Stow
theorem chain_same {ps : List Pc} {s e : Int} {y z : Pc} (c : Chain s ps e) (hy : y ∈ ps) (hz : z ∈ ps) (h : y.a = z.a) : y = z := by
  obtain ⟨i, hi⟩ := List.getElem?_of_mem hy
  obtain ⟨j, hj⟩ := List.getElem?_of_mem hz
  exact chain_apart c i j y z hi hj h
end Stow
namespace Stow
end Stow
namespace Stow
end Stow

namespace Stow
/-! ### free pieces side by side joined -/
theorem Chain.take : ∀ {ps : List Pc} {s e : Int} {i : Nat}, Chain s ps e → i ≤ ps.length → ∃ m, Chain s (ps.take i) m ∧ Chain m (ps.drop i) e
  | ps, s, e, 0, c, _ => ⟨s, rfl, c⟩
  | [], s, e, i + 1, c, h => by simp at h
  | p :: r, s, e, i + 1, c, h => by
    obtain ⟨h0, h1, h2, h3⟩ := c
    obtain ⟨m, c1, c2⟩ := h3.take (i := i) (by simpa using h)
    exact ⟨m, ⟨h0, h1, h2, c1⟩, c2⟩
/-! ### all of a row of pieces laid -/
/-! ### how many are joined -/
/-- no two free ones side by side -/
def NoAdj (ps : List Pc) : Prop := ∀ j y z, ps[j]? = some y → ps[j + 1]? = some z → y.v = true ∨ z.v = true
theorem NoAdj.snoc {D : List Pc} {w z : Pc} (h : NoAdj (D ++ [w])) (hv : w.v = true ∨ z.v = true) : NoAdj (D ++ [w] ++ [z]) := by
  intro j y x hy hx
  have hl : j + 1 < (D ++ [w] ++ [z]).length := (List.getElem?_eq_some_iff.mp hx).1
  rw [List.length_append, List.length_singleton] at hl
  rw [List.getElem?_append_left (by omega)] at hy
  by_cases e : j + 1 < (D ++ [w]).length
  · rw [List.getElem?_append_left e] at hx
    exact h j y x hy hx
  · rw [List.length_append, List.length_singleton] at e hl
    rw [List.getElem?_append_right (by rw [List.length_append, List.length_singleton]; omega), show j + 1 - (D ++ [w]).length = 0 by rw [List.length_append, List.length_singleton]; omega] at hx
    rw [show j = D.length by omega, List.getElem?_append_right (Nat.le_refl _), Nat.sub_self] at hy
    have e1 : w = y := by simpa using hy
    have e2 : z = x := by simpa using hx
    rw [← e1, ← e2]
    exact hv
theorem NoAdj.last {D : List Pc} {w u : Pc} (h : NoAdj (D ++ [w])) (hv : u.v = w.v) : NoAdj (D ++ [u]) := by
  intro j y x hy hx
  have hl : j + 1 < (D ++ [u]).length := (List.getElem?_eq_some_iff.mp hx).1
  rw [List.length_append, List.length_singleton] at hl
  rw [List.getElem?_append_left (by omega)] at hy
  by_cases e : j + 1 < D.length
  · rw [List.getElem?_append_left e] at hx
    exact h j y x (by rw [List.getElem?_append_left (by omega)]; exact hy) (by rw [List.getElem?_append_left e]; exact hx)
  · rw [List.getElem?_append_right (by omega), show j + 1 - D.length = 0 by omega] at hx
    have e2 : u = x := by simpa using hx
    have := h j y w (by rw [List.getElem?_append_left (by omega)]; exact hy) (by rw [List.getElem?_append_right (by omega), show j + 1 - D.length = 0 by omega]; rfl)
    rw [← e2, hv]
    exact this
end Stow

namespace Stow
/-! ### cut out and freed again -/
end Stow
namespace Stow
end Stow

namespace Stow
open PySem L2 PyProof.Rows
section
variable {X : Cx}
end
end Stow

namespace Stow
open PySem L2 PyProof.Rows
/-! ### tuples compared; lists of pieces compared -/
def eqVs (xs ys : List V) : Bool := (List.range (min xs.length ys.length)).all (fun j => eqV (xs.getD j .non) (ys.getD j .non)) && xs.length == ys.length
section
variable {X : Cx} {pins : List (Addr × Obj)} {σ : L2.St} {H : Hp} {s : Shared} {A : Around}
theorem items_eq {a b : Addr} {xs ys : List V} (I : Inv X pins σ H s) (ha : SqT X.K H a xs) (hb : SqT X.K H b ys) (hf : xs.all flatV = true) (hg : ys.all flatV = true) :
    ∃ its its2 : List Value, s.heap.IsTuple a its.toArray ∧ s.heap.IsTuple b its2.toArray ∧ its.length = xs.length ∧ its2.length = ys.length ∧
      ∀ j (h1 : j < its.toArray.size) (h2 : j < its2.toArray.size), SeqAt.EqAt A s its.toArray[j] its2.toArray[j] (eqV (xs.getD j .non) (ys.getD j .non)) := by
  obtain ⟨its, r1, p1, _⟩ := I.tuple ha
  obtain ⟨its2, r2, p2, _⟩ := I.tuple hb
  have l1 := r1.length
  have l2 := r2.length
  refine ⟨its, its2, p1, p2, l1.symm, l2.symm, fun j h1 h2 => ?_⟩
  rw [List.size_toArray] at h1 h2
  have hj : j < xs.length := by omega
  have hk : j < ys.length := by omega
  obtain ⟨u1, e1, q1⟩ := r1.get (i := j) (x := xs[j]) (by simp [hj])
  obtain ⟨u2, e2, q2⟩ := r2.get (i := j) (x := ys[j]) (by simp [hk])
  obtain ⟨g1, f1⟩ := List.getElem?_eq_some_iff.mp e1
  obtain ⟨g2, f2⟩ := List.getElem?_eq_some_iff.mp e2
  have fl : flatV xs[j] = true := List.all_eq_true.mp hf _ (List.getElem_mem hj)
  have gl : flatV ys[j] = true := List.all_eq_true.mp hg _ (List.getElem_mem hk)
  have z := eqAt_V (A := A) (s := s) q1 q2 fl gl
  rw [← f1, ← f2] at z
  have ex : xs.getD j .non = xs[j] := by simp [hj]
  have ey : ys.getD j .non = ys[j] := by simp [hk]
  rw [ex, ey]
  simpa using z
theorem rc_tups {a b : Addr} {xs ys : List V} (hu : A.units < cLine) (I : Inv X pins σ H s) (ha : SqT X.K H a xs) (hb : SqT X.K H b ys) (hf : xs.all flatV = true) (hg : ys.all flatV = true) : SeqAt.RcAt A s (.ref a) (.ref b) (eqVs xs ys) := by
  obtain ⟨its, its2, p1, p2, l1, l2, he⟩ := items_eq (A := A.in1) I ha hb hf hg
  have key := SeqAt.RcAt.tuples p1 p2 hu he
  simp only [List.size_toArray, l1, l2] at key
  exact key
theorem eqVs_self {xs : List V} (hf : xs.all flatV = true) : eqVs xs xs = true := by
  unfold eqVs
  rw [Bool.and_eq_true]
  refine ⟨List.all_eq_true.mpr fun j hj => ?_, by simp⟩
  have hj : j < xs.length := by simpa using hj
  have ex : xs.getD j .non = xs[j] := by simp [hj]
  rw [ex]
  exact eqV_self (List.all_eq_true.mp hf _ (List.getElem_mem hj))
theorem eq_tup_same {a b : Addr} {xs : List V} (hu : A.units < cLine) (I : Inv X pins σ H s) (ha : SqT X.K H a xs) (hb : SqT X.K H b xs) (hf : xs.all flatV = true) : SeqAt.EqAt A s (.ref a) (.ref b) true := by
  by_cases e : a = b
  · subst e; exact SeqAt.EqAt.same _
  · refine SeqAt.EqAt.of_refs e ?_
    have := rc_tups hu I ha hb hf hf
    rwa [eqVs_self hf] at this
end
section
variable {X : Cx}
end
end Stow

set_option Elab.async false
set_option linter.all false
set_option maxRecDepth 100000
set_option maxHeartbeats 4000000
namespace L2
open PySem PySem.Spec PyProof.Rows

/-! ### lists of pairs as tables -/
section
variable {κ : Type} [DecidableEq κ]
def valV (kvs : List (κ × V)) (k : κ) : Option V := (kvs.find? fun kv => decide (kv.1 = k)).map (·.2)
/-- in its place, or at the end -/
def putK (kvs : List (κ × V)) (k : κ) (v : V) : List (κ × V) :=
  if (kvs.any fun kv => decide (kv.1 = k)) = true then kvs.map (fun kv => if kv.1 = k then (kv.1, v) else kv) else kvs ++ [(k, v)]
def dropK (kvs : List (κ × V)) (k : κ) : List (κ × V) := kvs.filter fun kv => decide (kv.1 ≠ k)

theorem valV_pos {p : κ × V} {r : List (κ × V)} {k : κ} (e : p.1 = k) : valV (p :: r) k = some p.2 := by simp [valV, List.find?_cons, e]
theorem valV_neg {p : κ × V} {r : List (κ × V)} {k : κ} (e : ¬ p.1 = k) : valV (p :: r) k = valV r k := by simp [valV, List.find?_cons, e]
theorem valV_any (k : κ) : ∀ kvs : List (κ × V), (kvs.any fun kv => decide (kv.1 = k)) = (valV kvs k).isSome
  | [] => rfl
  | p :: r => by
    rw [List.any_cons]
    by_cases e : p.1 = k
    · simp only [valV_pos e, decide_eq_true e, Bool.true_or, Option.isSome_some]
    · rw [valV_neg e, decide_eq_false e, Bool.false_or]; exact valV_any k r
theorem RelO.isSome_eq {o : Option V} {u : Option Value} (r : RelO o u) : o.isSome = u.isSome := by
  cases o with
  | none => cases u with
    | none => rfl
    | some _ => exact (show False from r).elim
  | some _ => cases u with
    | none => exact (show False from r).elim
    | some _ => rfl
theorem RelO.getD {o : Option V} {u : Option Value} {d : V} {d' : Value} (r : RelO o u) (rd : RelV d d') : RelV (o.getD d) (u.getD d') := by
  cases o with
  | none => cases u with
    | none => exact rd
    | some _ => exact (show False from r).elim
  | some _ => cases u with
    | none => exact (show False from r).elim
    | some _ => exact r

/-- raw tables of the same keys -/
theorem KV.val {kvs : List (κ × V)} {vs : List (κ × Value)} (r : KV kvs vs) (k : κ) : RelO (valV kvs k) (valueAt vs k) := by
  unfold KV at r
  induction r with
  | nil => exact True.intro
  | @cons p q ps qs h t ih =>
    obtain ⟨h1, h2⟩ := h
    by_cases e : p.1 = k
    · have e' : q.1 = k := h1.symm.trans e
      have b : valueAt (q :: qs) k = some q.2 := by simp [valueAt, List.find?_cons, e']
      rw [valV_pos e, b]; exact h2
    · have e' : ¬ q.1 = k := fun z => e (h1.trans z)
      have b : valueAt (q :: qs) k = valueAt qs k := by simp [valueAt, List.find?_cons, e']
      rw [valV_neg e, b]; exact ih
theorem KV.any {kvs : List (κ × V)} {vs : List (κ × Value)} (r : KV kvs vs) (k : κ) : (kvs.any fun kv => decide (kv.1 = k)) = vs.any fun kv => decide (kv.1 = k) := by
  unfold KV at r
  induction r with
  | nil => rfl
  | cons h t ih => rw [List.any_cons, List.any_cons, ih, h.1]
theorem KV.repl {kvs : List (κ × V)} {vs : List (κ × Value)} (r : KV kvs vs) (k : κ) {y : V} {u : Value} (ry : RelV y u) :
    KV (kvs.map fun kv => if kv.1 = k then (kv.1, y) else kv) (vs.map fun kv => if kv.1 = k then (kv.1, u) else kv) := by
  unfold KV at r ⊢
  induction r with
  | nil => exact .nil
  | @cons p q ps qs h t ih =>
    rw [List.map_cons, List.map_cons]
    refine .cons ?_ ih
    obtain ⟨h1, h2⟩ := h
    by_cases e : p.1 = k
    · rw [if_pos e, if_pos (h1.symm.trans e)]; exact ⟨h1, ry⟩
    · rw [if_neg e, if_neg (fun z => e (h1.trans z))]; exact ⟨h1, h2⟩
theorem KV.put {kvs : List (κ × V)} {vs : List (κ × Value)} (r : KV kvs vs) (k : κ) {y : V} {u : Value} (ry : RelV y u) : KV (putK kvs k y) (stored vs k u) := by
  unfold putK stored
  rw [r.any k]
  by_cases e : (vs.any fun kv => decide (kv.1 = k)) = true
  · rw [if_pos e, if_pos e]; exact r.repl k ry
  · rw [if_neg e, if_neg e]; exact Paired.snoc r ⟨rfl, ry⟩
theorem KV.drop {kvs : List (κ × V)} {vs : List (κ × Value)} (r : KV kvs vs) (k : κ) : KV (dropK kvs k) (without vs k) := by
  unfold KV at r ⊢
  unfold dropK without
  induction r with
  | nil => exact .nil
  | @cons p q ps qs h t ih =>
    obtain ⟨h1, h2⟩ := h
    rw [List.filter_cons, List.filter_cons]
    by_cases e : p.1 = k
    · have a : ¬ decide (p.1 ≠ k) = true := by simp [e]
      have b : ¬ decide (q.1 ≠ k) = true := by simp [h1.symm.trans e]
      rw [if_neg a, if_neg b]; exact ih
    · have e' : ¬ q.1 = k := fun z => e (h1.trans z)
      have a : decide (p.1 ≠ k) = true := by simp [e]
      have b : decide (q.1 ≠ k) = true := by simp [e']
      rw [if_pos a, if_pos b]; exact .cons ⟨h1, h2⟩ ih
theorem KV.length {kvs : List (κ × V)} {vs : List (κ × Value)} (r : KV kvs vs) : kvs.length = vs.length := Paired.length r
end


/-! ### a tracked dict, its keys ints and texts or tuples of these -/
/-- raw entries of a dict with tuple keys -/
abbrev KT (H : Hp) : List (List Key × V) → List (List Key × Addr × Value) → Prop := Paired fun p q => p.1 = q.1 ∧ H q.2.1 = some (.tup (p.1.map kV)) ∧ RelV p.2 q.2.2
theorem KT.val {H : Hp} {kvs : List (List Key × V)} {xs : List (List Key × Addr × Value)} (r : KT H kvs xs) (k : List Key) : RelO (valV kvs k) ((atKey xs k).map (·.2)) := by
  induction r with
  | nil => exact True.intro
  | @cons p q ps qs h t ih =>
    obtain ⟨h1, _, h2⟩ := h
    by_cases e : p.1 = k
    · have e' : q.1 = k := h1.symm.trans e
      have b : atKey (q :: qs) k = some q.2 := by simp [atKey, List.find?_cons, e']
      rw [valV_pos e, b]; exact h2
    · have e' : ¬ q.1 = k := fun z => e (h1.trans z)
      have b : atKey (q :: qs) k = atKey qs k := by simp [atKey, List.find?_cons, e']
      rw [valV_neg e, b]; exact ih
theorem KT.repl {H : Hp} {kvs : List (List Key × V)} {xs : List (List Key × Addr × Value)} (r : KT H kvs xs) (k : List Key) {y : V} {u : Value} (ry : RelV y u) :
    KT H (kvs.map fun kv => if kv.1 = k then (kv.1, y) else kv) (xs.map (putAt k u)) := by
  induction r with
  | nil => exact .nil
  | @cons p q ps qs h t ih =>
    rw [List.map_cons, List.map_cons]
    refine .cons ?_ ih
    obtain ⟨h1, h2, h3⟩ := h
    unfold putAt
    by_cases e : p.1 = k
    · rw [if_pos e, if_pos (h1.symm.trans e)]; exact ⟨h1, h2, ry⟩
    · rw [if_neg e, if_neg (fun z => e (h1.trans z))]; exact ⟨h1, h2, h3⟩
theorem KT.put {H : Hp} {kvs : List (List Key × V)} {xs : List (List Key × Addr × Value)} (r : KT H kvs xs) (k : List Key) {b : Addr} {y : V} {u : Value} (hb : H b = some (.tup (k.map kV))) (ry : RelV y u) :
    KT H (putK kvs k y) (storedH xs k b u) := by
  have e : (kvs.any fun kv => decide (kv.1 = k)) = (atKey xs k).isSome := by
    rw [valV_any, (r.val k).isSome_eq, Option.isSome_map]
  unfold putK storedH
  rw [e]
  by_cases q : (atKey xs k).isSome = true
  · rw [if_pos q, if_pos q]; exact r.repl k ry
  · rw [if_neg q, if_neg q]; exact Paired.snoc r ⟨rfl, hb, ry⟩
theorem KT.keeps {H H' : Hp} {kvs : List (List Key × V)} {xs : List (List Key × Addr × Value)} (r : KT H kvs xs) (ht : ∀ b ys, H b = some (.tup ys) → H' b = some (.tup ys)) : KT H' kvs xs :=
  Paired.mapP r fun _ _ z => ⟨z.1, ht _ _ z.2.1, z.2.2⟩

section
variable {P : Program} {w : World} {H : Hp} {h : Heap} {a : Addr}
end

/-- what the dict at a holds at the key y -/
def DGet (H : Hp) (a : Addr) (y : V) (r : Option V) : Prop :=
  (∃ kvs k, Rd H a (.dK kvs) ∧ y = kV k ∧ r = valV kvs k) ∨ ∃ kvs k b, Rd H a (.dT kvs) ∧ y = .ref b ∧ H b = some (.tup (k.map kV)) ∧ r = valV kvs k
/-- the heap behind a[y] = v -/
def DPut (H : Hp) (a : Addr) (y v : V) (H' : Hp) : Prop :=
  (∃ kvs k, H a = some (.dK kvs) ∧ y = kV k ∧ kvs.length < sizeLine ∧ H' = upd H a (.dK (putK kvs k v))) ∨
  ∃ kvs k b, H a = some (.dT kvs) ∧ y = .ref b ∧ H b = some (.tup (k.map kV)) ∧ kvs.length < sizeLine ∧ H' = upd H a (.dT (putK kvs k v))
theorem DGet.k {H : Hp} {a : Addr} {kvs : List (Key × V)} {k : Key} (e : H a = some (.dK kvs)) : DGet H a (kV k) (valV kvs k) := .inl ⟨kvs, k, .inl e, rfl, rfl⟩
theorem DGet.t {H : Hp} {a b : Addr} {kvs : List (List Key × V)} {k : List Key} (e : H a = some (.dT kvs)) (eb : H b = some (.tup (k.map kV))) : DGet H a (.ref b) (valV kvs k) := .inr ⟨kvs, k, b, .inl e, rfl, eb, rfl⟩
theorem DPut.k {H : Hp} {a : Addr} {kvs : List (Key × V)} {k : Key} {v : V} (e : H a = some (.dK kvs)) (hl : kvs.length < sizeLine) : DPut H a (kV k) v (upd H a (.dK (putK kvs k v))) := .inl ⟨kvs, k, e, rfl, hl, rfl⟩
theorem DPut.t {H : Hp} {a b : Addr} {kvs : List (List Key × V)} {k : List Key} {v : V} (e : H a = some (.dT kvs)) (eb : H b = some (.tup (k.map kV))) (hl : kvs.length < sizeLine) :
    DPut H a (.ref b) v (upd H a (.dT (putK kvs k v))) := .inr ⟨kvs, k, b, e, rfl, eb, hl, rfl⟩


section
variable {X : Cx} {pins : List (Addr × Obj)} {σ : St} {H : Hp} {s : Shared} {a : Addr} {y v : V} {u r : Value} {o : Option V} {A : Around} {E : Value → Shared → Prop}

end

section
variable {X : Cx} {pins : List (Addr × Obj)} {σ : St} {H : Hp} {s : Shared} {a : Addr} {kvs : List (Key × V)} {k : Key} {u : Value} {A : Around} {E : Value → Shared → Prop}
end


/-! ### readings and rules -/
section
variable {X : Cx} {o i e value : Expr} {pos pos' tpos : Pos} {td ty tv : TE}
end


/-! ### displays -/
section
variable {X : Cx} {pos : Pos}
end

/-! ### methods -/
/-- a method call o.m(e) of a built-in, with one argument: what must be seen of the text -/
structure M1 (X : Cx) (o : Expr) (m : Str) (apos : Pos) (e : Expr) (cpos : Pos) : Prop where
  base : attributeBase o m X.env (eval o X.env) = eval o X.env
  few : ((backTo cpos (starEach [e] X.env)).all (fun x => !x.1) && (backToKw cpos (keywordEach [] X.env)).all (fun x => x.1.isSome)
    && decide (([e] : List Expr).length + ([] : List Keyword).length + (if ([] : List Keyword).isEmpty then 0 else 1) < 30)) = true
  line : (apos.endLine == cpos.line) = true
  trees : backTo cpos (starEach [e] X.env) = [(false, eval e X.env)]
structure M2 (X : Cx) (o : Expr) (m : Str) (apos : Pos) (e f : Expr) (cpos : Pos) : Prop where
  base : attributeBase o m X.env (eval o X.env) = eval o X.env
  few : ((backTo cpos (starEach [e, f] X.env)).all (fun x => !x.1) && (backToKw cpos (keywordEach [] X.env)).all (fun x => x.1.isSome)
    && decide (([e, f] : List Expr).length + ([] : List Keyword).length + (if ([] : List Keyword).isEmpty then 0 else 1) < 30)) = true
  line : (apos.endLine == cpos.line) = true
  trees : backTo cpos (starEach [e, f] X.env) = [(false, eval e X.env), (false, eval f X.env)]

section
variable {X : Cx} {pins : List (Addr × Obj)} {σ : St} {H : Hp} {s : Shared} {a : Addr} {y d : V} {u r : Value} {o : Option V} {A : Around} {E : Value → Shared → Prop}
end

section
variable {X : Cx} {o e f : Expr} {apos cpos : Pos} {td ty tx : TE}
end

/-! ### dict(d): a copy -/
section
variable {X : Cx} {pins : List (Addr × Obj)} {σ : St} {H : Hp} {s : Shared} {a : Addr} {kvs : List (Key × V)} {A : Around} {E : Value → Shared → Prop}
end


section
variable {X : Cx} {pins : List (Addr × Obj)} {σ : St} {H : Hp} {s : Shared} {a : Addr} {y : V} {u : Value} {A : Around} {E : Value → Shared → Prop}
end
end L2

namespace L2
open PySem PySem.Spec PyProof.Rows
section
variable {X : Cx}
end
/-! ### a dict's pairs: keys that differ -/
section
variable {κ : Type} [DecidableEq κ]
end
end L2

set_option Elab.async false
set_option linter.all false
set_option maxRecDepth 100000
set_option maxHeartbeats 4000000
namespace Stow
open PySem L2 PyProof.Rows
/-! ### shifts of large numbers, | 1, is True, kinds of values, a dict's display -/
def CShl (i j : Int) : Prop := 0 ≤ j ∧ j ≤ 1000 ∧ i.natAbs < 2 ^ 220
section
variable {X : Cx}
theorem op_shlB : OpR X (binaryOp .LShift) (rI CShl fun i j => .int (i * 2 ^ j.toNat)) := opI fun i j _ _ _ _ _ hc q =>
  lshift_int hc.1 (by
    obtain ⟨h0, h1, h2⟩ := hc
    have := PyProof.Rows.intBits_le h2
    omega) q
theorem op_isB : OpR X (compareOp .Is) (fun x y H Q => ∃ c d, x = .bl c ∧ y = .bl d ∧ Q (.bl (c == d)) H) := by
  intro pins s σ H x y v u Q I rx ry h
  obtain ⟨c, d, rfl, rfl, q⟩ := h
  cases rx
  cases ry
  exact is_bool ⟨.bl (c == d), H, I, rfl, q⟩
end
theorem r_isB {c d : Bool} {P : Bool → Bool → Prop} (q : P c d) : ∃ c' d', V.bl c = V.bl c' ∧ V.bl d = V.bl d' ∧ P c' d' := ⟨c, d, rfl, rfl, q⟩
theorem bitOr_one (n : Int) : Builtin.bitOr (n * 2) 1 = n * 2 + 1 := by
  rw [PyProof.Rows.bitOr_and]
  have e : Builtin.bitAnd (n * 2) 1 = (n * 2) % 2 := by rw [bitAnd_m1]
  rw [e]
  omega
end Stow

set_option Elab.async false
set_option linter.all false
set_option maxRecDepth 100000
set_option maxHeartbeats 4000000
namespace Stow
open PySem L2 PyProof.Rows
/-! ### list comprehensions with several targets and with names of the def around -/
section
variable {prog : Program} {w : World} {A : Around} {R : Result → Shared → Prop} {s : Shared}
theorem comp_turns {elt tgt src : Expr} {cs : List Expr} {sc : Scope} {ps : Pos} {itv accv : Value} {ev : Env} (J : Nat → Shared → Prop)
    (step : ∀ k t, J k t → wpAny (model prog w) A (pyNext itv) (fun r t1 => match r with
      | none => R (.ok .next) t1
      | some x => wpAny (model prog w) A (letOwnedTupleGo tgt itv x) (fun _ t2 => wpAny (model prog w) A (assign tgt ev x) (fun _ t3 =>
          wpAny (model prog w) A (forIn cs true fun c r => if r = true then do let ok ← isTrue c ev (eval c ev); pure (ForInStep.yield ok) else pure (ForInStep.yield r)) (fun good t4 =>
            if good = true then wpAny (model prog w) A (eval elt ev) (fun y t5 => wpAny (model prog w) A (call (.builtin "list.append") [accv, y]) (fun _ t6 => ∃ j, j < k ∧ J j t6) (notedBy (model prog w) A ev fun e t' => R (.error e) t') t5) (notedBy (model prog w) A ev fun e t' => R (.error e) t') t4
            else ∃ j, j < k ∧ J j t4) (notedBy (model prog w) A ev fun e t' => R (.error e) t') t3) (notedBy (model prog w) A ev fun e t' => R (.error e) t') t2) (notedBy (model prog w) A ev fun e t' => R (.error e) t') t1) (notedBy (model prog w) A ev fun e t' => R (.error e) t') t)
    (k0 : Nat) (j0 : J k0 s) : codeAny (model prog w) A (.compLoop (.ListComp elt [⟨tgt, src, cs, 0⟩] sc ps) 0 itv accv ev) R s := by
  refine codeAny_loop rfl J (fun k t hJ => ?_) k0 j0
  show wpAny _ A ((compTurn (.ListComp elt [⟨tgt, src, cs, 0⟩] sc ps) 0 itv accv ev).onRaise (fun x => do noteFrame x ev; theTreesLotGoes x)) _ _ t
  refine wpAny_noted ?_
  rw [compTurn_list]
  refine wpAny_bind (wpAny_standAt (wpAny_bind (wpAny_mono (step k t hJ) (fun r t1 g1 => ?_) fun _ _ z => z)))
  cases r with
  | none => exact wpAny_pure g1
  | some x =>
    refine wpAny_bind (wpAny_mono g1 (fun _ t2 g2 => ?_) fun _ _ z => z)
    refine wpAny_bind (wpAny_mono g2 (fun _ t3 g3 => ?_) fun _ _ z => z)
    refine wpAny_bind (wpAny_mono g3 (fun good t4 g4 => ?_) fun _ _ z => z)
    cases good with
    | false => exact wpAny_pure ⟨rfl, g4⟩
    | true => exact wpAny_bind (wpAny_bind (wpAny_mono g4 (fun y t5 g5 => wpAny_bind (wpAny_mono g5 (fun _ t6 g6 => wpAny_pure (wpAny_pure ⟨rfl, g6⟩)) fun _ _ z => z)) fun _ _ z => z))
end
theorem closure_go {env : Env} : ∀ (names : List (Str × NameKind)) (acc : List (Str × Addr)), (∀ y ∈ names, y.2 = .free → ∃ c, env.cells.lookup y.1 = some c) → (∀ x c, acc.lookup x = some c → env.cells.lookup x = some c) →
    ∃ cl, (forIn names acc fun x r => (do let (name, kind) := x; if (kind == NameKind.free) = true then do let c ← cellOf env name; pure (ForInStep.yield ((name, c) :: r)) else pure (ForInStep.yield r)) : Sem (List (Str × Addr))) = pure cl ∧
      (∀ x c, cl.lookup x = some c → env.cells.lookup x = some c) ∧ (∀ y ∈ names, y.2 = .free → ∃ c, cl.lookup y.1 = some c) ∧ (∀ x c, acc.lookup x = some c → ∃ c', cl.lookup x = some c')
  | [], acc, _, ha => ⟨acc, by simp, ha, fun y hy => by simp at hy, fun x c e => ⟨c, e⟩⟩
  | (n, k) :: r, acc, h, ha => by
    by_cases hk : k = .free
    · obtain ⟨c, hc⟩ := h (n, k) List.mem_cons_self hk
      obtain ⟨cl, e1, e2, e3, e4⟩ := closure_go r ((n, c) :: acc) (fun y hy => h y (List.mem_cons_of_mem _ hy)) (fun x d e => by
        by_cases hx : x = n
        · subst hx
          rw [List.lookup_cons_self] at e
          cases e
          exact hc
        · rw [List.lookup_cons, show (x == n) = false by simpa using hx] at e
          exact ha x d e)
      refine ⟨cl, ?_, e2, fun y hy hf => ?_, fun x d e => ?_⟩
      · rw [List.forIn_cons]
        subst hk
        have ec : cellOf env n = pure c := by unfold cellOf; rw [hc]
        simp only [beq_self_eq_true, if_true, ec, pure_bind]
        exact e1
      · rcases List.mem_cons.mp hy with z | z
        · subst z
          exact e4 n c (by rw [List.lookup_cons_self])
        · exact e3 y z hf
      · by_cases hx : x = n
        · subst hx
          exact e4 x c (by rw [List.lookup_cons_self])
        · exact e4 x d (by rw [List.lookup_cons, show (x == n) = false by simpa using hx]; exact e)
    · obtain ⟨cl, e1, e2, e3, e4⟩ := closure_go r acc (fun y hy => h y (List.mem_cons_of_mem _ hy)) ha
      refine ⟨cl, ?_, e2, fun y hy hf => ?_, e4⟩
      · rw [List.forIn_cons]
        have : (k == NameKind.free) = false := by simpa using hk
        simp only [this, Bool.false_eq_true, if_false, pure_bind]
        exact e1
      · rcases List.mem_cons.mp hy with z | z
        · subst z
          exact absurd hf hk
        · exact e3 y z hf
theorem closure_ok {scope : Scope} {env : Env} (h : ∀ y ∈ scope.names, y.2 = .free → ∃ c, env.cells.lookup y.1 = some c) :
    ∃ cl, closureFor scope env = pure cl ∧ (∀ x c, cl.lookup x = some c → env.cells.lookup x = some c) ∧ (∀ y ∈ scope.names, y.2 = .free → ∃ c, cl.lookup y.1 = some c) := by
  obtain ⟨cl, e1, e2, e3, _⟩ := closure_go scope.names [] h (fun x c e => by simp at e)
  refine ⟨cl, ?_, e2, e3⟩
  unfold closureFor
  simp only [bind_pure] at *
  exact e1
section
variable {X : Cx}
abbrev Cx.blockG (X : Cx) (scope : Scope) (cl : List (Str × Addr)) (C : Addr) (N : List Str) (s₀ : Shared) (H₀ : Hp) (ex : List Addr) : Cx :=
  { X with N := N, s₀ := s₀, H₀ := H₀, env := compEnvC scope cl C X.env, outer := X.stack, stack := X.stack, ex := ex, fn := fun _ => false, pn := [], xe := fun _ _ => False }
theorem blockG_cx {pins : List (Addr × Obj)} {σ : L2.St} {H : Hp} {s : Shared} {scope : Scope} {cl : List (Str × Addr)} {C : Addr} {N : List Str} {fp : List Addr} (I : Inv X pins σ H s) (hk : scope.kind = .function) (hC : s.heap.objs.size ≤ C)
    (hcl : ∀ x c, cl.lookup x = some c → X.env.cells.lookup x = some c) (hhas : ∀ y, (relabel scope X.env).names.lookup y = some .cell ∨ (relabel scope X.env).names.lookup y = some .free → ∃ c, cl.lookup y = some c)
    (ho : ∀ b ∈ fp, ∃ o, s.heap.get? b = some o ∧ ∀ v, o.data ≠ .cell v) (hf : ∀ b ∈ fp, FpOk X pins H b) :
    (Cx.blockG X scope cl C N s H fp).Ok where
  mod := I.ok.mod
  kind := hk
  glob := I.ok.glob
  blt := I.ok.blt
  above := hC
  inj := fun x y c e1 e2 => I.ok.inj x y c (hcl x c e1) (hcl y c e2)
  has := fun y e => hhas y e
  cab := fun _ _ e => nomatch e
  hd := I.ok.hd
  frames := I.ok.frames
  stk := .inl rfl
  exf := fun b hb => ⟨fun z => by
    obtain ⟨o, e, _⟩ := ho b hb
    have := Nat.lt_of_lt_of_le (Heap.lt_size e) hC
    rw [z] at this
    exact Nat.lt_irrefl _ this, fun x c e => (hf b hb).2.2.2.2.1 x c (hcl x c e)⟩
  bs := I.bs
  bsz := Nat.le_trans I.ok.bsz I.sz
  noex := fun b o e hb => by
    rcases (hf b hb).2.2.2.1 with z | z
    · exact I.ok.noex b o e z
    · exact absurd (Nat.lt_of_lt_of_le (Heap.lt_size (I.ok.bs b o e).1) z) (Nat.lt_irrefl _)
  exfs := fun b hb z => by
    rcases List.mem_cons.mp (I.stkSub b z) with e | e
    · exact (hf b hb).2.1 e
    · exact (hf b hb).2.2.1 e
  funs := I.stack
  frf := I.stkFree
/-- the reading: n own names, then those of the def around at the places is -/
def CompH (n : Nat) (fs : L2.St) (J : It) (g : TG) (tt : TT) (te : TE) (Q : VK) (H1 : Hp) : Prop := ∀ D, H1 D = none → ∃ W : Nat → Nat → List V → Hp → Prop, (∃ m, W 0 m [] (upd H1 D (.lst []))) ∧ ∀ i m ys H2, W i m ys H2 →
  (J.stop i H2 ∧ Q (.ref D) H2) ∨ (J.go i H2 ∧ ∀ x H3, J.yld i H2 x H3 → ∀ τ : L2.St, τ.length = n → g x (τ ++ fs) H3 fun σ1 H4 => (∃ τ' : L2.St, τ'.length = n ∧ σ1 = τ' ++ fs) ∧ tt σ1 H4 fun b H5 =>
    if b = true then te σ1 H5 fun y H6 => H6 D = some (.lst ys) ∧ ys.length < sizeLine ∧ ∃ m', m' < m ∧ W (i + 1) m' (ys ++ [y]) (upd H6 D (.lst (ys ++ [y]))) else ∃ m', m' < m ∧ W (i + 1) m' ys H5)
def tCompG (n : Nat) (is : List Nat) (wi : TI) (g : TG) (tt : TT) (te : TE) : TE := fun σ H Q => wi σ H fun J H1 => CompH n (is.map fun k => σ.getD k none) J g tt te Q H1
/-- the names of the def around -/
def Caught (X : Cx) (scope : Scope) (F : List Str) (is : List Nat) : Prop := F.length = is.length ∧ ∀ (j : Nat) (y : Str) (k : Nat), F[j]? = some y → is[j]? = some k → X.N[k]? = some y ∧ X.env.kindOf y = some .cell ∧ (relabel scope X.env).names.lookup y = some .cell
theorem comp_blockG {elt iter tg : Expr} {pos : Pos} {ifs : List Expr} {scope : Scope} {O F : List Str} {is : List Nat} {cl : List (Str × Addr)} {g : TG} {tt : TT} {te : TE} {pins : List (Addr × Obj)} {σ : L2.St} {s2 : Shared} {H2 : Hp} {it : Addr} {fp : List Addr} {tn : Nat → Heap → Prop} {J : It} {Q : VK} {RR : Value → Addr → Result → Shared → Prop}
    (hc : X.calm = true) (hkind : scope.kind = .function) (hcell : ∀ y ∈ scope.names, y.2 ≠ .cell)
    (hcl : ∀ x c, cl.lookup x = some c → X.env.cells.lookup x = some c) (hhas : ∀ y, (relabel scope X.env).names.lookup y = some .cell ∨ (relabel scope X.env).names.lookup y = some .free → ∃ c, cl.lookup y = some c) (hF : Caught X scope F is)
    (hG : ∀ cl C s₀ H₀ ex, PG (Cx.blockG X scope cl C (O ++ F) s₀ H₀ ex) tg g) (hT : ∀ cl C s₀ H₀ ex, PTs (Cx.blockG X scope cl C (O ++ F) s₀ H₀ ex) ifs tt) (hE : ∀ cl C s₀ H₀ ex, PE (Cx.blockG X scope cl C (O ++ F) s₀ H₀ ex) elt te)
    (I2 : Inv X pins σ H2 s2) (T : Turn X.prog X.w X.K tg J fp it tn) (st2 : tn 0 s2.heap) (f2 : ∀ b ∈ fp, FpOk X pins H2 b)
    (h : CompH O.length (is.map fun k => σ.getD k none) J g tt te Q H2)
    (hRR : ∀ D C H' s', Inv X pins σ H' s' → FpOk X pins H' C → (∃ m, s'.heap.Ns C m) → Q (.ref D) H' → RR (.ref D) C (.ok .next) s') :
    wpAny (model X.prog X.w) X.A (newList []) (fun acc s₃ => wpAny (model X.prog X.w) X.A (newFunctionEnv scope X.env.globals cl [] X.env.qual none .none (some X.env)) (fun cenv s₄ =>
      codeAny (model X.prog X.w) X.A (.compStart (.ListComp elt [⟨tg, iter, ifs, 0⟩] scope pos) 0 (.ref it) acc { cenv with scope := relabel scope X.env }) (RR acc cenv.locals) s₄) X.xe s₃) X.xe s2 := by
  refine wpAny_newObj_type (wpAny_newFunctionEnv hcell (by intro y hy; simp at hy) (fun h₁ hns₁ hsb₁ => ?_) hkind)
  dsimp only at hns₁ hsb₁ ⊢
  generalize hG0 : s2.heap.push { cls := .type "list", dict := none, data := .seq ([] : List Value).toArray } = G at hns₁ hsb₁ ⊢
  have hCs : G.objs.size = s2.heap.objs.size + 1 := by rw [← hG0, Heap.size_push]
  have hDC : s2.heap.objs.size ≠ G.objs.size := by rw [hCs]; exact Nat.ne_of_lt (Nat.lt_succ_self _)
  have hCle : s2.heap.objs.size ≤ G.objs.size := by rw [hCs]; exact Nat.le_succ _
  have old : ∀ b o, s2.heap.get? b = some o → h₁.get? b = some o := fun b o e => hsb₁.extBut b o (by rw [hCs]; exact Nat.ne_of_lt (Nat.lt_succ_of_lt (Heap.lt_size e))) (Heap.get?_push_of_some _ (hG0 ▸ Heap.get?_push_of_some _ e))
  have eD : h₁.get? s2.heap.objs.size = some { cls := .type "list", dict := none, data := .seq ([] : List Value).toArray } := hsb₁.extBut _ _ hDC (Heap.get?_push_of_some _ (hG0 ▸ Heap.get?_push_size _ rfl))
  have nD : H2 s2.heap.objs.size = none := I2.hok.fresh (Nat.le_refl _)
  have nC : H2 G.objs.size = none := I2.hok.fresh hCle
  obtain ⟨W, ⟨m0, w0⟩, turn⟩ := h s2.heap.objs.size nD
  generalize efs : (is.map fun k => σ.getD k none) = fs at turn
  have fre : ∀ b ∈ fp, upd H2 s2.heap.objs.size (.lst []) b = none := fun b hb => by
    obtain ⟨o, e, _⟩ := T.obj _ _ st2 b hb
    rw [upd_ne (Nat.ne_of_lt (Heap.lt_size e))]
    exact (f2 b hb).1
  have loop : ∀ s4 : Shared, s4 = { s2 with heap := h₁, toks := s2.toks + ([] : List (Str × Value)).length } →
      codeAny (model X.prog X.w) X.A (.compLoop (.ListComp elt [⟨tg, iter, ifs, 0⟩] scope pos) 0 (.ref it) (.ref s2.heap.objs.size) (compEnvC scope cl G.objs.size X.env)) (RR (.ref s2.heap.objs.size) G.objs.size) s4 := by
    rintro s4 rfl
    have ok := blockG_cx (N := O ++ F) I2 hkind hCle hcl hhas (T.obj _ _ st2) f2
    have IB : Inv (Cx.blockG X scope cl G.objs.size (O ++ F) s2 H2 fp) [] (List.replicate O.length none ++ fs) (upd H2 s2.heap.objs.size (.lst [])) { s2 with heap := h₁, toks := s2.toks + ([] : List (Str × Value)).length } := by
      refine ⟨ok, rfl, I2.bare, Un.laid old (Nat.le_refl _) nD, ⟨_, hns₁, fun i y v e1 e2 _ => ?_⟩, (fun x c e => ?_), ?_, (fun x c e => ?_), (fun p hp => nomatch hp), I2.hok.laid old (Nat.le_refl _) ⟨Nat.zero_le _, [], 0, .nil, eD⟩, ?_⟩
      · have e1 : (O ++ F)[i]? = some y := e1
        by_cases hi : i < O.length
        · rw [List.getElem?_append_left (by rw [List.length_replicate]; exact hi), List.getElem?_replicate, if_pos hi] at e2
          cases e2
        · rw [List.getElem?_append_right (by omega)] at e1
          rw [List.getElem?_append_right (by rw [List.length_replicate]; omega), List.length_replicate, ← efs, List.getElem?_map] at e2
          obtain ⟨k, ek, ev⟩ := Option.map_eq_some_iff.mp e2
          obtain ⟨g1, g2, g3⟩ := hF.2 _ _ _ e1 ek
          have es : σ[k]? = some (some v) := by
            rw [List.getD_eq_getElem?_getD] at ev
            cases q : σ[k]? with
            | none => rw [q] at ev; cases ev
            | some z => rw [q] at ev; exact congrArg some ev
          obtain ⟨m, hm, hl⟩ := I2.loc
          obtain ⟨u, ru, lk⟩ := hl k y v g1 es (.inr (.inl g2))
          refine ⟨u, ru, .inr ⟨.inl g3, ?_⟩⟩
          rcases lk with ⟨z, _⟩ | ⟨_, c, c1, o, c2, c3⟩
          · rw [g2] at z; cases z
          · obtain ⟨c', e'⟩ := hhas y (.inl g3)
            have := hcl y c' e'
            rw [c1] at this
            cases this
            exact ⟨c, e', o, old c o c2, c3⟩
      · obtain ⟨v, o, c2, c3⟩ := I2.cell x c (hcl x c e)
        exact ⟨v, o, old c o c2, c3⟩
      · show upd H2 s2.heap.objs.size (.lst []) G.objs.size = none
        rw [upd_ne (Ne.symm hDC)]
        exact nC
      · obtain ⟨v, o, c2, c3⟩ := I2.cell x c (hcl x c e)
        show upd H2 s2.heap.objs.size (.lst []) c = none
        rw [upd_ne (Nat.ne_of_lt (Heap.lt_size c2))]
        exact I2.freeC x c (hcl x c e)
      · show (List.replicate O.length none ++ fs).length = (O ++ F).length
        rw [List.length_append, List.length_append, List.length_replicate, ← efs, List.length_map, hF.1]
    have stat : ∀ {H' : Hp}, (∀ b ∈ fp, H' b = none) → ∀ b ∈ fp, FpOk (Cx.blockG X scope cl G.objs.size (O ++ F) s2 H2 fp) [] H' b := fun hn b hb =>
      ⟨hn b hb, (ok.exf b hb).1, ok.exfs b hb, .inl hb, (ok.exf b hb).2, (fun p hp => nomatch hp)⟩
    refine comp_turns (fun n s' => ∃ i ys τ H', Inv (Cx.blockG X scope cl G.objs.size (O ++ F) s2 H2 fp) [] (τ ++ fs) H' s' ∧ τ.length = O.length ∧ tn i s'.heap ∧ (∀ b ∈ fp, H' b = none) ∧ W i n ys H') ?_ m0
      ⟨0, [], _, _, IB, List.length_replicate, T.keep _ _ _ st2 fun b _ o e => old b o e, fre, w0⟩
    rintro n s3 ⟨i, ys, τ, H3, I3, hτ, st3, fr3, w3⟩
    rcases turn i n ys H3 w3 with ⟨stop, q⟩ | ⟨go, step⟩
    · refine wpAny_mono (T.done (Cx.blockG X scope cl G.objs.size (O ++ F) s2 H2 fp) rfl rfl rfl hc i [] s3 (τ ++ fs) H3 (fun _ _ => False) I3 (stat fr3) st3 stop) (fun r s4 ⟨hr, I4⟩ => ?_) (fun _ _ z => z.elim)
      subst hr
      obtain ⟨m, hn, _⟩ := I4.loc
      refine hRR _ G.objs.size H3 s4 (I2.call' (ch := fp) I4.os I4.base I4.hok I4.bare fun b hb => ?_) (I2.fpOk hCle I4.free) ⟨m, hn⟩ q
      obtain ⟨g0, g1, g2, g3, g4, g5⟩ := f2 b hb
      exact ⟨g3, g1, g4, g5⟩
    · refine wpAny_mono (T.item (Cx.blockG X scope cl G.objs.size (O ++ F) s2 H2 fp) rfl rfl rfl hc i [] s3 (τ ++ fs) H3 (fun _ _ => False) I3 (stat fr3) st3 go) (fun r s4 ⟨u, hr, h4⟩ => ?_) (fun _ _ z => z.elim)
      subst hr
      refine wpAny_mono h4 (fun _ s5 ⟨v, H5, I5, r5, y5, st5, fr5⟩ => ?_) (fun _ _ z => z.elim)
      have I5' := I5.pinned (stat fr5) (T.obj _ _ st5)
      refine wpAny_mono (hG _ _ _ _ _ _ s5 (τ ++ fs) H5 v u _ I5' r5 (step v H5 y5 τ hτ)) (fun _ s6 ⟨σ6, H6, I6, ⟨τ', hτ', e6⟩, q6⟩ => ?_) (fun _ _ z => z.elim)
      subst e6
      have again : ∀ {s7 : Shared} {H7 : Hp} {ys' : List V} {m' : Nat}, Inv (Cx.blockG X scope cl G.objs.size (O ++ F) s2 H2 fp) ([] ++ pinsAt fp s5.heap) (τ' ++ fs) H7 s7 → m' < n → W (i + 1) m' ys' H7 →
          ∃ m, m < n ∧ ∃ i ys τ H', Inv (Cx.blockG X scope cl G.objs.size (O ++ F) s2 H2 fp) [] (τ ++ fs) H' s7 ∧ τ.length = O.length ∧ tn i s7.heap ∧ (∀ b ∈ fp, H' b = none) ∧ W i m ys H' := fun {s7 H7 ys' m'} I7 hm w7 => by
        refine ⟨m', hm, i + 1, ys', τ', H7, I7.unpinned, hτ', T.keep _ _ _ st5 fun b hb o e => (I7.pin (b, o) (List.mem_append_right _ (List.mem_append_right _ (mem_pinsAt hb e)))).1, fun b hb => ?_, w7⟩
        obtain ⟨o, e, _⟩ := T.obj _ _ st5 b hb
        exact (I7.pin (b, o) (List.mem_append_right _ (List.mem_append_right _ (mem_pinsAt hb e)))).2.1
      refine wpAny_mono (hT _ _ _ _ _ _ s6 (τ' ++ fs) H6 _ I6 q6) (fun b s7 ⟨H7, I7, q7⟩ => ?_) (fun _ _ z => z.elim)
      cases b with
      | false =>
        obtain ⟨m', hm, w7⟩ := q7
        exact again I7 hm w7
      | true =>
        rw [if_pos rfl]
        refine wpAny_mono (hE _ _ _ _ _ _ s7 (τ' ++ fs) H7 _ I7 q7) (fun y' s8 ⟨y, H8, I8, ry, hD, hz, m', hm, w8⟩ => ?_) (fun _ _ z => z.elim)
        refine wpAny_mono (mt_append (X := Cx.blockG X scope cl G.objs.size (O ++ F) s2 H2 fp) _ s8 (τ' ++ fs) H8 (.ref s2.heap.objs.size) [y] (.ref s2.heap.objs.size) [y'] (fun _ H9 => H9 = upd H8 s2.heap.objs.size (.lst (ys ++ [y]))) I8 rfl (.cons ry .nil) ⟨s2.heap.objs.size, ys, y, rfl, rfl, hD, hz, rfl⟩) (fun _ s9 ⟨_, H9, I9, _, e9⟩ => ?_) (fun _ _ z => z.elim)
        subst e9
        exact again I9 hm w8
  exact codeAny_compStart_list (loop _ rfl) (T.self _ 0 _ _ _ (T.keep _ _ _ st2 fun b _ o e => old b o e) (loop _ rfl))
/-- [elt for targets in iter (if c)] -/
theorem pe_compG {elt iter tg : Expr} {pos : Pos} {ifs : List Expr} {scope : Scope} {wi : TI} {g : TG} {tt : TT} {te : TE} (O F : List Str) (is : List Nat) (hc : X.calm = true) (hi : PI X tg iter wi)
    (hG : ∀ cl C s₀ H₀ ex, PG (Cx.blockG X scope cl C (O ++ F) s₀ H₀ ex) tg g) (hT : ∀ cl C s₀ H₀ ex, PTs (Cx.blockG X scope cl C (O ++ F) s₀ H₀ ex) ifs tt) (hE : ∀ cl C s₀ H₀ ex, PE (Cx.blockG X scope cl C (O ++ F) s₀ H₀ ex) elt te)
    (hF : Caught X scope F is) (hfc : ∀ y ∈ scope.names, y.2 = .free → X.env.kindOf y.1 = some .cell) (hrl : ∀ y, (relabel scope X.env).names.lookup y = some .cell ∨ (relabel scope X.env).names.lookup y = some .free → ∃ z ∈ scope.names, z.1 = y ∧ z.2 = .free)
    (hkind : scope.kind = .function := by rfl) (hcell : ∀ y ∈ scope.names, y.2 ≠ .cell := by decide +kernel)
    (hnames : ∀ y ∈ scope.names, y.2 = .local → scope.names.lookup y.1 = some .local := by decide +kernel) (hs : ∀ y, foldedSetIterable iter X.env y = pure y := by intro _; rfl) :
    PE X (.ListComp elt [⟨tg, iter, ifs, 0⟩] scope pos) (tCompG O.length is wi g tt te) := by
  intro pins s σ H Q I h
  rw [eval_ListComp]
  obtain ⟨cl, hcf, hcl, hca⟩ := closure_ok (scope := scope) (env := X.env) fun y hy hf => I.ok.has y.1 (.inl (hfc y hy hf))
  refine wpAny_comprehension_free (use := none) (cl := cl) rfl hs hcf hkind hnames (wpAny_mono (hi pins s σ H _ I h) (fun v s1 h1 => wpAny_mono h1 (fun itv s2 h2 => ?_) fun _ _ e => e) fun _ _ e => e)
  obtain ⟨it, fp, tn, J, H2, e, I2, T, st2, f2, R2⟩ := h2
  subst e
  refine comp_blockG (O := O) (F := F) (is := is) (Q := Q) (RR := fun acc C => compPost (model X.prog X.w) X.A X.xe none (EP X pins σ Q) acc C) hc hkind hcell hcl (fun y hy => ?_) hF hG hT hE I2 T st2 f2 R2 ?_
  · obtain ⟨z, hz, e1, e2⟩ := hrl y hy
    subst e1
    exact hca z hz e2
  · rintro D C H' s' I' f' ⟨m, hn⟩ q
    obtain ⟨f0, f1, f2', f3, f4, f5⟩ := f'
    refine ⟨m, hn, fun h' sb => ⟨.ref D, H', I'.turned (t' := s'.toks) (fun b o hb e => (sb.2 b hb).trans e) f0 f1 f3 f4 f5, rfl, q⟩⟩
/-- name = [elt for targets in iter (if c)] -/
theorem ps_setCompG {elt iter tg : Expr} {y : Str} {py pos spos : Pos} {ifs : List Expr} {scope : Scope} {wi : TI} {g : TG} {tt : TT} {te : TE} {i : Nat} (O F : List Str) (is : List Nat) (hN : X.N.Nodup) (hi0 : X.N[i]? = some y) (hy : Loc X.env.scope y) (hc : X.calm = true) (hi : PI X tg iter wi)
    (hG : ∀ cl C s₀ H₀ ex, PG (Cx.blockG X scope cl C (O ++ F) s₀ H₀ ex) tg g) (hT : ∀ cl C s₀ H₀ ex, PTs (Cx.blockG X scope cl C (O ++ F) s₀ H₀ ex) ifs tt) (hE : ∀ cl C s₀ H₀ ex, PE (Cx.blockG X scope cl C (O ++ F) s₀ H₀ ex) elt te)
    (hF : Caught X scope F is) (hfc : ∀ y ∈ scope.names, y.2 = .free → X.env.kindOf y.1 = some .cell) (hrl : ∀ y, (relabel scope X.env).names.lookup y = some .cell ∨ (relabel scope X.env).names.lookup y = some .free → ∃ z ∈ scope.names, z.1 = y ∧ z.2 = .free)
    (hsw : swapsWith (.ListComp elt [⟨tg, iter, ifs, 0⟩] scope pos) (some (.Name y py)) spos.line X.env = pure true := by rfl)
    (hkind : scope.kind = .function := by rfl) (hcell : ∀ y ∈ scope.names, y.2 ≠ .cell := by decide +kernel)
    (hnames : ∀ y ∈ scope.names, y.2 = .local → scope.names.lookup y.1 = some .local := by decide +kernel) (hs : ∀ y, foldedSetIterable iter X.env y = pure y := by intro _; rfl)
    (hf : X.fn y = true ∨ X.env.scope.names.lookup y = some .local := by first | exact .inl rfl | exact .inr rfl | assumption) :
    PS X (.Assign [.Name y py] (.ListComp elt [⟨tg, iter, ifs, 0⟩] scope pos) spos) (tAsg (tCompG O.length is wi g tt te) (gName i)) := by
  intro pins s σ H D I h
  rw [exec_Assign_Name_used _ _ _ _ hsw]
  obtain ⟨cl, hcf, hcl, hca⟩ := closure_ok (scope := scope) (env := X.env) fun y hy hf => I.ok.has y.1 (.inl (hfc y hy hf))
  refine wpAny_bind (wpAny_standAt (wpAny_bind ?_))
  show wpAny _ X.A (do let _ ← comprehension (.ListComp elt [⟨tg, iter, ifs, 0⟩] scope pos) scope X.env _ (newList []) false (eval iter X.env) (some (assign (.Name y py) X.env))) _ _ s
  refine wpAny_bind (wpAny_mono (wpAny_comprehension_free (use := some (assign (.Name y py) X.env)) (cl := cl) (Q := fun _ s' => SP X pins D .next s') rfl hs hcf hkind hnames
    (wpAny_mono (hi pins s σ H _ I h) (fun v s1 h1 => wpAny_mono h1 (fun itv s2 h2 => ?_) fun _ _ e => e) fun _ _ e => e)) (fun _ s' hq => wpAny_pure (wpAny_pure hq)) fun _ _ e => e)
  obtain ⟨it, fp, tn, J, H2, e, I2, T, st2, f2, R2⟩ := h2
  subst e
  refine comp_blockG (O := O) (F := F) (is := is) (Q := fun v H1 => gName i v σ H1 D.nx) (RR := fun acc C => compPost (model X.prog X.w) X.A X.xe (some (assign (.Name y py) X.env)) (fun _ s' => SP X pins D .next s') acc C) hc hkind hcell hcl (fun y hy => ?_) hF hG hT hE I2 T st2 f2 R2 ?_
  · obtain ⟨z, hz, e1, e2⟩ := hrl y hy
    subst e1
    exact hca z hz e2
  · rintro D' C H' s' I' f' ⟨m, hn⟩ q
    obtain ⟨f0, f1, f2', f3, f4, f5⟩ := f'
    show wpAny _ X.A (assign (.Name y py) X.env (.ref D')) _ _ _
    refine wpAny_assign_Name (store_ok2 I' hN hi0 hy (v := .ref D') rfl (fun s'' I'' ⟨a, sb, ha⟩ => ?_) hf)
    have ne : C ≠ a := by
      rcases ha with e | e
      · rw [e]; exact f1
      · exact fun z => f4 _ _ e z.symm
    exact ⟨m, hn.sameBut sb ne, fun h' sb' => ⟨_, H', I''.turned (t' := s''.toks) (fun b o hb e => (sb'.2 b hb).trans e) f0 f1 f3 f4 f5, q⟩⟩
theorem ix_listK {K : PySem.W.Frag} (hK : X.K = K) : IxR X (rIxL K) := hK ▸ ix_list
theorem pg_tupK {K : PySem.W.Frag} {es : List Expr} {k : Nat} {t : TGs} {n : Nat} {pos : Pos} (hK : X.K = K) (hc : X.calm = true) (h : PGs X es t)
    (hn : (assignEach es X.env).length = n := by rfl) (hst : (assignEach es X.env).findIdx? (·.1) = none := by rfl) : PG X (.Tuple es k pos) (gTup K n t) := hK ▸ pg_tup hc h hn hst
theorem pt_truthK {K : PySem.W.Frag} {a : Expr} {ta : TE} (hK : X.K = K) (ha : PE X a ta) (he : ∀ whole, isTrue a X.env whole = (do let v ← whole; standAt a.pos; holding [v] (truthy v))) : PT X a (fun σ H Q => ta σ H fun x H' => ∃ k, TruV K x H' k ∧ Q k H') := by
  subst hK
  exact pt_truth ha he
theorem relabel_free {scope : Scope} {env : Env} {y : Str} (hcell : ∀ z ∈ scope.names, z.2 ≠ .cell) (h : (relabel scope env).names.lookup y = some .cell ∨ (relabel scope env).names.lookup y = some .free) : ∃ z ∈ scope.names, z.1 = y ∧ z.2 = .free := by
  have key : ∀ (l : List (Str × NameKind)) (k : NameKind), l.lookup y = some k → (y, k) ∈ l := by
    intro l k
    induction l with
    | nil => intro e; cases e
    | cons p r ih =>
      intro e
      obtain ⟨n, k'⟩ := p
      rw [List.lookup_cons] at e
      cases hb : y == n with
      | true =>
        rw [hb] at e
        cases e
        rw [eq_of_beq hb]
        exact List.mem_cons_self
      | false => rw [hb] at e; exact List.mem_cons_of_mem _ (ih e)
  have fin : ∀ k, (relabel scope env).names.lookup y = some k → k = .cell ∨ k = .free → ∃ z ∈ scope.names, z.1 = y ∧ z.2 = .free := fun k e hk => by
    obtain ⟨z, hz, ez⟩ := List.mem_map.mp (key _ _ e)
    obtain ⟨n, k0⟩ := z
    dsimp only at ez
    split at ez
    · rename_i hc
      simp only [Bool.and_eq_true, beq_iff_eq] at hc
      cases ez
      exact ⟨(y, k0), hz, rfl, hc.1.1⟩
    · cases ez
      rcases hk with rfl | rfl
      · exact absurd rfl (hcell _ hz)
      · exact ⟨_, hz, rfl, rfl⟩
  rcases h with h | h
  · exact fin _ h (.inl rfl)
  · exact fin _ h (.inr rfl)
theorem caught_one {scope : Scope} {y : Str} {k : Nat} (h1 : X.N[k]? = some y) (h2 : X.env.kindOf y = some .cell) (h3 : (relabel scope X.env).names.lookup y = some .cell) : Caught X scope [y] [k] := ⟨rfl, fun j z i e1 e2 => by
  cases j with
  | zero =>
    have g1 : y = z := by simpa using e1
    have g2 : k = i := by simpa using e2
    subst g1 g2
    exact ⟨h1, h2, h3⟩
  | succ j => simp at e1⟩
theorem caught_two {scope : Scope} {y y' : Str} {k k' : Nat} (h1 : X.N[k]? = some y) (h1' : X.N[k']? = some y') (h2 : X.env.kindOf y = some .cell) (h2' : X.env.kindOf y' = some .cell) (h3 : (relabel scope X.env).names.lookup y = some .cell) (h3' : (relabel scope X.env).names.lookup y' = some .cell) :
    Caught X scope [y, y'] [k, k'] := ⟨rfl, fun j z i e1 e2 => by
  match j with
  | 0 =>
    have g1 : y = z := by simpa using e1
    have g2 : k = i := by simpa using e2
    subst g1 g2
    exact ⟨h1, h2, h3⟩
  | 1 =>
    have g1 : y' = z := by simpa using e1
    have g2 : k' = i := by simpa using e2
    subst g1 g2
    exact ⟨h1', h2', h3'⟩
  | j + 2 => simp at e1⟩
theorem free_one {scope : Scope} {n : Str} (h : ∀ y ∈ scope.names, y.2 = .free → y.1 = n) (k : X.env.kindOf n = some .cell) : ∀ y ∈ scope.names, y.2 = .free → X.env.kindOf y.1 = some .cell := fun y hy hf => by rw [h y hy hf]; exact k
theorem free_two {scope : Scope} {n m : Str} (h : ∀ y ∈ scope.names, y.2 = .free → y.1 = n ∨ y.1 = m) (k : X.env.kindOf n = some .cell) (k' : X.env.kindOf m = some .cell) : ∀ y ∈ scope.names, y.2 = .free → X.env.kindOf y.1 = some .cell := fun y hy hf => by
  rcases h y hy hf with e | e
  · rw [e]; exact k
  · rw [e]; exact k'
end
section
variable {K : PySem.W.Frag} {σ : L2.St} {H : Hp} {Q : VK}
theorem r_compG {n : Nat} {is : List Nat} {wi : TI} {g : TG} {tt : TT} {te : TE} (h : wi σ H fun J H1 => CompH n (is.map fun k => σ.getD k none) J g tt te Q H1) : tCompG n is wi g tt te σ H Q := h
/-- one turn more -/
def Nx (n : Nat) (Pv : Addr → Nat → List V → Hp → Prop) (D : Addr) (i : Nat) (ys : List V) (H2 : Hp) : Prop := ∃ m', m' < n - i ∧ m' = n - (i + 1) ∧ i + 1 ≤ n ∧ Pv D (i + 1) ys H2
theorem nx_mk {n : Nat} {Pv : Addr → Nat → List V → Hp → Prop} {D : Addr} {i : Nat} {ys : List V} {H2 : Hp} (hi : i < n) (p : Pv D (i + 1) ys H2) : Nx n Pv D i ys H2 := ⟨_, by omega, rfl, hi, p⟩
/-- a comprehension over a list, by an invariant of one's own -/
theorem compH_list {a : Addr} {xs : List V} {n : Nat} {fs : L2.St} {g : TG} {tt : TT} {te : TE} (Pv : Addr → Nat → List V → Hp → Prop) (h0 : ∀ D, H D = none → Pv D 0 [] (upd H D (.lst [])))
    (hl : ∀ D i ys H2, i ≤ xs.length → Pv D i ys H2 → SqL K H2 a xs)
    (hs : ∀ D i x ys H2, H D = none → xs[i]? = some x → Pv D i ys H2 → ∀ τ : L2.St, τ.length = n → g x (τ ++ fs) H2 fun σ1 H4 => (∃ τ' : L2.St, τ'.length = n ∧ σ1 = τ' ++ fs) ∧ tt σ1 H4 fun b H5 =>
      if b = true then te σ1 H5 fun y H6 => H6 D = some (.lst ys) ∧ ys.length < sizeLine ∧ Nx xs.length Pv D i (ys ++ [y]) (upd H6 D (.lst (ys ++ [y]))) else Nx xs.length Pv D i ys H5)
    (hd : ∀ D ys H2, H D = none → Pv D xs.length ys H2 → Q (.ref D) H2) : CompH n fs (Itl K a) g tt te Q H := by
  intro D hD
  refine ⟨fun i m ys H2 => m = xs.length - i ∧ i ≤ xs.length ∧ Pv D i ys H2, ⟨_, rfl, Nat.zero_le _, h0 D hD⟩, ?_⟩
  rintro i m ys H2 ⟨rfl, hi, p⟩
  have q := hl D i ys H2 hi p
  by_cases hlt : i < xs.length
  · refine .inr ⟨⟨xs, xs[i], q, by simp [hlt]⟩, fun x H3 y τ hτ => ?_⟩
    obtain ⟨e, y⟩ := y
    subst e
    have ex := y xs q
    exact hs D i x ys _ hD ex p τ hτ
  · have e : i = xs.length := by omega
    subst e
    exact .inl ⟨⟨xs, q, Nat.le_refl _⟩, hd D ys H2 hD p⟩
end
end Stow
namespace Stow
open PySem L2 PyProof.Rows
/-! ### min of a list whose items are compared by what stands in the heap -/
section
variable {prog : Program} {w : World} {A : Around} {R : Result → Shared → Prop} {I : Addr} {fp wr : List Addr} {n : Nat} {P : Nat → Value → Prop} {St : Nat → Heap → Prop}
end
section
variable {prog : Program} {w : World} {A : Around} {E : Value → Shared → Prop} {s : Shared}
end
section
variable {X : Cx}
end
end Stow
namespace Stow
open PySem L2 PyProof.Rows
/-! ### own objects: isinstance, and the steps of their readings -/
structure InsK (K : PySem.W.Frag) (C : Addr) : Prop where
  cl : Cls K C
  ha : PySem.W.findIn K (.ref C) "__class__" = some (some (.builtin "object.__class__"))
  hn : PySem.W.specialIn K (.builtin "object.__class__") "__get__" = some (some (.builtin "getset_descriptor.__get__"))
  htk : PySem.W.takesIn K (.builtin "object.__class__") = some true
  hm : PySem.W.mroIn K C (.type "object") = some true
section
variable {X : Cx}
end
section
variable {K : PySem.W.Frag} {σ : L2.St} {H : Hp} {Q : VK} {D : Ends}
theorem r_isiO {a C dx C' : Addr} {fs : List (Str × V)} {b : Bool} {P : Bool → Prop} (h : H a = some (.ins C dx fs)) (z : InsK K C) (e : PySem.W.kitOne K (.ref C) (.ref C') = some b) (q : P b) :
    ∃ a' C1 dx' fs' C2 b', [V.ref a, V.ref C'] = [V.ref a', V.ref C2] ∧ H a' = some (.ins C1 dx' fs') ∧ InsK K C1 ∧ PySem.W.kitOne K (.ref C1) (.ref C2) = some b' ∧ P b' := ⟨a, C, dx, fs, C', b, rfl, h, z, e, q⟩
theorem r_sat {a C dx : Addr} {fs : List (Str × V)} {f : Str} {R : Addr → Addr → Addr → List (Str × V) → Prop} (h : H a = some (.ins C dx fs)) (c : Cls K C) (n : NoAttr K C f) (l : fs.length < 1000) (q : R a C dx fs) :
    ∃ a' C' dx' fs', V.ref a = V.ref a' ∧ H a' = some (.ins C' dx' fs') ∧ Cls K C' ∧ NoAttr K C' f ∧ fs'.length < 1000 ∧ R a' C' dx' fs' := ⟨a, C, dx, fs, rfl, h, c, n, l, q⟩
theorem r_mat {a C dx : Addr} {fs : List (Str × V)} {m : Str} {P : Prop} (h : H a = some (.ins C dx fs)) (l : fs.lookup m = none) (q : P) :
    ∃ a' dx' fs', V.ref a = V.ref a' ∧ H a' = some (.ins C dx' fs') ∧ fs'.lookup m = none ∧ P := ⟨a, dx, fs, rfl, h, l, q⟩
theorem r_make {C : Addr} {sp : Sp} {E : XK} {t : TA} (h : t σ H fun vs H1 => ∀ x dx, H1 x = none → H1 dx = none → dx ≠ x → sp (.ref x :: vs) (upd (upd H1 dx (.own x)) x (.ins C dx [])) (fun v H2 => v = .non ∧ Q (.ref x) H2) E) : tMake C sp [] E t σ H Q := by
  unfold tMake
  simp only [List.append_nil]
  exact h
end
section
variable {X : Cx}
/-- two lists of the same pieces, == -/
theorem op_eqLP (hu : X.A.units + 64 < cLine) : OpR X (compareOp .Eq) (fun x y H Q => ∃ a b us ws ps, x = .ref a ∧ y = .ref b ∧ H a = some (.lst us) ∧ H b = some (.lst ws) ∧ PcsAt H us ps ∧ PcsAt H ws ps ∧ Q (.bl true) H) := by
  intro pins s σ H x y v u Q I rx ry h
  obtain ⟨a, b, us, ws, ps, rfl, rfl, ha, hb, pu, pw, q⟩ := h
  cases rx
  cases ry
  obtain ⟨its, r1, p1, _⟩ := I.list (SqL.of ha)
  obtain ⟨its2, r2, p2, _⟩ := I.list (SqL.of hb)
  have l1 := r1.length
  have l2 := r2.length
  have m1 := pu.1
  have m2 := pw.1
  have key : SeqAt.RcAt X.A s (.ref a) (.ref b) ((List.range its.toArray.size).all (fun _ => true)) := by
    refine SeqAt.RcAt.lists p1.isList p2.isList (by rw [List.size_toArray, List.size_toArray]; omega) (by omega) fun j h1 h2 => ?_
    rw [List.size_toArray] at h1 h2
    have hj : j < ps.length := by omega
    obtain ⟨t1, e1, f1⟩ := pu.2 j ps[j] (by simp [hj])
    obtain ⟨t2, e2, f2⟩ := pw.2 j ps[j] (by simp [hj])
    obtain ⟨u1, g1, q1⟩ := r1.get e1
    obtain ⟨u2, g2, q2⟩ := r2.get e2
    cases q1
    cases q2
    obtain ⟨_, k1⟩ := List.getElem?_eq_some_iff.mp g1
    obtain ⟨_, k2⟩ := List.getElem?_eq_some_iff.mp g2
    have z := eq_tup_same (A := X.A.in1) (by show X.A.units + 1 < cLine; omega) I (SqT.of f1) (SqT.of f2) rfl
    rw [← k1, ← k2] at z
    simpa using z
  have e : ((List.range its.toArray.size).all (fun _ => true)) = true := by simp
  rw [e] at key
  exact key _ _ _ _ ⟨.bl true, H, I, rfl, q⟩
end
/-- all but x stays -/
def KeepX (x : Addr) (H H' : Hp) : Prop := ∀ b o, b ≠ x → H b = some o → H' b = some o
theorem KeepX.refl {x : Addr} {H : Hp} : KeepX x H H := fun _ _ _ h => h
theorem KeepX.of {x : Addr} {H H' : Hp} (s : Same H H') : KeepX x H H' := fun b o _ h => s b o h
theorem KeepX.trans {x : Addr} {H H' H'' : Hp} (s : KeepX x H H') (t : KeepX x H' H'') : KeepX x H H'' := fun b o n h => t b o n (s b o n h)
theorem KeepX.put {x : Addr} {H H' : Hp} {o : HO} (s : KeepX x H H') : KeepX x H (upd H' x o) := fun b o' n h => look_ne n (s b o' n h)
end Stow

set_option Elab.async false
set_option linter.all false
set_option maxRecDepth 100000
set_option maxHeartbeats 4000000
namespace Stow
/-! ### blocks of a power of two (numbers alone) -/
end Stow
namespace Stow
open PySem L2 PyProof.Rows
/-! ### a method with a default; a try over an if; steps -/
structure MethD (P : Program) (w : World) (K : PySem.W.Frag) (mg : Str → Option Value) (base : Heap) (C : Addr) (m : Str) (j : Nat) (ps : List Str) (dvs : List V) (sp : Sp) : Prop where
  all : Methx P w K mg base C m j ps [] sp
  less : Methx P w K mg base C m j ps dvs sp
theorem MethD.made {P : Program} {w : World} {K : PySem.W.Frag} {mg : Str → Option Value} {base : Heap} {C : Addr} {m : Str} {j : Nat} {ps : List Str} {dvs : List V} {sp : Sp} {f : Addr} {fd : FuncData} {ds : List Value}
    (F : FnOk P w K mg base (CXe P w) j f fd ps sp) (M : Meth K C m f) (b : Binds K fd ps []) (b' : Binds K fd ps ds) (v : Vals dvs ds) (c : Cls K C) : MethD P w K mg base C m j ps dvs sp :=
  ⟨⟨⟨f, fd, [], F, M, b, .nil⟩, c⟩, ⟨⟨f, fd, ds, F, M, b', v⟩, c⟩⟩
/-- all parameters are given, though one has a default -/
theorem FunD.bindsA {K : PySem.W.Frag} {x qual : Str} {st : Stmt} {T : Addr} {f : Addr} {fd : FuncData} {ps : List Str} {ds : List Value} {tc : Value} {td : Option Addr} {tn : Nat} {tsl : Array (Option Value)} (F : FunD K x qual st (.ref T) f fd)
    (lt : K.lookup T = some ⟨tc, td, .seq ds.toArray tn, tsl⟩)
    (h : ∀ (kV doc pm : Value) (an : Option Addr) (cdv ct : Value) (us : List Value), us.length = ps.length → ∃ k : Option (Array Value) → Sem (List (Str × Value)),
      bindArgs (PySem.W.fnOf x qual (defArgs st) (defBody st) (defScope st) (.ref T) kV doc pm an cdv ct) ⟨us, []⟩ = seqItems? (.ref T) >>= k ∧ k (some ds.toArray) = pure (ps.zip us)) : Binds K fd ps [] := by
  obtain ⟨oc, od, kV, doc, pm, an, cdv, ct, osl, rfl, lk, hcd⟩ := F.ex
  intro s us X hl
  rw [List.append_nil] at hl ⊢
  obtain ⟨k, h1, h2⟩ := h kV doc pm an cdv ct us hl
  exact .of_defaults rfl (X _ _ lt) rfl h1 h2
abbrev TXS := Ends → XK → L2.St → Hp → Prop
/-- statements within a try: what comes and what is thrown apart; where they throw, the names stand as at first -/
def PXS (X : Cx) (ss : List Stmt) (t : TXS) : Prop := ∀ (pins : List (Addr × Obj)) (s : Shared) (σ : L2.St) (H : Hp) (D : Ends) (EX : XK) (Qp : Flow → Shared → Prop) (W : Value → Shared → Prop), Inv X pins σ H s → t D EX σ H → (∀ f s', SP X pins D f s' → Qp f s') →
  (∀ H1 s1 y s', Inv X pins σ H1 s1 → CXe X.prog X.w X.stack H1 s1 EX y s' → W y s') → wpAny (model X.prog X.w) X.A (execs ss X.env) Qp W s
def xSet (i : Nat) (t : TX) : TXS := fun D EX σ H => t σ H (fun v H2 => D.nx (σ.set i (some v)) H2) EX
def xIf (c : TT) (t u : TXS) : TXS := fun D EX σ H => c σ H fun b H1 => if b = true then t D EX σ H1 else u D EX σ H1
def tTryS (t : TXS) (th : TH) : TS := fun D σ H => t D (fun c od H2 => ∃ C, c = .ref C ∧ ∀ x, H2 x = none → th x C D σ (upd H2 x (ExcO x C od))) σ H
section
variable {X : Cx} {e c : Expr} {t : TX} {tc : TT} {ta tb ts : TXS} {a b ss : List Stmt} {pos epos : Pos} {hs : List ExceptHandler} {th : TH}
theorem pxs_set {i : Nat} {y : Str} {py : Pos} (hN : X.N.Nodup) (hi : X.N[i]? = some y) (hy : Loc X.env.scope y) (he : PX X e t) (hsw : swapsWith e (some (.Name y py)) epos.line X.env = pure false := by rfl)
    (hf : X.fn y = true ∨ X.env.scope.names.lookup y = some .local := by first | exact .inl rfl | exact .inr rfl | assumption) : PXS X [.Assign [.Name y py] e epos] (xSet i t) := by
  intro pins s σ H D EX Qp W I h hv hx
  exact wpAny_execs_cons (wpAny_Assign_Name (he pins s σ H _ _ _ _ I h (fun u s' ⟨v, H2, I2, r2, q2⟩ => store_ok I2 hN hi hy r2 (fun s3 I3 => wpAny_execs_nil (hv .next s3 ⟨_, H2, I3, q2⟩)) hf) hx) hsw)
theorem pxs_if (hc : PT X.nox c tc) (ha : PXS X a ta) (hb : PXS X b tb) : PXS X [.If c a b pos] (xIf tc ta tb) := by
  intro pins s σ H D EX Qp W I h hv hx
  refine wpAny_execs_cons (wpAny_If (wpAny_mono (hc pins s σ H _ (I.wish _) h) (fun d s1 ⟨H1, I1', q1⟩ => ?_) (fun _ _ z => z.elim)))
  have I1 := I1'.unwish
  have hv' : ∀ f s', SP X pins D f s' → (match f with | .next => wpAny (model X.prog X.w) X.A (execs [] X.env) Qp W s' | f => Qp f s') := fun f s' z => by
    cases f with
    | next => exact wpAny_execs_nil (hv .next s' z)
    | brk => exact hv .brk s' z
    | cont => exact hv .cont s' z
    | ret u => exact hv (.ret u) s' z
  cases d with
  | true => exact ha pins s1 σ H1 D EX _ W I1 q1 hv' hx
  | false => exact hb pins s1 σ H1 D EX _ W I1 q1 hv' hx
theorem ps_tryS {h₀ : ExceptHandler} (he : PXS X ss ts) (hst : X.stack = X.env :: X.outer ∧ X.env.frame = some X.env.locals) (hh : PH X (h₀ :: hs) th) : PS X (.Try ss (h₀ :: hs) [] [] pos) (tTryS ts th) := by
  intro pins s σ H D I h
  refine wpAny_Try_except (he pins s σ H D _ _ _ I h (fun f s' z => ?_) (fun H1 s1 y s' I1 hq => ?_))
  · cases f with
    | next => exact wpAny_execs_nil z
    | brk => exact z
    | cont => exact z
    | ret u => exact z
  · refine held_x I1 hst hq fun x C od T h2 H2 ex ⟨C', ec, q⟩ t2 J2 again => ?_
    subst ex
    cases ec
    exact hh pins _ σ _ D x C T od I.ok J2 t2 (fun h3 u3 t3 => (again h3 u3 t3).2) (q x (again h2 (Upto.refl _ _ _) t2).1)
end
section
variable {K : PySem.W.Frag} {σ : L2.St} {H : Hp} {Q : VK} {D : Ends} {EX : XK}
theorem r_tryS {t : TXS} {th : TH} (h : t D (fun c od H2 => ∃ C, c = .ref C ∧ ∀ x, H2 x = none → th x C D σ (upd H2 x (ExcO x C od))) σ H) : tTryS t th D σ H := h
theorem r_xSet {i : Nat} {t : TX} (h : t σ H (fun v H2 => D.nx (σ.set i (some v)) H2) EX) : xSet i t D EX σ H := h
theorem r_xIf {c : TT} {t u : TXS} (h : c σ H fun b H1 => if b = true then t D EX σ H1 else u D EX σ H1) : xIf c t u D EX σ H := h
theorem r_xMethD {C : Addr} {m : Str} {sp : Sp} {ta : TE} {t : TA} {dvs : List V} (h : ta σ H fun x H1 => ∃ a dx fs, x = .ref a ∧ H1 a = some (.ins C dx fs) ∧ fs.lookup m = none ∧ t σ H1 fun vs H2 => sp (x :: (vs ++ dvs)) H2 Q EX) : xMeth C m sp dvs ta t σ H Q EX := h
theorem r_xMake {C : Addr} {sp : Sp} {t : TA} (h : t σ H fun vs H1 => ∀ x dx, H1 x = none → H1 dx = none → dx ≠ x → sp (.ref x :: vs) (upd (upd H1 dx (.own x)) x (.ins C dx [])) (fun v H2 => v = .non ∧ Q (.ref x) H2) EX) : xMake C sp [] t σ H Q EX := by
  unfold xMake
  simp only [List.append_nil]
  exact h
theorem r_notIn {x : V} {p : Addr} {xs : List V} {P : Bool → Prop} (h : H p = some (.lst xs)) (f : flatV x = true) (fs : xs.all flatV = true) (q : P (!inV x xs)) : ∃ p' ys, V.ref p = V.ref p' ∧ (SqL K H p' ys ∨ SqT K H p' ys) ∧ flatV x = true ∧ ys.all flatV = true ∧ P (if true = true then !inV x ys else inV x ys) :=
  ⟨p, xs, rfl, .inl (SqL.of h), f, fs, q⟩
end
end Stow

set_option Elab.async false
set_option linter.all false
set_option maxRecDepth 100000
set_option maxHeartbeats 4000000
namespace Stow
/-! ### shelves (numbers alone) -/
/-- the whole shelves number j to j + m - 1, of s cells each -/
def shelvesF (s : Int) (j m : Nat) : List Pc := (List.range' j m).map fun i : Nat => ⟨s * (i : Int), s, false⟩
theorem shelvesF_cons (s : Int) (j m : Nat) : shelvesF s j (m + 1) = ⟨s * (j : Int), s, false⟩ :: shelvesF s (j + 1) m := by
  unfold shelvesF
  rw [List.range'_succ, List.map_cons]
theorem shelvesF_snoc (s : Int) (j m : Nat) : shelvesF s j (m + 1) = shelvesF s j m ++ [⟨s * ((j + m : Nat) : Int), s, false⟩] := by
  unfold shelvesF
  rw [List.range'_concat, List.map_append, Nat.one_mul]
  rfl
theorem shelvesF_len (s : Int) (j m : Nat) : (shelvesF s j m).length = m := by
  unfold shelvesF
  rw [List.length_map, List.length_range']
theorem shelvesF_chain {s : Int} (hs : 1 ≤ s) : ∀ (m j : Nat), Chain (s * (j : Int)) (shelvesF s j m) (s * ((j + m : Nat) : Int))
  | 0, j => rfl
  | m + 1, j => by
    rw [shelvesF_cons]
    refine ⟨rfl, hs, (fun z => by cases z), ?_⟩
    have h := shelvesF_chain hs m (j + 1)
    rw [show j + 1 + m = j + (m + 1) by omega] at h
    show Chain (s * (j : Int) + s) _ _
    rw [show s * (j : Int) + s = s * ((j + 1 : Nat) : Int) by rw [Int.natCast_add, Int.mul_add]; omega]
    exact h
/-- cells behind one another: the marks of the first ones, then those of the others as they lie there -/
theorem Marks.app {cs ds : List Int} {ps qs : List Pc} (h0 : EndBy ps cs.length) (m : Marks cs ps) (h1 : FromOn qs 0) (k : Marks ds qs) :
    Marks (cs ++ ds) (ps ++ qs.map fun q => ⟨q.a + cs.length, q.l, q.v⟩) := by
  intro p hp
  rcases List.mem_append.mp hp with h | h
  · obtain ⟨a0, a1, a2⟩ := h0 p h
    obtain ⟨m1, m2⟩ := m p h
    exact ⟨by rw [List.getElem?_append_left (by omega)]; exact m1, by rw [List.getElem?_append_left (by omega)]; exact m2⟩
  · obtain ⟨q, hq, rfl⟩ := List.mem_map.mp h
    obtain ⟨b0, b1⟩ := h1 q hq
    obtain ⟨m1, m2⟩ := k q hq
    constructor
    · show (cs ++ ds)[(q.a + cs.length).toNat]? = some (mkOf q.l q.v)
      rw [List.getElem?_append_right (by omega), show (q.a + cs.length).toNat - cs.length = q.a.toNat by omega]
      exact m1
    · show (cs ++ ds)[(q.a + cs.length + q.l - 1).toNat]? = some (mkOf q.l q.v)
      rw [List.getElem?_append_right (by omega), show (q.a + cs.length + q.l - 1).toNat - cs.length = (q.a + q.l - 1).toNat by omega]
      exact m2
theorem rep_marks {one : List Int} {s : Int} (hs : 1 ≤ s) (hl : (one.length : Int) = s) (m1 : Marks one [⟨0, s, false⟩]) : ∀ (m : Nat), Marks ((List.replicate m one).flatten) (shelvesF s 0 m) ∧ (((List.replicate m one).flatten).length : Int) = s * (m : Int)
  | 0 => ⟨Marks.nil _, by simp⟩
  | m + 1 => by
    obtain ⟨h1, h2⟩ := rep_marks hs hl m1 m
    have e : (List.replicate (m + 1) one).flatten = (List.replicate m one).flatten ++ one := by
      rw [List.replicate_succ', List.flatten_append]
      simp
    rw [e]
    constructor
    · rw [shelvesF_snoc]
      have ch := (shelvesF_chain hs m 0).endBy (show (0 : Int) ≤ s * ((0 : Nat) : Int) by simp)
      rw [Nat.zero_add] at ch
      have := Marks.app (ps := shelvesF s 0 m) (qs := [⟨0, s, false⟩]) (by rw [h2]; exact ch) h1 (fun p hp => by
        have : p = ⟨0, s, false⟩ := by simpa using hp
        subst this
        exact ⟨Int.le_refl _, hs⟩) m1
      rw [h2] at this
      simpa using this
    · rw [List.length_append, Int.natCast_add, h2, hl, Int.natCast_add, Int.mul_add]
      omega
/-- the slots number j to j + n - 1 of k cells each, from cell 0 on -/
theorem slots_lay {row : List Int} {k : Int} {n : Nat} {rs : List Pc} (hk : 1 ≤ k) (hl : k * (n : Int) + k ≤ row.length) (hr : FromOn rs (k * (n : Int) + k)) (m : Marks row (shelvesF k 0 n ++ rs)) :
    Marks (laidI row (k * (n : Int)) k false) (shelvesF k 0 (n + 1) ++ rs) := by
  rw [shelvesF_snoc, List.append_assoc, Nat.zero_add]
  have ch := (shelvesF_chain hk n 0).endBy (show (0 : Int) ≤ k * ((0 : Nat) : Int) by simp)
  rw [Nat.zero_add] at ch
  exact Marks.lay (Int.mul_nonneg (by omega) (by omega)) hk hl ch hr m
end Stow
namespace Stow
open PySem L2 PyProof.Rows
/-! ### three names of the def around in a comprehension; range with a step -/
section
variable {X : Cx}
theorem caught_three {scope : Scope} {y y' y'' : Str} {k k' k'' : Nat} (h1 : X.N[k]? = some y) (h1' : X.N[k']? = some y') (h1'' : X.N[k'']? = some y'') (h2 : X.env.kindOf y = some .cell) (h2' : X.env.kindOf y' = some .cell) (h2'' : X.env.kindOf y'' = some .cell)
    (h3 : (relabel scope X.env).names.lookup y = some .cell) (h3' : (relabel scope X.env).names.lookup y' = some .cell) (h3'' : (relabel scope X.env).names.lookup y'' = some .cell) : Caught X scope [y, y', y''] [k, k', k''] := ⟨rfl, fun j z i e1 e2 => by
  match j with
  | 0 =>
    have g1 : y = z := by simpa using e1
    have g2 : k = i := by simpa using e2
    subst g1 g2
    exact ⟨h1, h2, h3⟩
  | 1 =>
    have g1 : y' = z := by simpa using e1
    have g2 : k' = i := by simpa using e2
    subst g1 g2
    exact ⟨h1', h2', h3'⟩
  | 2 =>
    have g1 : y'' = z := by simpa using e1
    have g2 : k'' = i := by simpa using e2
    subst g1 g2
    exact ⟨h1'', h2'', h3''⟩
  | j + 3 => simp at e1⟩
theorem free_three {scope : Scope} {n m o : Str} (h : ∀ y ∈ scope.names, y.2 = .free → y.1 = n ∨ y.1 = m ∨ y.1 = o) (k : X.env.kindOf n = some .cell) (k' : X.env.kindOf m = some .cell) (k'' : X.env.kindOf o = some .cell) : ∀ y ∈ scope.names, y.2 = .free → X.env.kindOf y.1 = some .cell := fun y hy hf => by
  rcases h y hy hf with e | e | e
  · rw [e]; exact k
  · rw [e]; exact k'
  · rw [e]; exact k''
end
/-- lo, lo + c, .. (n of them) -/
def Its (lo c : Int) (n : Nat) : It := ⟨fun i _ => i < n, fun i H x H' => H' = H ∧ x = .int (lo + i * c), fun i _ => n ≤ i⟩
theorem turn_step {P : Program} {w : World} {K : PySem.W.Frag} {tg : Expr} (it : Addr) (lo c : Int) (n : Nat) : Turn P w K tg (Its lo c n) [it] it (fun i h => IsRangeIter h it (lo + (i : Nat) * c) ((n : Int) - (i : Nat)) c) where
  mem := by simp
  obj := fun i h st b hb => by
    have e : b = it := by simpa using hb
    subst e
    exact ⟨_, st, fun v z => by
      have z' : Data.fields _ = Data.cell v := z
      cases z'⟩
  keep := fun i h h' st k => k it (by simp) _ st
  item := by
    intro X hP hw hK hc i pins s σ H E I hf st hg
    subst hP hw hK
    obtain ⟨f0, f1, f2, f3, f4, f5⟩ := hf it (by simp)
    have W := Walks.range (prog := X.prog) (w := X.w) (I.ok.hd hc) it lo c n
    refine W.item i s _ _ hg st fun v h' tk hv st' kk => ?_
    obtain ⟨t, rfl⟩ := hv
    have I1 : Inv X pins σ H { s with heap := h', toks := tk } := I.turned (fun b o hb e => kk b o (by simpa using hb) e) f0 f1 f3 f4 f5
    exact ⟨_, rfl, go_of (s := { s with heap := h', toks := tk }) (n := "range_iterator") st' rfl rfl (by decide) ⟨.int (lo + i * c), H, I1, ⟨t, rfl⟩, ⟨rfl, rfl⟩, st', fun b hb => (hf b hb).1⟩⟩
  done := by
    intro X hP hw hK hc i pins s σ H E I hf st hg
    subst hP hw hK
    obtain ⟨f0, f1, f2, f3, f4, f5⟩ := hf it (by simp)
    exact wpAny_pyNext_range_end (I.ok.hd hc) st (by have : n ≤ i := hg; omega) fun h' eb => ⟨rfl, I.turned (t' := s.toks) (fun b o hb e => eb b o hb e) f0 f1 f3 f4 f5⟩
  self := fun _ _ _ _ _ st h => wpAny_pyIter_rangeiter st h
section
variable {X : Cx} {tg : Expr}
theorem size_bound {i j c : Int} (h0 : 0 ≤ i) (hj : 0 ≤ j) (hj' : j ≤ 4000) (hc : 1 ≤ c) : 0 ≤ Builtin.Range.rangeSize i j c ∧ Builtin.Range.rangeSize i j c ≤ 4000 ∧ (i < j → i + (Builtin.Range.rangeSize i j c - 1) * c < j) := by
  unfold Builtin.Range.rangeSize
  rw [if_pos (by omega)]
  split
  · rename_i h
    have h1 : 0 ≤ (j - i - 1) / c := Int.ediv_nonneg (by omega) (by omega)
    have h2 : (j - i - 1) / c * c ≤ j - i - 1 := Int.ediv_mul_le _ (by omega)
    have h3 : (j - i - 1) / c ≤ (j - i - 1) / c * c := by
      have := Int.mul_le_mul_of_nonneg_left hc h1
      omega
    refine ⟨by omega, by omega, fun _ => ?_⟩
    rw [show (j - i - 1) / c + 1 - 1 = (j - i - 1) / c by omega]
    omega
  · rename_i h
    exact ⟨by omega, by omega, fun z => absurd z h⟩
def iRng3 (ta : TA) : TI := fun σ H R => ta σ H fun vs H1 => ∃ i j c : Int, vs = [.int i, .int j, .int c] ∧ (0 ≤ i ∧ i ≤ 4000 ∧ 0 ≤ j ∧ j ≤ 4000 ∧ 1 ≤ c ∧ c ≤ 4000) ∧ R (Its i c (Builtin.Range.rangeSize i j c).toNat) H1
theorem step_it {pins : List (Addr × Obj)} {σ : L2.St} {H : Hp} {s : Shared} {R : It → Hp → Prop} {E : Value → Shared → Prop} {lo hi c : Int} {t u v : Tok} {tk : Nat} (I : Inv X pins σ H s) (h1 : 0 ≤ lo) (h2 : lo ≤ 4000) (h3 : 0 ≤ hi) (h4 : hi ≤ 4000) (h5 : 1 ≤ c) (h6 : c ≤ 4000)
    (q : R (Its lo c (Builtin.Range.rangeSize lo hi c).toNat) H) : wpAny (model X.prog X.w) X.A (pyIter (.ref s.heap.objs.size)) (PIE X pins σ tg R) E { s with heap := s.heap.push { cls := .type "range", data := .fields #[.int lo t, .int hi u, .int c v] }, toks := tk } := by
  obtain ⟨b1, b2, b3⟩ := size_bound h1 h3 h4 h5
  have sm : Builtin.Range.small lo hi c = true := by
    unfold Builtin.Range.small
    simp only [Builtin.Range.rangeFitsLong, Bool.and_eq_true, Bool.or_eq_true, decide_eq_true_eq, beq_iff_eq]
    generalize Builtin.Range.rangeSize lo hi c = n at b1 b2 b3
    rw [if_pos (show c > 0 by omega)]
    simp only [Bool.and_eq_true, decide_eq_true_eq]
    omega
  refine wpAny_pyIter_range (IsRange.new ..) sm ?_
  have I1 : Inv X pins σ H { s with heap := s.heap.push { cls := .type "range", data := .fields #[.int lo t, .int hi u, .int c v] }, toks := tk } := I.kept fun b o e => Heap.get?_push_of_some _ e
  refine ⟨(s.heap.push { cls := .type "range", data := .fields #[.int lo t, .int hi u, .int c v] }).objs.size, [(s.heap.push { cls := .type "range", data := .fields #[.int lo t, .int hi u, .int c v] }).objs.size], _, _, H, rfl,
    I1.kept (t' := tk) fun b o e => Heap.get?_push_of_some _ e, turn_step _ lo c (Builtin.Range.rangeSize lo hi c).toNat, ?_, fun b hb => ?_, q⟩
  · have e1 : lo + ((0 : Nat) : Int) * c = lo := by simp
    have e2 : (((Builtin.Range.rangeSize lo hi c).toNat : Nat) : Int) - ((0 : Nat) : Int) = Builtin.Range.rangeSize lo hi c := by omega
    show IsRangeIter _ _ (lo + ((0 : Nat) : Int) * c) ((((Builtin.Range.rangeSize lo hi c).toNat : Nat) : Int) - ((0 : Nat) : Int)) c
    rw [e1, e2]
    exact Heap.get?_push_size _ rfl
  · have e : b = (s.heap.push { cls := .type "range", data := .fields #[.int lo t, .int hi u, .int c v] }).objs.size := by simpa using hb
    subst e
    exact I1.fpOk (Nat.le_refl _) (I1.hok.fresh (Nat.le_refl _))
theorem pi_range3 {a b c : Expr} {ta : TA} {p pos : Pos} (hg : Gl X "range") (hm : X.mg "range" = none) (ha : PA X [a, b, c] ta) (hs : starEach [a, b, c] X.env = [(false, eval a X.env), (false, eval b X.env), (false, eval c X.env)] := by rfl)
    (hs2 : starEach [b, c] X.env = [(false, eval b X.env), (false, eval c X.env)] := by rfl) : PI X tg (.Call (.Name "range" p) [a, b, c] [] pos) (iRng3 ta) := by
  intro pins s σ H R I h
  refine Call_ (ld_blt I hg hm PyProof.Rows.boot_range (PyProof.Rows.callWith_type1 (thn (ha pos pins s σ H _ I h) fun us s1 ⟨vs, H1, I1, r1, q1⟩ => ?_) (by rw [hs, hs2]) (by rw [hs2]; rfl)))
  obtain ⟨i, j, c, e, ⟨q1, q2, q3, q4, q5, q6⟩, q⟩ := q1
  subst e
  cases r1 with
  | cons r rr =>
    cases rr with
    | cons r' rr =>
      cases rr with
      | cons r'' rr =>
        cases rr
        obtain ⟨t, rfl⟩ := r
        obtain ⟨t', rfl⟩ := r'
        obtain ⟨t'', rfl⟩ := r''
        exact call_range_3 (by omega) (step_it I1 q1 q2 q3 q4 q5 q6 q) (Or.inl (PyProof.noPylong_small (by omega)))
/-- any(a list of bools) -/
theorem call_anyB (hc : X.calm = true) : CallR X (.builtin "any") (fun vs H Q => ∃ p, ∃ bs : List Bool, vs = [.ref p] ∧ H p = some (.lst (bs.map V.bl)) ∧ Q (.bl (bs.any id)) H) := by
  intro pins s σ H vs us' Q I r h
  obtain ⟨p, bs, rfl, hp, q⟩ := h
  obtain ⟨u, rfl, rx⟩ : ∃ u, us' = [u] ∧ RelV (.ref p) u := by
    cases r with
    | cons a b => cases b; exact ⟨_, rfl, a⟩
  cases rx
  obtain ⟨its, r1, p1, _⟩ := I.list (SqL.of hp)
  have l1 := r1.length
  rw [List.length_map] at l1
  have lt : p < s.heap.objs.size := by obtain ⟨_, e, _⟩ := p1.isList; exact Heap.lt_size e
  refine call_any_walk (wpAny_pyIter_list p1.isList ?_)
  refine ⟨s.heap.objs.size, [s.heap.objs.size, p], [s.heap.objs.size], its.toArray.size, fun i v => its.toArray[i]? = some v, _, fun i => bs.getD i false, rfl, Walks.list (A := X.A.in1) (I.ok.hd hc) _ p (Nat.ne_of_lt lt) its.toArray,
    ⟨⟨_, Heap.get?_push_size _ rfl, rfl, rfl⟩, p1.isList.push _⟩, ?_, ?_⟩
  · intro i v s' Q' E' hv hq
    rw [List.getElem?_toArray] at hv
    have hi : i < bs.length := by have := (List.getElem?_eq_some_iff.mp hv).1; omega
    obtain ⟨u1, g1, q1⟩ := r1.get (i := i) (x := V.bl bs[i]) (by simp [hi])
    cases q1
    rw [hv] at g1
    cases g1
    have e : bs.getD i false = bs[i] := by simp [hi]
    have hq2 : Q' (bs.getD i false) s' := hq
    rw [e] at hq2
    exact wpAny_pure hq2
  · intro h' tk kk
    have e : (List.range its.toArray.size).any (fun i => bs.getD i false) = bs.any id := by
      rw [List.size_toArray, ← l1, Bool.eq_iff_iff, List.any_eq_true, List.any_eq_true]
      constructor
      · rintro ⟨i, hi, h⟩
        have hi' := List.mem_range.mp hi
        exact ⟨bs[i], List.getElem_mem hi', by simpa [hi'] using h⟩
      · rintro ⟨b, hb, h⟩
        obtain ⟨i, hi, rfl⟩ := List.mem_iff_getElem.mp hb
        exact ⟨i, List.mem_range.mpr hi, by simpa [hi] using h⟩
    rw [e]
    refine ⟨.bl _, H, ?_, rfl, q⟩
    refine I.kept (t' := tk) fun b o e => kk b o (fun z => ?_) (Heap.get?_push_of_some _ e)
    have := Heap.lt_size e
    have z' : b = s.heap.objs.size := by simpa using z
    rw [z'] at this
    exact Nat.lt_irrefl _ this
end
theorem for_step {lo c : Int} {n : Nat} {g : TG} {tb : TS} {D : Ends} {σ : L2.St} {H : Hp} (Pv : Nat → L2.St → Hp → Prop) (h0 : Pv 0 σ H)
    (hs : ∀ i σ H, i < n → Pv i σ H → g (.int (lo + i * c)) σ H fun σ2 H2 => tb { D with nx := Pv (i + 1), ct := Pv (i + 1), bk := D.nx } σ2 H2) (hd : ∀ σ H, Pv n σ H → D.nx σ H) :
    ∃ W : Nat → Nat → L2.St → Hp → Prop, (∃ m, W 0 m σ H) ∧ ∀ i m σ H, W i m σ H →
      ((Its lo c n).stop i H ∧ D.nx σ H) ∨ ((Its lo c n).go i H ∧ ∃ N : L2.St → Hp → Prop, (∀ σ' H', N σ' H' → ∃ m', m' < m ∧ W (i + 1) m' σ' H') ∧ ∀ x H', (Its lo c n).yld i H x H' → g x σ H' fun σ2 H2 => tb { D with nx := N, ct := N, bk := D.nx } σ2 H2) := by
  refine ⟨fun i m σ H => m = n - i ∧ i ≤ n ∧ Pv i σ H, ⟨n, by simp, Nat.zero_le _, h0⟩, ?_⟩
  rintro i m σ H ⟨rfl, hi, p⟩
  by_cases hlt : i < n
  · refine .inr ⟨hlt, Pv (i + 1), fun σ' H' p' => ⟨n - (i + 1), by omega, rfl, hlt, p'⟩, fun x H' y => ?_⟩
    obtain ⟨e, y⟩ := y
    subst e y
    exact hs i σ _ hlt p
  · have e : i = n := by omega
    subst e
    exact .inl ⟨Nat.le_refl _, hd σ H p⟩
theorem r_iR3 {ta : TA} {σ : L2.St} {H : Hp} {R : It → Hp → Prop} (h : ta σ H fun vs H1 => ∃ i j c : Int, vs = [.int i, .int j, .int c] ∧ (0 ≤ i ∧ i ≤ 4000 ∧ 0 ≤ j ∧ j ≤ 4000 ∧ 1 ≤ c ∧ c ≤ 4000) ∧ R (Its i c (Builtin.Range.rangeSize i j c).toNat) H1) : iRng3 ta σ H R := h
theorem compH_range {H : Hp} {Q : VK} {lo : Int} {n k : Nat} {fs : L2.St} {g : TG} {tt : TT} {te : TE} (Pv : Addr → Nat → List V → Hp → Prop) (h0 : ∀ D, H D = none → Pv D 0 [] (upd H D (.lst [])))
    (hs : ∀ D i ys H2, H D = none → i < n → Pv D i ys H2 → ∀ τ : L2.St, τ.length = k → g (.int (lo + i)) (τ ++ fs) H2 fun σ1 H4 => (∃ τ' : L2.St, τ'.length = k ∧ σ1 = τ' ++ fs) ∧ tt σ1 H4 fun b H5 =>
      if b = true then te σ1 H5 fun y H6 => H6 D = some (.lst ys) ∧ ys.length < sizeLine ∧ Nx n Pv D i (ys ++ [y]) (upd H6 D (.lst (ys ++ [y]))) else Nx n Pv D i ys H5)
    (hd : ∀ D ys H2, H D = none → Pv D n ys H2 → Q (.ref D) H2) : CompH k fs (Itr lo n) g tt te Q H := by
  intro D hD
  refine ⟨fun i m ys H2 => m = n - i ∧ i ≤ n ∧ Pv D i ys H2, ⟨_, rfl, Nat.zero_le _, h0 D hD⟩, ?_⟩
  rintro i m ys H2 ⟨rfl, hi, p⟩
  by_cases hlt : i < n
  · refine .inr ⟨hlt, fun x H3 y τ hτ => ?_⟩
    obtain ⟨e, y⟩ := y
    subst e y
    exact hs D i ys _ hD hlt p τ hτ
  · have e : i = n := by omega
    subst e
    exact .inl ⟨Nat.le_refl _, hd D ys H2 hD p⟩
end Stow

local macro_rules
  | `(tactic| walk_at "set") => `(tactic| first
    | exact Stow.set0_c
    | exact Stow.set0_1
    | exact Stow.set0_0
    | ((refine Stow.setS_c (r := ?r) ?h); (case h => walk_at "set"))
    | ((refine Stow.setS_1 (r := ?r) ?h); (case h => walk_at "set"))
    | ((refine Stow.setS_0 (r := ?r) ?h); (case h => walk_at "set")))
local macro_rules
  | `(tactic| walk_at "look") => `(tactic| first
    | with_reducible assumption
    | exact L2.upd_same
    | ((with_reducible refine Stow.look_ne ?a ?b); (case a => (first | assumption | exact Ne.symm (by assumption))); (case b => walk_at "look"))
    | ((with_reducible refine Stow.look_put ?a ?b); (case a => (first | assumption | walk_at "look")); (case b => walk_at "look"))
    | ((with_reducible refine Stow.look_tup (ys := ?ys) ?a ?b); (case a => walk_at "look"); (case b => walk_at "look"))
    | assumption)
local macro_rules
  | `(tactic| walk_at "seq") => `(tactic| first
    | with_reducible assumption
    | exact L2.SqL.of (by walk_at "look")
    | ((with_reducible refine Stow.seq_put ?a ?b); (case a => assumption); (case b => walk_at "seq"))
    | assumption)
local macro_rules
  | `(tactic| walk_at "num") => `(tactic| first | assumption | omega | (simp only [List.length_map, List.length_set, List.length_append, List.length_cons, List.length_nil] <;> omega))
local macro_rules
  | `(tactic| walk_at "size") => `(tactic| first | exact Stow.small4000 (by first | omega | (simp only [List.length_map, List.length_set, List.length_append, List.length_cons, List.length_nil] <;> omega)))
local macro_rules
  | `(tactic| walk_at "side") => `(tactic| first
    | (show (0 : Int) < _; first | decide | omega)
    | (show (0 : Int) ≤ _; first | decide | omega)
    | exact Or.inr ⟨by decide, by decide⟩
    | exact Or.inl ⟨by decide, by decide⟩
    | exact ⟨by decide, by decide⟩
    | exact ⟨by decide, by decide, by decide⟩
    | exact ⟨by decide, by decide, by assumption⟩
    | exact ⟨by decide, by decide, by omega⟩
    | exact ⟨by omega, by omega, by decide⟩
    | exact Or.inr ⟨by omega, by omega⟩
    | exact Or.inl ⟨by omega, by omega⟩
    | exact ⟨by omega, by omega⟩)
local macro_rules
  | `(tactic| walk_at "ty") => `(tactic| first | exact L2.TyOf.int _ | exact L2.TyOf.bl _ | exact L2.TyOf.non | ((refine L2.TyOf.lst (xs := ?xs) ?h); (case h => walk_at "look")) | ((refine L2.TyOf.tup (xs := ?xs) ?h); (case h => walk_at "look")) | exact L2.TyOf.str _)
local macro_rules
  | `(tactic| walk_at "kit") => `(tactic| first | exact Stow.kit_ii | exact Stow.kit_ib | exact Stow.kit_bb | exact Stow.kit_ll | exact Stow.kit_tt)
local macro_rules
  | `(tactic| walk_at "sp") => `(tactic| fail "no promise")
local macro_rules
  | `(tactic| walk_at "st") => `(tactic| first
    | ((with_reducible refine Stow.r_var (v := ?v) ?e ?_); (case e => exact rfl))
    | (with_reducible refine Stow.r_seq ?_)
    | (with_reducible refine Stow.r_nx ?_)
    | (with_reducible refine Stow.r_asg ?_)
    | ((with_reducible refine Stow.r_gnameN (σ' := ?s) ?e ?_); (case e => with_reducible (walk_at "set")))
    | (with_reducible refine Stow.r_gname ?_)
    | (with_reducible refine Stow.r_op ?_)
    | (with_reducible refine Stow.r_cons ?_)
    | (with_reducible refine Stow.r_nil ?_)
    | (with_reducible refine Stow.r_c ?_)
    | (with_reducible refine Stow.r_rI0 ?_)
    | (with_reducible refine Stow.r_call ?_)
    | (with_reducible refine Stow.r_cb ?_)
    | (with_reducible refine Stow.r_test ?_)
    | (with_reducible refine Stow.r_tB ?_)
    | (with_reducible refine Stow.r_bl ?_)
    | (with_reducible refine Stow.r_ifS ?_)
    | (with_reducible refine Stow.r_ret ?_)
    | (with_reducible refine Stow.r_rt ?_)
    | (with_reducible refine Stow.r_drop ?_)
    | (with_reducible refine Stow.r_next ?_)
    | (with_reducible refine Stow.r_not ?_)
    | (with_reducible refine Stow.r_and ?_)
    | (with_reducible refine Stow.r_or ?_)
    | (with_reducible refine Stow.r_andV ?_)
    | (with_reducible refine Stow.r_orV ?_)
    | (with_reducible refine Stow.r_notV ?_)
    | (with_reducible refine Stow.r_ifE ?_)
    | (with_reducible refine Stow.r_ifN ?_)
    | (with_reducible refine Stow.r_eqI ?_)
    | (with_reducible refine Stow.r_neI ?_)
    | (with_reducible refine Stow.r_isN ?_)
    | (with_reducible refine Stow.r_int ?_)
    | (with_reducible refine Stow.r_eqB ?_)
    | (with_reducible refine Stow.r_neB ?_)
    | (with_reducible refine Stow.r_tup ?_)
    | (with_reducible refine Stow.r_lst ?_)
    | (with_reducible refine Stow.r_bm ?_)
    | (with_reducible refine Stow.r_bm0 ?_)
    | (with_reducible refine Stow.r_sl ?_)
    | (with_reducible refine Stow.r_part ?_)
    | (with_reducible refine Stow.r_nopart ?_)
    | (with_reducible refine Stow.r_un ?_)
    | (with_reducible refine Stow.r_rU ?_)
    | (with_reducible refine Stow.r_intB ?_)
    | (with_reducible refine Stow.r_intI ?_)
    | (with_reducible refine Stow.r_truB ?_)
    | (with_reducible refine Stow.r_gsub ?_)
    | (with_reducible refine Stow.r_retN ?_)
    | (with_reducible refine Stow.r_ct ?_)
    | (with_reducible refine Stow.r_bk ?_)
    | (with_reducible refine Stow.r_break ?_)
    | (with_reducible refine Stow.r_cont ?_)
    | (with_reducible refine L2.iteT ?_)
    | (with_reducible refine L2.iteF ?_)
    | ((with_reducible refine Stow.r_rI ?c ?_); (case c => walk_at "side"))
    | ((with_reducible refine Stow.r_tyL (xs := ?xs) ?h ?_); (case h => walk_at "look"))
    | ((with_reducible refine Stow.r_appendI (ns := ?ns) ?h ?z ?_); (case h => walk_at "look"); (case z => walk_at "size"))
    | ((with_reducible refine Stow.r_append (xs := ?xs) ?h ?z ?_); (case h => walk_at "look"); (case z => walk_at "size"))
    | ((with_reducible refine Stow.r_gtup (xs := ?xs) ?h ?l ?_); (case h => walk_at "look"); (case l => exact rfl))
    | (with_reducible refine Stow.r_gcons ?_)
    | (with_reducible refine Stow.r_gnil ?_)
    | ((with_reducible refine Stow.r_ixI (ns := ?ns) ?h ?a ?b ?_); (case h => walk_at "seq"); (case a => walk_at "num"); (case b => walk_at "num"))
    | ((with_reducible refine Stow.r_ixT (xs := ?xs) (v := ?v) ?h ?e ?_); (case h => walk_at "look"); (case e => exact rfl))
    | ((with_reducible refine Stow.r_setI (ns := ?ns) ?h ?a ?b ?_); (case h => walk_at "look"); (case a => walk_at "num"); (case b => walk_at "num"))
    | ((with_reducible refine Stow.r_sllG (ns := ?ns) ?h ?_); (case h => walk_at "seq"))
    | ((with_reducible refine Stow.r_sll (xs := ?xs) ?h ?_); (case h => walk_at "seq"))
    | ((with_reducible refine Stow.r_lenI (ns := ?ns) ?h ?_); (case h => walk_at "seq"); (try rw [List.length_map]))
    | ((with_reducible refine Stow.r_lenL (xs := ?xs) ?h ?_); (case h => walk_at "look"))
    | ((with_reducible refine Stow.r_lenT (xs := ?xs) ?h ?_); (case h => walk_at "look"))
    | ((with_reducible refine Stow.r_listI (xs := ?xs) ?h ?_); (case h => walk_at "seq"))
    | ((with_reducible refine Stow.r_isi (t := ?t) (b := ?b) ?y ?e ?_); (case y => walk_at "ty"); (case e => walk_at "kit"))
    | ((with_reducible refine Stow.r_new ?h ?_); (case h => (first | exact Nat.zero_le _ | simp)))
    | ((with_reducible refine Stow.r_truL (xs := ?xs) ?h ?_); (case h => walk_at "seq"))
    | ((with_reducible refine Stow.r_ifdT ?c ?_); (case c => (first | omega | exact rfl)))
    | ((with_reducible refine Stow.r_ifdF ?c ?_); (case c => (first | omega | (intro h; cases h; done))))
    | (with_reducible refine Stow.r_raise ?_)
    | (with_reducible refine Stow.r_raiseI ?_)
    | (with_reducible refine Stow.r_tryAs ?_)
    | (with_reducible refine Stow.r_try ?_)
    | (with_reducible refine Stow.r_fldX ?_)
    | (with_reducible refine Stow.r_for ?_)
    | (with_reducible refine Stow.r_iL ?_)
    | (with_reducible refine Stow.r_iR1 ?_)
    | (with_reducible refine Stow.r_iR2 ?_)
    | (with_reducible refine Stow.r_comp ?_)
    | ((with_reducible refine Stow.r_isiX (C := ?C) (od := ?od) (b := ?b) ?h ?z ?e ?_); (case h => walk_at "look"); (case z => assumption); (case e => assumption))
    | ((with_reducible refine Stow.r_isiN (C := ?C) (od := ?od) (b := ?b) ?h ?z ?n ?e ?_); (case h => walk_at "look"); (case z => assumption); (case n => exact fun z => nomatch z); (case e => assumption))
    | (with_reducible refine Stow.r_makeX ?_)
    | (with_reducible refine Stow.r_makeI ?_)
    | (with_reducible refine Stow.r_fldN ?_)
    | ((with_reducible refine Stow.r_catG (xs := ?xs) (zs := ?zs) ?h ?g ?z ?_); (case h => walk_at "look"); (case g => walk_at "look"); (case z => walk_at "num"))
    | ((with_reducible refine Stow.r_cat (xs := ?xs) (zs := ?zs) ?h ?g ?z ?_); (case h => walk_at "look"); (case g => walk_at "look"); (case z => (refine Nat.le_of_lt (L2.small1000 ?_); first | omega | simp)))
    | ((with_reducible refine Stow.r_slS ?h ?_); (case h => decide))
    | (with_reducible refine Stow.r_max ?_)
    | (with_reducible refine Stow.r_fld ?_)
    | ((with_reducible refine Stow.r_at (C := ?C) (dx := ?dx) (fs := ?fs) (v := ?v) ?h ?c ?n ?l ?_); (case h => walk_at "look"); (case c => assumption); (case n => assumption); (case l => exact rfl))
    | (with_reducible refine Stow.r_sfld ?_)
    | ((with_reducible refine Stow.r_sat (C := ?C) (dx := ?dx) (fs := ?fs) ?h ?c ?n ?l ?_); (case h => walk_at "look"); (case c => assumption); (case n => assumption); (case l => (first | decide | simp)))
    | (with_reducible refine Stow.r_meth ?_)
    | ((with_reducible refine Stow.r_mat (dx := ?dx) (fs := ?fs) ?h ?l ?_); (case h => walk_at "look"); (case l => exact rfl))
    | (with_reducible refine Stow.r_make ?_)
    | (with_reducible refine Stow.r_compG ?_)
    | ((with_reducible refine Stow.r_isiO (C := ?C) (dx := ?dx) (fs := ?fs) (b := ?b) ?h ?z ?e ?_); (case h => walk_at "look"); (case z => assumption); (case e => assumption))
    | (with_reducible refine Stow.r_tryE ?_)
    | (with_reducible refine Stow.r_tryA ?_)
    | (with_reducible refine Stow.r_xCall ?_)
    | (with_reducible refine Stow.r_tryS ?_)
    | (with_reducible refine Stow.r_xSet ?_)
    | (with_reducible refine Stow.r_xIf ?_)
    | (with_reducible refine Stow.r_xMeth ?_)
    | (with_reducible refine Stow.r_xMethD ?_)
    | (with_reducible refine Stow.r_xMake ?_)
    | (with_reducible refine Stow.r_methD ?_)
    | (with_reducible refine Stow.r_isB ?_)
    | ((with_reducible refine Stow.r_notIn (xs := ?xs) ?h ?f ?g ?_); (case h => walk_at "look"); (case f => exact rfl); (case g => exact rfl))
    | walk_at "sp")
local macro_rules
  | `(tactic| walk_at "go") => `(tactic| repeat walk_at "st")
local macro_rules
  | `(tactic| walk_at "len") => `(tactic| first
    | (rintro ⟨e, _⟩; exact congrArg List.length e)
    | (rintro ⟨_, e, _⟩; exact congrArg List.length e)
    | (rintro ⟨_, _, e, _⟩; exact congrArg List.length e)
    | (rintro ⟨_, _, _, e, _⟩; exact congrArg List.length e)
    | (rintro ⟨_, _, _, _, e, _⟩; exact congrArg List.length e)
    | (rintro ⟨_, _, _, _, _, e, _⟩; exact congrArg List.length e)
    | (rintro ⟨_, _, _, _, _, _, e, _⟩; exact congrArg List.length e)
    | (rintro ⟨_, _, _, _, _, _, _, e, _⟩; exact congrArg List.length e)
    | (rintro ⟨_, _, _, _, _, _, _, _, e, _⟩; exact congrArg List.length e)
    | (rintro ⟨_, _, _, _, _, _, _, _, _, e, _⟩; exact congrArg List.length e)
    | (rintro ⟨_, _, _, _, _, _, _, _, _, _, e, _⟩; exact congrArg List.length e)
    | (rintro ⟨_, _, _, _, _, _, _, _, _, _, _, e, _⟩; exact congrArg List.length e)
    | (rintro ⟨_, _, _, _, _, _, _, _, _, _, _, _, e, _⟩; exact congrArg List.length e)
    | (rintro ⟨_, _, _, _, _, _, _, _, _, _, _, _, _, e, _⟩; exact congrArg List.length e)
    | (rintro ⟨_, _, _, _, _, _, _, _, _, _, _, _, _, _, e, _⟩; exact congrArg List.length e)
    | (rintro ⟨_, _, _, _, _, _, _, _, _, _, _, _, _, _, _, e, _⟩; exact congrArg List.length e)
    | (rintro ⟨_, _, _, _, _, _, _, _, _, _, _, _, _, _, _, _, e, _⟩; exact congrArg List.length e)
    | (rintro ⟨_, _, _, _, _, _, _, _, _, _, _, _, _, _, _, _, _, e, _⟩; exact congrArg List.length e))
local macro_rules
  | `(tactic| walk_at "gs") => `(tactic| repeat (first | (with_reducible refine Stow.r_nx ?_) | ((fail_if_success (with_reducible refine Stow.r_isIf ?_)); walk_at "st")))
local macro_rules
  | `(tactic| walk_at "ga") => `(tactic| repeat ((fail_if_success (with_reducible refine Stow.r_isAnd ?_)); (fail_if_success (with_reducible refine Stow.r_isOr ?_)); walk_at "st"))
local macro_rules
  | `(tactic| walk_at "ge") => `(tactic| repeat (first | (with_reducible refine Stow.r_nx ?_) | ((fail_if_success (with_reducible refine Stow.r_isSeq ?_)); walk_at "st")))
local macro_rules
  | `(tactic| walk_at "g1") => `(tactic| ((with_reducible refine Stow.r_seq ?_); walk_at "ge"))

local macro_rules
  | `(tactic| walk_at "sp") => `(tactic| first
    | (with_reducible refine Stow.i_long ?_)
    | (with_reducible refine Stow.i_live ?_)
    | (with_reducible refine Stow.i_whole ?_)
    | ((with_reducible refine Stow.i_cell (ns := ?ns) ?h ?a ?_); (case h => walk_at "seq"); (case a => walk_at "nn"))
    | ((with_reducible refine Stow.i_can (ns := ?ns) ?h ?a ?b ?_); (case h => walk_at "seq"); (case a => walk_at "num"); (case b => walk_at "num"))
    | ((with_reducible refine Stow.i_bad (ns := ?ns) ?h ?a ?b ?_); (case h => walk_at "seq"); (case a => walk_at "num"); (case b => walk_at "num")))
local macro_rules
  | `(tactic| walk_at "nn") => `(tactic| first | decide | omega | exact Int.emod_nonneg _ (by decide) | exact Int.emod_nonneg _ (by omega))

namespace Stow
open PySem L2 PyProof.Rows
abbrev s__wall : Stmt := top 0
abbrev s_check_ask : Stmt := top 18
theorem sc_check_ask : FnScope ["count", "bound"] ["count", "bound"] (defScope s_check_ask) := ⟨rfl, rfl, rfl, by decide +kernel, rfl, by decide +kernel, by decide +kernel⟩
theorem bi_check_ask (kV doc pm : Value) (an : Option Addr) (cdv ct : Value) (us : List Value) (hl : us.length = ["count", "bound"].length) : bindArgs (PySem.W.fnOf "check_ask" "check_ask" (defArgs s_check_ask) (defBody s_check_ask) (defScope s_check_ask) .none kV doc pm an cdv ct) ⟨us, []⟩ = pure ((["count", "bound"] : List Str).zip us) := match us, hl with | [_, _], _ => rfl
abbrev s_check_plain_ask : Stmt := top 19
theorem sc_check_plain_ask : FnScope ["count", "bound"] ["count", "bound"] (defScope s_check_plain_ask) := ⟨rfl, rfl, rfl, by decide +kernel, rfl, by decide +kernel, by decide +kernel⟩
theorem bi_check_plain_ask (kV doc pm : Value) (an : Option Addr) (cdv ct : Value) (us : List Value) (hl : us.length = ["count", "bound"].length) : bindArgs (PySem.W.fnOf "check_plain_ask" "check_plain_ask" (defArgs s_check_plain_ask) (defBody s_check_plain_ask) (defScope s_check_plain_ask) .none kV doc pm an cdv ct) ⟨us, []⟩ = pure ((["count", "bound"] : List Str).zip us) := match us, hl with | [_, _], _ => rfl
abbrev s_mark_of : Stmt := top 21
theorem sc_mark_of : FnScope ["long", "live"] ["long", "live"] (defScope s_mark_of) := ⟨rfl, rfl, rfl, by decide +kernel, rfl, by decide +kernel, by decide +kernel⟩
theorem bi_mark_of (kV doc pm : Value) (an : Option Addr) (cdv ct : Value) (us : List Value) (hl : us.length = ["long", "live"].length) : bindArgs (PySem.W.fnOf "mark_of" "mark_of" (defArgs s_mark_of) (defBody s_mark_of) (defScope s_mark_of) .none kV doc pm an cdv ct) ⟨us, []⟩ = pure ((["long", "live"] : List Str).zip us) := match us, hl with | [_, _], _ => rfl
abbrev s_long_of : Stmt := top 22
theorem sc_long_of : FnScope ["number"] ["number"] (defScope s_long_of) := ⟨rfl, rfl, rfl, by decide +kernel, rfl, by decide +kernel, by decide +kernel⟩
theorem bi_long_of (kV doc pm : Value) (an : Option Addr) (cdv ct : Value) (us : List Value) (hl : us.length = ["number"].length) : bindArgs (PySem.W.fnOf "long_of" "long_of" (defArgs s_long_of) (defBody s_long_of) (defScope s_long_of) .none kV doc pm an cdv ct) ⟨us, []⟩ = pure ((["number"] : List Str).zip us) := match us, hl with | [_], _ => rfl
abbrev s_live_of : Stmt := top 23
theorem sc_live_of : FnScope ["number"] ["number"] (defScope s_live_of) := ⟨rfl, rfl, rfl, by decide +kernel, rfl, by decide +kernel, by decide +kernel⟩
theorem bi_live_of (kV doc pm : Value) (an : Option Addr) (cdv ct : Value) (us : List Value) (hl : us.length = ["number"].length) : bindArgs (PySem.W.fnOf "live_of" "live_of" (defArgs s_live_of) (defBody s_live_of) (defScope s_live_of) .none kV doc pm an cdv ct) ⟨us, []⟩ = pure ((["number"] : List Str).zip us) := match us, hl with | [_], _ => rfl
abbrev s_can_begin : Stmt := top 26
theorem sc_can_begin : FnScope ["cells", "at", "long"] ["cells", "at"] (defScope s_can_begin) := ⟨rfl, rfl, rfl, by decide +kernel, rfl, by decide +kernel, by decide +kernel⟩
theorem bi_can_begin (kV doc pm : Value) (an : Option Addr) (cdv ct : Value) (us : List Value) (hl : us.length = ["cells", "at"].length) : bindArgs (PySem.W.fnOf "can_begin" "can_begin" (defArgs s_can_begin) (defBody s_can_begin) (defScope s_can_begin) .none kV doc pm an cdv ct) ⟨us, []⟩ = pure ((["cells", "at"] : List Str).zip us) := match us, hl with | [_, _], _ => rfl
abbrev s_bad_of_piece : Stmt := top 27
theorem sc_bad_of_piece : FnScope ["cells", "at", "last"] ["cells", "at"] (defScope s_bad_of_piece) := ⟨rfl, rfl, rfl, by decide +kernel, rfl, by decide +kernel, by decide +kernel⟩
theorem bi_bad_of_piece (kV doc pm : Value) (an : Option Addr) (cdv ct : Value) (us : List Value) (hl : us.length = ["cells", "at"].length) : bindArgs (PySem.W.fnOf "bad_of_piece" "bad_of_piece" (defArgs s_bad_of_piece) (defBody s_bad_of_piece) (defScope s_bad_of_piece) .none kV doc pm an cdv ct) ⟨us, []⟩ = pure ((["cells", "at"] : List Str).zip us) := match us, hl with | [_, _], _ => rfl
abbrev s_looked : Stmt := top 28
theorem sc_looked : FnScope ["cells", "pieces", "at", "bad", "long"] ["cells"] (defScope s_looked) := ⟨rfl, rfl, rfl, by decide +kernel, rfl, by decide +kernel, by decide +kernel⟩
theorem bi_looked (kV doc pm : Value) (an : Option Addr) (cdv ct : Value) (us : List Value) (hl : us.length = ["cells"].length) : bindArgs (PySem.W.fnOf "looked" "looked" (defArgs s_looked) (defBody s_looked) (defScope s_looked) .none kV doc pm an cdv ct) ⟨us, []⟩ = pure ((["cells"] : List Str).zip us) := match us, hl with | [_], _ => rfl
abbrev s_fresh_room : Stmt := top 29
theorem sc_fresh_room : FnScope ["count", "cells"] ["count"] (defScope s_fresh_room) := ⟨rfl, rfl, rfl, by decide +kernel, rfl, by decide +kernel, by decide +kernel⟩
theorem bi_fresh_room (kV doc pm : Value) (an : Option Addr) (cdv ct : Value) (us : List Value) (hl : us.length = ["count"].length) : bindArgs (PySem.W.fnOf "fresh_room" "fresh_room" (defArgs s_fresh_room) (defBody s_fresh_room) (defScope s_fresh_room) .none kV doc pm an cdv ct) ⟨us, []⟩ = pure ((["count"] : List Str).zip us) := match us, hl with | [_], _ => rfl
abbrev s_laid : Stmt := top 31
theorem sc_laid : FnScope ["cells", "at", "long", "live", "row"] ["cells", "at", "long", "live"] (defScope s_laid) := ⟨rfl, rfl, rfl, by decide +kernel, rfl, by decide +kernel, by decide +kernel⟩
theorem bi_laid (kV doc pm : Value) (an : Option Addr) (cdv ct : Value) (us : List Value) (hl : us.length = ["cells", "at", "long", "live"].length) : bindArgs (PySem.W.fnOf "laid" "laid" (defArgs s_laid) (defBody s_laid) (defScope s_laid) .none kV doc pm an cdv ct) ⟨us, []⟩ = pure ((["cells", "at", "long", "live"] : List Str).zip us) := match us, hl with | [_, _, _, _], _ => rfl
abbrev s_piece_at : Stmt := top 32
theorem sc_piece_at : FnScope ["cells", "at", "piece"] ["cells", "at"] (defScope s_piece_at) := ⟨rfl, rfl, rfl, by decide +kernel, rfl, by decide +kernel, by decide +kernel⟩
theorem bi_piece_at (kV doc pm : Value) (an : Option Addr) (cdv ct : Value) (us : List Value) (hl : us.length = ["cells", "at"].length) : bindArgs (PySem.W.fnOf "piece_at" "piece_at" (defArgs s_piece_at) (defBody s_piece_at) (defScope s_piece_at) .none kV doc pm an cdv ct) ⟨us, []⟩ = pure ((["cells", "at"] : List Str).zip us) := match us, hl with | [_, _], _ => rfl
abbrev s_live_at : Stmt := top 33
theorem sc_live_at : FnScope ["cells", "at", "piece"] ["cells", "at"] (defScope s_live_at) := ⟨rfl, rfl, rfl, by decide +kernel, rfl, by decide +kernel, by decide +kernel⟩
theorem bi_live_at (kV doc pm : Value) (an : Option Addr) (cdv ct : Value) (us : List Value) (hl : us.length = ["cells", "at"].length) : bindArgs (PySem.W.fnOf "live_at" "live_at" (defArgs s_live_at) (defBody s_live_at) (defScope s_live_at) .none kV doc pm an cdv ct) ⟨us, []⟩ = pure ((["cells", "at"] : List Str).zip us) := match us, hl with | [_, _], _ => rfl
abbrev s_all_whole : Stmt := top 37
theorem sc_all_whole : FnScope ["size", "shelf"] ["size", "shelf"] (defScope s_all_whole) := ⟨rfl, rfl, rfl, by decide +kernel, rfl, by decide +kernel, by decide +kernel⟩
theorem bi_all_whole (kV doc pm : Value) (an : Option Addr) (cdv ct : Value) (us : List Value) (hl : us.length = ["size", "shelf"].length) : bindArgs (PySem.W.fnOf "all_whole" "all_whole" (defArgs s_all_whole) (defBody s_all_whole) (defScope s_all_whole) .none kV doc pm an cdv ct) ⟨us, []⟩ = pure ((["size", "shelf"] : List Str).zip us) := match us, hl with | [_, _], _ => rfl
abbrev s_begin_of : Stmt := top 38
theorem sc_begin_of : FnScope ["at", "shelf"] ["at", "shelf"] (defScope s_begin_of) := ⟨rfl, rfl, rfl, by decide +kernel, rfl, by decide +kernel, by decide +kernel⟩
theorem bi_begin_of (kV doc pm : Value) (an : Option Addr) (cdv ct : Value) (us : List Value) (hl : us.length = ["at", "shelf"].length) : bindArgs (PySem.W.fnOf "begin_of" "begin_of" (defArgs s_begin_of) (defBody s_begin_of) (defScope s_begin_of) .none kV doc pm an cdv ct) ⟨us, []⟩ = pure ((["at", "shelf"] : List Str).zip us) := match us, hl with | [_, _], _ => rfl
abbrev s_whole_ones : Stmt := top 39
theorem sc_whole_ones : FnScope ["cells", "shelf"] ["cells", "shelf"] (defScope s_whole_ones) := ⟨rfl, rfl, rfl, by decide +kernel, rfl, by decide +kernel, by decide +kernel⟩
theorem bi_whole_ones (kV doc pm : Value) (an : Option Addr) (cdv ct : Value) (us : List Value) (hl : us.length = ["cells", "shelf"].length) : bindArgs (PySem.W.fnOf "whole_ones" "whole_ones" (defArgs s_whole_ones) (defBody s_whole_ones) (defScope s_whole_ones) .none kV doc pm an cdv ct) ⟨us, []⟩ = pure ((["cells", "shelf"] : List Str).zip us) := match us, hl with | [_, _], _ => rfl
abbrev s_free_slots : Stmt := top 40
theorem sc_free_slots : FnScope ["cells", "shelf", "size", "fit"] ["cells", "shelf", "size"] (defScope s_free_slots) := ⟨rfl, rfl, rfl, by decide +kernel, rfl, by decide +kernel, by decide +kernel⟩
theorem bi_free_slots (kV doc pm : Value) (an : Option Addr) (cdv ct : Value) (us : List Value) (hl : us.length = ["cells", "shelf", "size"].length) : bindArgs (PySem.W.fnOf "free_slots" "free_slots" (defArgs s_free_slots) (defBody s_free_slots) (defScope s_free_slots) .none kV doc pm an cdv ct) ⟨us, []⟩ = pure ((["cells", "shelf", "size"] : List Str).zip us) := match us, hl with | [_, _, _], _ => rfl
abbrev s_cut_for : Stmt := top 41
theorem sc_cut_for : FnScope ["cells", "begin", "shelf", "size", "row", "end", "at"] ["cells", "begin", "shelf", "size"] (defScope s_cut_for) := ⟨rfl, rfl, rfl, by decide +kernel, rfl, by decide +kernel, by decide +kernel⟩
theorem bi_cut_for (kV doc pm : Value) (an : Option Addr) (cdv ct : Value) (us : List Value) (hl : us.length = ["cells", "begin", "shelf", "size"].length) : bindArgs (PySem.W.fnOf "cut_for" "cut_for" (defArgs s_cut_for) (defBody s_cut_for) (defScope s_cut_for) .none kV doc pm an cdv ct) ⟨us, []⟩ = pure ((["cells", "begin", "shelf", "size"] : List Str).zip us) := match us, hl with | [_, _, _, _], _ => rfl
abbrev s_with_slot : Stmt := top 42
theorem sc_with_slot : FnScope ["cells", "shelf", "size", "begins"] ["cells", "shelf", "size"] (defScope s_with_slot) := ⟨rfl, rfl, rfl, by decide +kernel, rfl, by decide +kernel, by decide +kernel⟩
theorem bi_with_slot (kV doc pm : Value) (an : Option Addr) (cdv ct : Value) (us : List Value) (hl : us.length = ["cells", "shelf", "size"].length) : bindArgs (PySem.W.fnOf "with_slot" "with_slot" (defArgs s_with_slot) (defBody s_with_slot) (defScope s_with_slot) .none kV doc pm an cdv ct) ⟨us, []⟩ = pure ((["cells", "shelf", "size"] : List Str).zip us) := match us, hl with | [_, _, _], _ => rfl
abbrev s_has_live : Stmt := top 43
theorem sc_has_live : FnScope ["cells", "begin", "shelf"] ["cells", "begin", "shelf"] (defScope s_has_live) := ⟨rfl, rfl, rfl, by decide +kernel, rfl, by decide +kernel, by decide +kernel⟩
theorem bi_has_live (kV doc pm : Value) (an : Option Addr) (cdv ct : Value) (us : List Value) (hl : us.length = ["cells", "begin", "shelf"].length) : bindArgs (PySem.W.fnOf "has_live" "has_live" (defArgs s_has_live) (defBody s_has_live) (defScope s_has_live) .none kV doc pm an cdv ct) ⟨us, []⟩ = pure ((["cells", "begin", "shelf"] : List Str).zip us) := match us, hl with | [_, _, _], _ => rfl
abbrev s_L_cell_at : Stmt := top 46
theorem sc_L_cell_at : FnScope ["_law_script", "_law_k"] ["_law_script", "_law_k"] (defScope s_L_cell_at) := ⟨rfl, rfl, rfl, by decide +kernel, rfl, by decide +kernel, by decide +kernel⟩
theorem bi_L_cell_at (kV doc pm : Value) (an : Option Addr) (cdv ct : Value) (us : List Value) (hl : us.length = ["_law_script", "_law_k"].length) : bindArgs (PySem.W.fnOf "_law_cell_at" "_law_cell_at" (defArgs s_L_cell_at) (defBody s_L_cell_at) (defScope s_L_cell_at) .none kV doc pm an cdv ct) ⟨us, []⟩ = pure ((["_law_script", "_law_k"] : List Str).zip us) := match us, hl with | [_, _], _ => rfl
abbrev s_L_whole : Stmt := top 47
theorem sc_L_whole : FnScope ["_law_found"] ["_law_found"] (defScope s_L_whole) := ⟨rfl, rfl, rfl, by decide +kernel, rfl, by decide +kernel, by decide +kernel⟩
theorem bi_L_whole (kV doc pm : Value) (an : Option Addr) (cdv ct : Value) (us : List Value) (hl : us.length = ["_law_found"].length) : bindArgs (PySem.W.fnOf "_law_whole" "_law_whole" (defArgs s_L_whole) (defBody s_L_whole) (defScope s_L_whole) .none kV doc pm an cdv ct) ⟨us, []⟩ = pure ((["_law_found"] : List Str).zip us) := match us, hl with | [_], _ => rfl
abbrev s_L_alike : Stmt := top 48
theorem sc_L_alike : FnScope ["_law_found", "_law_due", "_law_piece"] ["_law_found", "_law_due"] (defScope s_L_alike) := ⟨rfl, rfl, rfl, by decide +kernel, rfl, by decide +kernel, by decide +kernel⟩
theorem bi_L_alike (kV doc pm : Value) (an : Option Addr) (cdv ct : Value) (us : List Value) (hl : us.length = ["_law_found", "_law_due"].length) : bindArgs (PySem.W.fnOf "_law_alike" "_law_alike" (defArgs s_L_alike) (defBody s_L_alike) (defScope s_L_alike) .none kV doc pm an cdv ct) ⟨us, []⟩ = pure ((["_law_found", "_law_due"] : List Str).zip us) := match us, hl with | [_, _], _ => rfl
abbrev s_L_asked : Stmt := top 49
theorem sc_L_asked : FnScope ["_law_keeper", "_law_count", "_law_bare", "_law_place", "_law_flags", "e", "_law_others"] ["_law_keeper", "_law_count", "_law_bare"] (defScope s_L_asked) := ⟨rfl, rfl, rfl, by decide +kernel, rfl, by decide +kernel, by decide +kernel⟩
theorem bi_L_asked (kV doc pm : Value) (an : Option Addr) (cdv ct : Value) (us : List Value) (hl : us.length = ["_law_keeper", "_law_count", "_law_bare"].length) : bindArgs (PySem.W.fnOf "_law_asked" "_law_asked" (defArgs s_L_asked) (defBody s_L_asked) (defScope s_L_asked) .none kV doc pm an cdv ct) ⟨us, []⟩ = pure ((["_law_keeper", "_law_count", "_law_bare"] : List Str).zip us) := match us, hl with | [_, _, _], _ => rfl
abbrev s_L_no_room_of : Stmt := top 50
theorem sc_L_no_room_of : FnScope ["_law_size", "_law_shelf", "_law_fine", "e"] ["_law_size", "_law_shelf"] (defScope s_L_no_room_of) := ⟨rfl, rfl, rfl, by decide +kernel, rfl, by decide +kernel, by decide +kernel⟩
theorem bi_L_no_room_of (kV doc pm : Value) (an : Option Addr) (cdv ct : Value) (us : List Value) (hl : us.length = ["_law_size", "_law_shelf"].length) : bindArgs (PySem.W.fnOf "_law_no_room_of" "_law_no_room_of" (defArgs s_L_no_room_of) (defBody s_L_no_room_of) (defScope s_L_no_room_of) .none kV doc pm an cdv ct) ⟨us, []⟩ = pure ((["_law_size", "_law_shelf"] : List Str).zip us) := match us, hl with | [_, _], _ => rfl
abbrev s_law : Stmt := top 51
theorem sc_law : FnScope ["_law_script", "_law_shelf", "_law_shelves", "_law_low", "_law_count", "_law_keeper", "_law_whole_here", "_law_place", "_law_flags", "_law_need", "_law_due", "_law_many"] ["_law_script"] (defScope s_law) := ⟨rfl, rfl, rfl, by decide +kernel, rfl, by decide +kernel, by decide +kernel⟩
abbrev s_Broken_init : Stmt := inClass (top 5) 0
theorem sc_Broken_init : FnScope ["self", "cell"] ["self", "cell"] (defScope s_Broken_init) := ⟨rfl, rfl, rfl, by decide +kernel, rfl, by decide +kernel, by decide +kernel⟩
theorem bi_Broken_init (kV doc pm : Value) (an : Option Addr) (cdv ct : Value) (us : List Value) (hl : us.length = ["self", "cell"].length) : bindArgs (PySem.W.fnOf "__init__" "Broken.__init__" (defArgs s_Broken_init) (defBody s_Broken_init) (defScope s_Broken_init) .none kV doc pm an cdv ct) ⟨us, []⟩ = pure ((["self", "cell"] : List Str).zip us) := match us, hl with | [_, _], _ => rfl
abbrev s_Keeper_init : Stmt := inClass (top 35) 0
theorem sc_Keeper_init : FnScope ["self", "size"] ["self", "size"] (defScope s_Keeper_init) := ⟨rfl, rfl, rfl, by decide +kernel, rfl, by decide +kernel, by decide +kernel⟩
theorem bi_Keeper_init (kV doc pm : Value) (an : Option Addr) (cdv ct : Value) (us : List Value) (hl : us.length = ["self", "size"].length) : bindArgs (PySem.W.fnOf "__init__" "Keeper.__init__" (defArgs s_Keeper_init) (defBody s_Keeper_init) (defScope s_Keeper_init) .none kV doc pm an cdv ct) ⟨us, []⟩ = pure ((["self", "size"] : List Str).zip us) := match us, hl with | [_, _], _ => rfl
abbrev s_Keeper_room_begin : Stmt := inClass (top 35) 11
theorem sc_Keeper_room_begin : FnScope ["self", "cells"] ["self", "cells"] (defScope s_Keeper_room_begin) := ⟨rfl, rfl, rfl, by decide +kernel, rfl, by decide +kernel, by decide +kernel⟩
theorem bi_Keeper_room_begin (kV doc pm : Value) (an : Option Addr) (cdv ct : Value) (us : List Value) (hl : us.length = ["self", "cells"].length) : bindArgs (PySem.W.fnOf "room_begin" "Keeper.room_begin" (defArgs s_Keeper_room_begin) (defBody s_Keeper_room_begin) (defScope s_Keeper_room_begin) .none kV doc pm an cdv ct) ⟨us, []⟩ = pure ((["self", "cells"] : List Str).zip us) := match us, hl with | [_, _], _ => rfl
abbrev s_Keeper_lay : Stmt := inClass (top 35) 3
theorem sc_Keeper_lay : FnScope ["self", "cells"] ["self", "cells"] (defScope s_Keeper_lay) := ⟨rfl, rfl, rfl, by decide +kernel, rfl, by decide +kernel, by decide +kernel⟩
theorem bi_Keeper_lay (kV doc pm : Value) (an : Option Addr) (cdv ct : Value) (us : List Value) (hl : us.length = ["self", "cells"].length) : bindArgs (PySem.W.fnOf "lay" "Keeper.lay" (defArgs s_Keeper_lay) (defBody s_Keeper_lay) (defScope s_Keeper_lay) .none kV doc pm an cdv ct) ⟨us, []⟩ = pure ((["self", "cells"] : List Str).zip us) := match us, hl with | [_, _], _ => rfl
abbrev s_Keeper_pieces : Stmt := inClass (top 35) 2
theorem sc_Keeper_pieces : FnScope ["self"] ["self"] (defScope s_Keeper_pieces) := ⟨rfl, rfl, rfl, by decide +kernel, rfl, by decide +kernel, by decide +kernel⟩
theorem bi_Keeper_pieces (kV doc pm : Value) (an : Option Addr) (cdv ct : Value) (us : List Value) (hl : us.length = ["self"].length) : bindArgs (PySem.W.fnOf "pieces" "Keeper.pieces" (defArgs s_Keeper_pieces) (defBody s_Keeper_pieces) (defScope s_Keeper_pieces) .none kV doc pm an cdv ct) ⟨us, []⟩ = pure ((["self"] : List Str).zip us) := match us, hl with | [_], _ => rfl
abbrev s_Keeper_cells : Stmt := inClass (top 35) 1
theorem sc_Keeper_cells : FnScope ["self"] ["self"] (defScope s_Keeper_cells) := ⟨rfl, rfl, rfl, by decide +kernel, rfl, by decide +kernel, by decide +kernel⟩
theorem bi_Keeper_cells (kV doc pm : Value) (an : Option Addr) (cdv ct : Value) (us : List Value) (hl : us.length = ["self"].length) : bindArgs (PySem.W.fnOf "cells" "Keeper.cells" (defArgs s_Keeper_cells) (defBody s_Keeper_cells) (defScope s_Keeper_cells) .none kV doc pm an cdv ct) ⟨us, []⟩ = pure ((["self"] : List Str).zip us) := match us, hl with | [_], _ => rfl
abbrev s_Keeper_many : Stmt := inClass (top 35) 5
theorem sc_Keeper_many : FnScope ["self", "place", "at", "long", "live"] ["self", "place"] (defScope s_Keeper_many) := ⟨rfl, rfl, rfl, by decide +kernel, rfl, by decide +kernel, by decide +kernel⟩
theorem bi_Keeper_many (kV doc pm : Value) (an : Option Addr) (cdv ct : Value) (us : List Value) (hl : us.length = ["self", "place"].length) : bindArgs (PySem.W.fnOf "many" "Keeper.many" (defArgs s_Keeper_many) (defBody s_Keeper_many) (defScope s_Keeper_many) .none kV doc pm an cdv ct) ⟨us, []⟩ = pure ((["self", "place"] : List Str).zip us) := match us, hl with | [_, _], _ => rfl
abbrev s_Shelves_init : Stmt := inClass (top 44) 0
theorem sc_Shelves_init : FnScope ["self", "size", "shelf", "cells"] ["self", "size", "shelf"] (defScope s_Shelves_init) := ⟨rfl, rfl, rfl, by decide +kernel, rfl, by decide +kernel, by decide +kernel⟩
theorem bi_Shelves_init (kV doc pm : Value) (an : Option Addr) (cdv ct : Value) (us : List Value) (hl : us.length = ["self", "size", "shelf"].length) : bindArgs (PySem.W.fnOf "__init__" "Shelves.__init__" (defArgs s_Shelves_init) (defBody s_Shelves_init) (defScope s_Shelves_init) .none kV doc pm an cdv ct) ⟨us, []⟩ = pure ((["self", "size", "shelf"] : List Str).zip us) := match us, hl with | [_, _, _], _ => rfl
abbrev s_Shelves_ask : Stmt := inClass (top 44) 2
theorem sc_Shelves_ask : FnScope ["self", "count", "bound", "size", "cells", "at"] ["self", "count", "bound"] (defScope s_Shelves_ask) := ⟨rfl, rfl, rfl, by decide +kernel, rfl, by decide +kernel, by decide +kernel⟩
theorem bi_Shelves_ask (T : Addr) (d1 : Value) (kV doc pm : Value) (an : Option Addr) (cdv ct : Value) (us : List Value) (hl : us.length = ["self", "count", "bound"].length) : ∃ k : Option (Array Value) → Sem (List (Str × Value)), bindArgs (PySem.W.fnOf "ask" "Shelves.ask" (defArgs s_Shelves_ask) (defBody s_Shelves_ask) (defScope s_Shelves_ask) (.ref T) kV doc pm an cdv ct) ⟨us, []⟩ = seqItems? (.ref T) >>= k ∧ k (some [d1].toArray) = pure ((["self", "count", "bound"] : List Str).zip us) := match us, hl with | [_, _, _], _ => ⟨_, rfl, rfl⟩
theorem bd_Shelves_ask (T : Addr) (d1 : Value) (kV doc pm : Value) (an : Option Addr) (cdv ct : Value) (us : List Value) (hl : (us ++ [d1]).length = ["self", "count", "bound"].length) : ∃ k : Option (Array Value) → Sem (List (Str × Value)), bindArgs (PySem.W.fnOf "ask" "Shelves.ask" (defArgs s_Shelves_ask) (defBody s_Shelves_ask) (defScope s_Shelves_ask) (.ref T) kV doc pm an cdv ct) ⟨us, []⟩ = seqItems? (.ref T) >>= k ∧ k (some [d1].toArray) = pure ((["self", "count", "bound"] : List Str).zip (us ++ [d1])) := match us, (show us.length = 2 by simpa using hl) with | [_, _], _ => ⟨_, rfl, rfl⟩
abbrev s_Shelves_give : Stmt := inClass (top 44) 3
theorem sc_Shelves_give : FnScope ["self", "place", "cells", "begin"] ["self", "place"] (defScope s_Shelves_give) := ⟨rfl, rfl, rfl, by decide +kernel, rfl, by decide +kernel, by decide +kernel⟩
theorem bi_Shelves_give (kV doc pm : Value) (an : Option Addr) (cdv ct : Value) (us : List Value) (hl : us.length = ["self", "place"].length) : bindArgs (PySem.W.fnOf "give" "Shelves.give" (defArgs s_Shelves_give) (defBody s_Shelves_give) (defScope s_Shelves_give) .none kV doc pm an cdv ct) ⟨us, []⟩ = pure ((["self", "place"] : List Str).zip us) := match us, hl with | [_, _], _ => rfl
structure Txt (K : PySem.W.Frag) (mg : Str → Option Value) (C_StowError C_NoName C_NoSize C_Broken C_NoGive C_NoHandle C_NoPiece C_NoCell C_NoAsk C_NoBound C_NoRoom C_BadLine C_NoLine C_NoTurn C_Keeper C_Shelves : Addr) (tk_LEAST_LIVE : Tok) (tk_MARKS : Tok) : Prop where
  n_ValueError : mg "ValueError" = none
  n_any : mg "any" = none
  n_bool : mg "bool" = none
  n_int : mg "int" = none
  n_isinstance : mg "isinstance" = none
  n_len : mg "len" = none
  n_list : mg "list" = none
  n_min : mg "min" = none
  n_range : mg "range" = none
  n_tuple : mg "tuple" = none
  g_LEAST_LIVE : mg "LEAST_LIVE" = some (.int 3 tk_LEAST_LIVE)
  g_MARKS : mg "MARKS" = some (.int 2 tk_MARKS)
  c_StowError : mg "StowError" = some (.ref C_StowError)
  c_NoName : mg "NoName" = some (.ref C_NoName)
  c_NoSize : mg "NoSize" = some (.ref C_NoSize)
  c_Broken : mg "Broken" = some (.ref C_Broken)
  c_NoGive : mg "NoGive" = some (.ref C_NoGive)
  c_NoHandle : mg "NoHandle" = some (.ref C_NoHandle)
  c_NoPiece : mg "NoPiece" = some (.ref C_NoPiece)
  c_NoCell : mg "NoCell" = some (.ref C_NoCell)
  c_NoAsk : mg "NoAsk" = some (.ref C_NoAsk)
  c_NoBound : mg "NoBound" = some (.ref C_NoBound)
  c_NoRoom : mg "NoRoom" = some (.ref C_NoRoom)
  c_BadLine : mg "BadLine" = some (.ref C_BadLine)
  c_NoLine : mg "NoLine" = some (.ref C_NoLine)
  c_NoTurn : mg "NoTurn" = some (.ref C_NoTurn)
  c_Keeper : mg "Keeper" = some (.ref C_Keeper)
  c_Shelves : mg "Shelves" = some (.ref C_Shelves)
  s_Broken : XSet K C_Broken "cell"
  x_NoSize : XCls K mg "NoSize" C_NoSize
  x_NoPiece : XCls K mg "NoPiece" C_NoPiece
  x_NoRoom : XCls K mg "NoRoom" C_NoRoom
  cl_Shelves : Cls K C_Shelves
  na_Shelves_room_cells : NoAttr K C_Shelves "room_cells"
  na_Shelves_shelf : NoAttr K C_Shelves "shelf"
  f_NoSize_StowError : Fits K C_NoSize C_StowError true
  f_NoRoom_StowError : Fits K C_NoRoom C_StowError true
  z_NoSize : XK0 K C_NoSize
  z_NoRoom : XK0 K C_NoRoom
  i_NoSize_NoSize : PySem.W.kitOne K (.ref C_NoSize) (.ref C_NoSize) = some true
  i_NoSize_ValueError : PySem.W.kitOne K (.ref C_NoSize) (.type "ValueError") = some true
  i_NoSize_NoName : PySem.W.kitOne K (.ref C_NoSize) (.ref C_NoName) = some false
  i_NoRoom_NoRoom : PySem.W.kitOne K (.ref C_NoRoom) (.ref C_NoRoom) = some true
  i_NoRoom_ValueError : PySem.W.kitOne K (.ref C_NoRoom) (.type "ValueError") = some true
  i_NoRoom_NoAsk : PySem.W.kitOne K (.ref C_NoRoom) (.ref C_NoAsk) = some false
  i_NoRoom_NoBound : PySem.W.kitOne K (.ref C_NoRoom) (.ref C_NoBound) = some false
  i_NoRoom_NoCell : PySem.W.kitOne K (.ref C_NoRoom) (.ref C_NoCell) = some false
  i_NoRoom_NoGive : PySem.W.kitOne K (.ref C_NoRoom) (.ref C_NoGive) = some false
  i_NoRoom_NoHandle : PySem.W.kitOne K (.ref C_NoRoom) (.ref C_NoHandle) = some false
  i_NoRoom_NoName : PySem.W.kitOne K (.ref C_NoRoom) (.ref C_NoName) = some false
  i_NoRoom_NoPiece : PySem.W.kitOne K (.ref C_NoRoom) (.ref C_NoPiece) = some false
  i_NoRoom_NoSize : PySem.W.kitOne K (.ref C_NoRoom) (.ref C_NoSize) = some false
  i_NoRoom_Broken : PySem.W.kitOne K (.ref C_NoRoom) (.ref C_Broken) = some false
  i_NoRoom_BadLine : PySem.W.kitOne K (.ref C_NoRoom) (.ref C_BadLine) = some false
  i_NoRoom_NoLine : PySem.W.kitOne K (.ref C_NoRoom) (.ref C_NoLine) = some false
  i_NoRoom_NoTurn : PySem.W.kitOne K (.ref C_NoRoom) (.ref C_NoTurn) = some false
def spMark : Sp := fun vs H Q _ => ∃ (n : Int) (v : Bool), vs = [.int n, .bl v] ∧ n.natAbs < 2 ^ 220 ∧ Q (.int (n * 2 + if v then 1 else 0)) H
theorem d_mark_of {P : Program} {w : World} {base : Heap} {K : PySem.W.Frag} {mg : Str → Option Value} {C_StowError C_NoName C_NoSize C_Broken C_NoGive C_NoHandle C_NoPiece C_NoCell C_NoAsk C_NoBound C_NoRoom C_BadLine C_NoLine C_NoTurn C_Keeper C_Shelves : Addr} {tk_LEAST_LIVE : Tok} {tk_MARKS : Tok} (S : Src K mg "mark_of" s_mark_of) (T : Txt K mg C_StowError C_NoName C_NoSize C_Broken C_NoGive C_NoHandle C_NoPiece C_NoCell C_NoAsk C_NoBound C_NoRoom C_BadLine C_NoLine C_NoTurn C_Keeper C_Shelves tk_LEAST_LIVE tk_MARKS)  : Defx P w K mg base "mark_of" 1 ["long", "live"] (spMark) := by
  refine S.okx sc_mark_of bi_mark_of (fun vs H Q E h => by revert h; walk_at "len") (fun f cdv A outer s H vs Q E hr h => ?_)
  refine ⟨_, PSs.nox (pss_cons (ps_if (pt_truth (pv 1) (fun _ => rfl)) (pss_one (ps_ret (pe_op op_or (pe_op op_shlB (pv 0) pe_int) pe_int))) pss_nil) (pss_one (ps_ret (pe_op op_shlB (pv 0) pe_int)))), ?_⟩
  obtain ⟨n, v, rfl, hn, q⟩ := h
  walk_at "go"
  refine r_ifb (fun hv => ?_) (fun hv => ?_)
  · walk_at "go"
    rw [two1, bitOr_one]
    subst hv
    exact q
  · walk_at "go"
    rw [two1]
    subst hv
    rw [if_neg Bool.false_ne_true, Int.add_zero] at q
    exact q
theorem d_long_of {P : Program} {w : World} {base : Heap} {K : PySem.W.Frag} {mg : Str → Option Value} {C_StowError C_NoName C_NoSize C_Broken C_NoGive C_NoHandle C_NoPiece C_NoCell C_NoAsk C_NoBound C_NoRoom C_BadLine C_NoLine C_NoTurn C_Keeper C_Shelves : Addr} {tk_LEAST_LIVE : Tok} {tk_MARKS : Tok} (S : Src K mg "long_of" s_long_of) (T : Txt K mg C_StowError C_NoName C_NoSize C_Broken C_NoGive C_NoHandle C_NoPiece C_NoCell C_NoAsk C_NoBound C_NoRoom C_BadLine C_NoLine C_NoTurn C_Keeper C_Shelves tk_LEAST_LIVE tk_MARKS)  : Defx P w K mg base "long_of" 1 ["number"] (spLong) := by
  refine S.okx sc_long_of bi_long_of (fun vs H Q E h => by revert h; walk_at "len") (fun f cdv A outer s H vs Q E hr h => ?_)
  refine ⟨_, PSs.nox (pss_one (ps_ret (pe_op op_shr (pv 0) pe_int))), ?_⟩
  obtain ⟨n, rfl, q⟩ := h
  walk_at "go"
  rw [two1]
  exact q
theorem d_live_of {P : Program} {w : World} {base : Heap} {K : PySem.W.Frag} {mg : Str → Option Value} {C_StowError C_NoName C_NoSize C_Broken C_NoGive C_NoHandle C_NoPiece C_NoCell C_NoAsk C_NoBound C_NoRoom C_BadLine C_NoLine C_NoTurn C_Keeper C_Shelves : Addr} {tk_LEAST_LIVE : Tok} {tk_MARKS : Tok} (S : Src K mg "live_of" s_live_of) (T : Txt K mg C_StowError C_NoName C_NoSize C_Broken C_NoGive C_NoHandle C_NoPiece C_NoCell C_NoAsk C_NoBound C_NoRoom C_BadLine C_NoLine C_NoTurn C_Keeper C_Shelves tk_LEAST_LIVE tk_MARKS)  : Defx P w K mg base "live_of" 1 ["number"] (spLive) := by
  refine S.okx sc_live_of bi_live_of (fun vs H Q E h => by revert h; walk_at "len") (fun f cdv A outer s H vs Q E hr h => ?_)
  refine ⟨_, PSs.nox (pss_one (ps_ret (pe_cmpR op_eq (pe_op op_and (pv 0) pe_int) pe_int (nomark _)))), ?_⟩
  obtain ⟨n, rfl, q⟩ := h
  walk_at "go"
  rw [live_eq2]
  exact q
theorem d_can_begin {P : Program} {w : World} {base : Heap} {K : PySem.W.Frag} {mg : Str → Option Value} {C_StowError C_NoName C_NoSize C_Broken C_NoGive C_NoHandle C_NoPiece C_NoCell C_NoAsk C_NoBound C_NoRoom C_BadLine C_NoLine C_NoTurn C_Keeper C_Shelves : Addr} {tk_LEAST_LIVE : Tok} {tk_MARKS : Tok} (S : Src K mg "can_begin" s_can_begin) (T : Txt K mg C_StowError C_NoName C_NoSize C_Broken C_NoGive C_NoHandle C_NoPiece C_NoCell C_NoAsk C_NoBound C_NoRoom C_BadLine C_NoLine C_NoTurn C_Keeper C_Shelves tk_LEAST_LIVE tk_MARKS) (D_long_of : Defx P w K mg base "long_of" 1 ["number"] (spLong)) (D_live_of : Defx P w K mg base "live_of" 1 ["number"] (spLive)) : Defx P w K mg base "can_begin" 2 ["cells", "at"] (spCan K) := by
  refine S.okx sc_can_begin bi_can_begin (fun vs H Q E h => by revert h; walk_at "len") (fun f cdv A outer s H vs Q E hr h => ?_)
  refine ⟨_, PSs.nox (pss_cons (ps_set (i := 2) sc_can_begin.nd rfl (Or.inl rfl) (pe_defq D_long_of hr (by rfl) (pa_cons (pe_ix ix_list (pv 0) (pv 1) (fun _ _ => rfl)) pa_nil))) (pss_cons (ps_if (PW.pt (pw_or (pt_cmpR op_lt (pv 2) pe_int (nomark _)) (pw_or1 (pt_cmpR op_gt (pe_op op_add (pv 1) (pv 2)) (pe_callB call_len_seq (by rfl) T.n_len PySem.boot_len (pa_cons (pv 0) pa_nil)) (nomark _))))) (pss_one (ps_ret pe_bl)) pss_nil) (pss_one (ps_ret (pe_or (pe_cmpR op_ge (pv 2) (pe_glob (v := .int 3) (by rfl) T.g_LEAST_LIVE ⟨_, rfl⟩) (nomark _)) (pe_one (pe_not (pe_defq D_live_of hr (by rfl) (pa_cons (pe_ix ix_list (pv 0) (pv 1) (fun _ _ => rfl)) pa_nil))))))))), ?_⟩
  obtain ⟨a, ns, k, rfl, hS, h0, h1, q⟩ := h
  have q' : ∀ c, canBegin ns k = c → Q (.bl c) H := fun c e => e ▸ q
  walk_at "go"
  refine r_ifd (fun hc => ?_) (fun hc => ?_)
  · walk_at "go"
    exact q' false (by unfold canBegin; rw [if_pos (Or.inl hc)])
  · walk_at "go"
    refine r_ifd (fun hd => ?_) (fun hd => ?_)
    · walk_at "go"
      exact q' false (by unfold canBegin; rw [if_pos (Or.inr hd)])
    · walk_at "go"
      have ec : canBegin ns k = (decide (3 ≤ ns.getD k.toNat 0 / 2) || !decide (ns.getD k.toNat 0 % 2 = 1)) := by
        unfold canBegin
        rw [if_neg (by omega)]
      refine r_ifb (fun he => ?_) (fun he => ?_)
      · walk_at "go"
        exact q' true (by rw [ec, he, Bool.true_or])
      · walk_at "go"
        exact q' _ (by rw [ec, he, Bool.false_or])
theorem d_bad_of_piece {P : Program} {w : World} {base : Heap} {K : PySem.W.Frag} {mg : Str → Option Value} {C_StowError C_NoName C_NoSize C_Broken C_NoGive C_NoHandle C_NoPiece C_NoCell C_NoAsk C_NoBound C_NoRoom C_BadLine C_NoLine C_NoTurn C_Keeper C_Shelves : Addr} {tk_LEAST_LIVE : Tok} {tk_MARKS : Tok} (S : Src K mg "bad_of_piece" s_bad_of_piece) (T : Txt K mg C_StowError C_NoName C_NoSize C_Broken C_NoGive C_NoHandle C_NoPiece C_NoCell C_NoAsk C_NoBound C_NoRoom C_BadLine C_NoLine C_NoTurn C_Keeper C_Shelves tk_LEAST_LIVE tk_MARKS) (D_long_of : Defx P w K mg base "long_of" 1 ["number"] (spLong)) (D_can_begin : Defx P w K mg base "can_begin" 2 ["cells", "at"] (spCan K)) : Defx P w K mg base "bad_of_piece" 3 ["cells", "at"] (spBad K) := by
  refine S.okx sc_bad_of_piece bi_bad_of_piece (fun vs H Q E h => by revert h; walk_at "len") (fun f cdv A outer s H vs Q E hr h => ?_)
  refine ⟨_, PSs.nox (pss_cons (ps_if (pt_not (pt_val (pe_defq D_can_begin hr (by rfl) (pa_cons (pv 0) (pa_cons (pv 1) pa_nil))))) (pss_one (ps_ret (pv 1))) pss_nil) (pss_cons (ps_set (i := 2) sc_bad_of_piece.nd rfl (Or.inl rfl) (pe_op op_sub (pe_op op_add (pv 1) (pe_defq D_long_of hr (by rfl) (pa_cons (pe_ix ix_list (pv 0) (pv 1) (fun _ _ => rfl)) pa_nil))) pe_int)) (pss_cons (ps_if (pt_cmpR op_ne (pe_ix ix_list (pv 0) (pv 2) (fun _ _ => rfl)) (pe_ix ix_list (pv 0) (pv 1) (fun _ _ => rfl)) (nomark _)) (pss_one (ps_ret (pv 2))) pss_nil) (pss_one (ps_ret pe_non))))), ?_⟩
  obtain ⟨a, ns, k, rfl, hS, h0, h1, q⟩ := h
  have q' : ∀ c, badOf ns k = c → Q (optV c) H := fun c e => e ▸ q
  walk_at "go"
  refine r_ifb (fun hc => ?_) (fun hc => ?_)
  · obtain ⟨b1, b2, _⟩ := (canBegin_iff ns k).mp hc
    walk_at "go"
    refine r_ifd (fun hd => ?_) (fun hd => ?_)
    · walk_at "go"
      exact q' none (bad_well hc hd)
    · walk_at "go"
      exact q' (some _) (bad_last hc hd)
  · walk_at "go"
    exact q' (some k) (bad_no hc)
theorem d_Broken {P : Program} {w : World} {base : Heap} {K : PySem.W.Frag} {mg : Str → Option Value} {C_Broken C_StowError : Addr} {fI : Addr} {fd : FuncData} (F : Fun K "__init__" "Broken.__init__" s_Broken_init fI fd) (XI : XIni K mg "Broken" C_Broken C_StowError fI) (Z : XSet K C_Broken "cell") : DefI P w K mg base "Broken" C_Broken C_StowError 1 ["self", "cell"] (spInit C_Broken "cell") := by
  refine ⟨fI, fd, XI, fun_okx F sc_Broken_init (fun vs H Q E h => ?_) (fun cdv A outer s H vs Q E hr h => ?_), F.binds bi_Broken_init⟩
  · obtain ⟨y, v, rfl, _⟩ := h
    rfl
  · obtain ⟨y, v, rfl, hy, q⟩ := h
    exact ⟨_, PSs.nox (pss_one (ps_fldX (pv 0) (pv 1))), _, rfl, _, rfl, y, _, rfl, hy, Z, fun dx hd => q dx hd⟩
/-- the looker's loop -/
def LkW (H : Hp) (a p : Addr) (ns : List Int) (m : Nat) (σ : L2.St) (H' : Hp) : Prop :=
  ∃ (ds : List Pc) (us : List V) (k : Int) (x y : Option V), σ = [some (.ref a), some (.ref p), some (.int k), x, y] ∧ m = (ns.length - k).toNat ∧ 0 ≤ k ∧ k ≤ ns.length ∧ (ds.length : Int) ≤ k ∧ WPre ns ds k ∧ Same H H' ∧ H' p = some (.lst us) ∧ PcsAt H' us ds
theorem d_looked {P : Program} {w : World} {base : Heap} {K : PySem.W.Frag} {mg : Str → Option Value} {C_StowError C_NoName C_NoSize C_Broken C_NoGive C_NoHandle C_NoPiece C_NoCell C_NoAsk C_NoBound C_NoRoom C_BadLine C_NoLine C_NoTurn C_Keeper C_Shelves : Addr} {tk_LEAST_LIVE : Tok} {tk_MARKS : Tok} (S : Src K mg "looked" s_looked) (T : Txt K mg C_StowError C_NoName C_NoSize C_Broken C_NoGive C_NoHandle C_NoPiece C_NoCell C_NoAsk C_NoBound C_NoRoom C_BadLine C_NoLine C_NoTurn C_Keeper C_Shelves tk_LEAST_LIVE tk_MARKS) (D_long_of : Defx P w K mg base "long_of" 1 ["number"] (spLong)) (D_live_of : Defx P w K mg base "live_of" 1 ["number"] (spLive)) (D_bad_of_piece : Defx P w K mg base "bad_of_piece" 3 ["cells", "at"] (spBad K)) (D_Broken : DefI P w K mg base "Broken" C_Broken C_StowError 1 ["self", "cell"] (spInit C_Broken "cell")) : Defx P w K mg base "looked" 4 ["cells"] (spLooked K C_Broken) := by
  refine S.okx sc_looked bi_looked (fun vs H Q E h => by revert h; walk_at "len") (fun f cdv A outer s H vs Q E hr h => ?_)
  refine ⟨_, (pss_cons (ps_set (i := 1) sc_looked.nd rfl (Or.inl rfl) (pe_lst pa_nil)) (pss_cons (ps_set (i := 2) sc_looked.nd rfl (Or.inl rfl) pe_int) (pss_cons (ps_while PassesOwn.leaving (pt_cmpR op_lt (pv 2) (pe_callB call_len_seq (by rfl) T.n_len PySem.boot_len (pa_cons (pv 0) pa_nil)) (nomark _)) (pss_cons (ps_set (i := 3) sc_looked.nd rfl (Or.inl rfl) (pe_defq D_bad_of_piece hr (by rfl) (pa_cons (pv 0) (pa_cons (pv 2) pa_nil)))) (pss_cons (ps_if (pt_cmpR op_notN (pv 3) pe_non (nomark _)) (pss_one (ps_raiseD D_Broken hr rfl (pa_cons (pv 3) pa_nil))) pss_nil) (pss_cons (ps_set (i := 4) sc_looked.nd rfl (Or.inl rfl) (pe_defq D_long_of hr (by rfl) (pa_cons (pe_ix ix_list (pv 0) (pv 2) (fun _ _ => rfl)) pa_nil))) (pss_cons (ps_expr (pe_bm PySem.F.plainAttrs_list PySem.F.slot_list_append PySem.F.type_list_append mt_append (pv 1) (pa_cons (pe_tup (pa_cons (pv 2) (pa_cons (pv 4) (pa_cons (pe_defq D_live_of hr (by rfl) (pa_cons (pe_ix ix_list (pv 0) (pv 2) (fun _ _ => rfl)) pa_nil)) pa_nil)))) pa_nil))) (pss_one (ps_set (i := 2) sc_looked.nd rfl (Or.inl rfl) (pe_op op_add (pv 2) (pv 4))))))))) (pss_one (ps_ret (pv 1)))))), ?_⟩
  obtain ⟨a, ns, rfl, hS, hz, qe, q⟩ := h
  walk_at "go"
  intro p hp
  walk_at "go"
  refine ⟨LkW H a p ns, ⟨_, [], [], 0, none, none, rfl, rfl, by omega, by omega, by decide, WPre.nil ns, Same.new hp, upd_same, PcsAt.nil⟩, ?_⟩
  rintro m σ H' ⟨ds, us, k, x, y, rfl, rfl, h0, hkl, hdl, w, s1, hp', pa⟩
  have hul := pa.1
  have hS' : SqL K H' a (ns.map V.int) := s1.seq hS
  walk_at "go"
  refine r_ifd (fun hlt => ?_) (fun hlt => ?_)
  · refine ⟨fun σ' H'' => ∃ m', m' < (ns.length - k).toNat ∧ LkW H a p ns m' σ' H'', fun σ' H'' hw => hw, ?_⟩
    walk_at "go"
    cases hb : badOf ns k with
    | some b =>
      walk_at "go"
      refine r_made (fun dx hd => ?_)
      exact qe b (by rw [w.bad hlt hb]) dx _ (s1.put (s1.free hd)) upd_same
    | none =>
      obtain ⟨b1, b2, b3⟩ := bad_pos hb
      walk_at "go"
      intro t ht
      have hpt : p ≠ t := ne_of_none hp' ht
      walk_at "go"
      obtain ⟨g1, g2⟩ := PcsAt.push (z := pcAt ns k) pa hp' ht
      dsimp only [pcAt] at g1 g2
      refine ⟨_, ?_, ds ++ [pcAt ns k], us ++ [.ref t], k + ns.getD k.toNat 0 / 2, _, _, rfl, rfl, by omega, by omega, ?_, w.step hlt hb, (s1.put (s1.free ht)).put hp, g1, g2⟩
      · omega
      · rw [List.length_append, List.length_singleton]
        omega
  · walk_at "go"
    exact q (by rw [w.fin hlt]) p us H' hp s1 hp' (by rw [w.fin hlt]; exact pa)
def freshI (n : Int) : List Int := laidI (List.replicate n.toNat 0) 0 n false
theorem freshI_len {n : Int} (h : 0 ≤ n) : ((freshI n).length : Int) = n := by
  unfold freshI
  rw [laidI_len, List.length_replicate]
  omega
theorem rep_flat (n : Nat) : (List.replicate n [V.int 0]).flatten = (List.replicate n (0 : Int)).map V.int := by
  induction n with
  | zero => rfl
  | succ n ih => rw [List.replicate_succ, List.flatten_cons, ih, List.replicate_succ, List.map_cons]; rfl
def spFresh (C : Addr) : Sp := fun vs H Q E => ∃ n : Int, vs = [.int n] ∧ n ≤ 4000 ∧ (n < 1 → E (.ref C) none H) ∧ (1 ≤ n → ∀ (p : Addr) (H' : Hp), H p = none → Same H H' → H' p = some (.lst ((freshI n).map V.int)) → Q (.ref p) H')
theorem d_fresh_room {P : Program} {w : World} {base : Heap} {K : PySem.W.Frag} {mg : Str → Option Value} {C_StowError C_NoName C_NoSize C_Broken C_NoGive C_NoHandle C_NoPiece C_NoCell C_NoAsk C_NoBound C_NoRoom C_BadLine C_NoLine C_NoTurn C_Keeper C_Shelves : Addr} {tk_LEAST_LIVE : Tok} {tk_MARKS : Tok} (S : Src K mg "fresh_room" s_fresh_room) (T : Txt K mg C_StowError C_NoName C_NoSize C_Broken C_NoGive C_NoHandle C_NoPiece C_NoCell C_NoAsk C_NoBound C_NoRoom C_BadLine C_NoLine C_NoTurn C_Keeper C_Shelves tk_LEAST_LIVE tk_MARKS) (D_mark_of : Defx P w K mg base "mark_of" 1 ["long", "live"] (spMark)) : Defx P w K mg base "fresh_room" 2 ["count"] (spFresh C_NoSize) := by
  refine S.okx sc_fresh_room bi_fresh_room (fun vs H Q E h => by revert h; walk_at "len") (fun f cdv A outer s H vs Q E hr h => ?_)
  refine ⟨_, (pss_cons (ps_if (pt_cmpR op_lt (pv 0) pe_int (nomark _)) (pss_one (ps_raise T.x_NoSize hr.hd rfl (pa_cons pe_str pa_nil))) pss_nil) (pss_cons (ps_set (i := 1) sc_fresh_room.nd rfl (Or.inl rfl) (pe_op op_rep (pe_lst (pa_cons pe_int pa_nil)) (pv 0))) (pss_cons (ps_asg (pe_defq D_mark_of hr (by rfl) (pa_cons (pv 0) (pa_cons pe_bl pa_nil))) (pg_sub (pv 1) pe_int set_list)) (pss_cons (ps_asg (pe_defq D_mark_of hr (by rfl) (pa_cons (pv 0) (pa_cons pe_bl pa_nil))) (pg_sub (pv 1) (pe_op op_sub (pv 0) pe_int) set_list)) (pss_one (ps_ret (pv 1))))))), ?_⟩
  obtain ⟨n, rfl, h4, qe, q⟩ := h
  walk_at "go"
  refine r_ifd (fun hc => ?_) (fun hc => ?_)
  · walk_at "go"
    exact qe hc
  · have hn : n.natAbs < 2 ^ 220 := Nat.lt_of_le_of_lt (show n.natAbs ≤ 4000 by omega) (by decide)
    walk_at "go"
    intro l hl
    walk_at "go"
    refine ⟨l, n, _, rfl, rfl, upd_same, by omega, by omega, (by show 1 * n.toNat ≤ sizeLine; exact Nat.le_of_lt (small4000 (by omega))), fun p hp => ?_⟩
    rw [rep_flat]
    have np := (Same.new hl).free hp
    have s1 : Same H (upd (upd H l (.lst [.int 0])) p (.lst ((List.replicate n.toNat (0 : Int)).map V.int))) := (Same.new hl).put np
    have e1 : upd (upd H l (.lst [.int 0])) p (.lst ((List.replicate n.toNat (0 : Int)).map V.int)) p = some (.lst ((List.replicate n.toNat (0 : Int)).map V.int)) := upd_same
    generalize upd (upd H l (.lst [.int 0])) p (.lst ((List.replicate n.toNat (0 : Int)).map V.int)) = H1 at s1 e1 ⊢
    have hlr : (List.replicate n.toNat (0 : Int)).length = n.toNat := List.length_replicate
    walk_at "go"
    refine ⟨n, false, rfl, hn, ?_⟩
    walk_at "go"
    refine ⟨n, false, rfl, hn, ?_⟩
    walk_at "go"
    refine q (by omega) p _ np ((s1.put np).put np) ?_
    unfold freshI laidI
    rw [show (0 : Int) + n - 1 = n - 1 by omega]
    exact upd_same
def spLaid (K : PySem.W.Frag) : Sp := fun vs H Q _ => ∃ (a : Addr) (cs : List Int) (k l : Int) (v : Bool), vs = [.ref a, .int k, .int l, .bl v] ∧ SqL K H a (cs.map V.int) ∧ cs.length ≤ 4000 ∧ 0 ≤ k ∧ 1 ≤ l ∧ k + l ≤ cs.length ∧
  ∀ (p : Addr) (H' : Hp), H p = none → Same H H' → H' p = some (.lst ((laidI cs k l v).map V.int)) → Q (.ref p) H'
theorem d_laid {P : Program} {w : World} {base : Heap} {K : PySem.W.Frag} {mg : Str → Option Value} {C_StowError C_NoName C_NoSize C_Broken C_NoGive C_NoHandle C_NoPiece C_NoCell C_NoAsk C_NoBound C_NoRoom C_BadLine C_NoLine C_NoTurn C_Keeper C_Shelves : Addr} {tk_LEAST_LIVE : Tok} {tk_MARKS : Tok} (S : Src K mg "laid" s_laid) (T : Txt K mg C_StowError C_NoName C_NoSize C_Broken C_NoGive C_NoHandle C_NoPiece C_NoCell C_NoAsk C_NoBound C_NoRoom C_BadLine C_NoLine C_NoTurn C_Keeper C_Shelves tk_LEAST_LIVE tk_MARKS) (D_mark_of : Defx P w K mg base "mark_of" 1 ["long", "live"] (spMark)) : Defx P w K mg base "laid" 2 ["cells", "at", "long", "live"] (spLaid K) := by
  refine S.okx sc_laid bi_laid (fun vs H Q E h => by revert h; walk_at "len") (fun f cdv A outer s H vs Q E hr h => ?_)
  refine ⟨_, PSs.nox (pss_cons (ps_set (i := 4) sc_laid.nd rfl (Or.inl rfl) (pe_callTy call_list_of (by rfl) T.n_list PyProof.Rows.boot_list (pa_cons (pv 0) pa_nil))) (pss_cons (ps_asg (pe_defq D_mark_of hr (by rfl) (pa_cons (pv 2) (pa_cons (pv 3) pa_nil))) (pg_sub (pv 4) (pv 1) set_list)) (pss_cons (ps_asg (pe_defq D_mark_of hr (by rfl) (pa_cons (pv 2) (pa_cons (pv 3) pa_nil))) (pg_sub (pv 4) (pe_op op_sub (pe_op op_add (pv 1) (pv 2)) pe_int) set_list)) (pss_one (ps_ret (pv 4)))))), ?_⟩
  obtain ⟨a, cs, k, l, v, rfl, hS, hz, h0, h1, hl, q⟩ := h
  have hn : l.natAbs < 2 ^ 220 := Nat.lt_of_le_of_lt (show l.natAbs ≤ 4000 by omega) (by decide)
  walk_at "go"
  intro p hp
  walk_at "go"
  refine ⟨l, v, rfl, hn, ?_⟩
  walk_at "go"
  refine ⟨l, v, rfl, hn, ?_⟩
  walk_at "go"
  refine q p _ hp (((Same.new hp).put hp).put hp) upd_same
def spPieceAt (K : PySem.W.Frag) (C : Addr) : Sp := fun vs H Q E => ∃ (a : Addr) (cs : List Int) (ps : List Pc) (k : Int), vs = [.ref a, .int k] ∧ SqL K H a (cs.map V.int) ∧ cs.length ≤ 4000 ∧ walkF cs 0 = (ps, none) ∧
  (∀ z ∈ ps, z.a = k → ∀ (t : Addr) (H' : Hp), Same H H' → H' t = some (.tup [.int z.a, .int z.l, .bl z.v]) → Q (.ref t) H') ∧
  ((∀ z ∈ ps, z.a ≠ k) → ∀ (H' : Hp), Same H H' → E (.ref C) none H')
def PaW (f0 f1 : Option V) (H1 : Hp) (ps : List Pc) (k : Int) (i : Nat) (σ : L2.St) (H' : Hp) : Prop := H1 = H' ∧ ∃ x2 : Option V, σ = [f0, f1, x2] ∧ ∀ z ∈ ps.take i, z.a ≠ k
theorem d_piece_at {P : Program} {w : World} {base : Heap} {K : PySem.W.Frag} {mg : Str → Option Value} {C_StowError C_NoName C_NoSize C_Broken C_NoGive C_NoHandle C_NoPiece C_NoCell C_NoAsk C_NoBound C_NoRoom C_BadLine C_NoLine C_NoTurn C_Keeper C_Shelves : Addr} {tk_LEAST_LIVE : Tok} {tk_MARKS : Tok} (S : Src K mg "piece_at" s_piece_at) (T : Txt K mg C_StowError C_NoName C_NoSize C_Broken C_NoGive C_NoHandle C_NoPiece C_NoCell C_NoAsk C_NoBound C_NoRoom C_BadLine C_NoLine C_NoTurn C_Keeper C_Shelves tk_LEAST_LIVE tk_MARKS) (D_looked : Defx P w K mg base "looked" 4 ["cells"] (spLooked K C_Broken)) : Defx P w K mg base "piece_at" 5 ["cells", "at"] (spPieceAt K C_NoPiece) := by
  refine S.okx sc_piece_at bi_piece_at (fun vs H Q E h => by revert h; walk_at "len") (fun f cdv A outer s H vs Q E hr h => ?_)
  refine ⟨_, (pss_cons (ps_for PassesOwn.leaving rfl (pi_list (pe_defx D_looked hr (by rfl) (pa_cons (pv 0) pa_nil))) (pg_name (i := 2) sc_piece_at.nd rfl (Or.inl rfl)) (pss_one (ps_if (pt_cmpR op_eq (pe_ix ix_tup (pv 2) pe_int (fun _ _ => rfl)) (pv 1) (nomark _)) (pss_one (ps_ret (pv 2))) pss_nil))) (pss_one (ps_raise T.x_NoPiece hr.hd rfl (pa_cons pe_str pa_nil)))), ?_⟩
  obtain ⟨a, cs, ps, k, rfl, hS, hz, hw, q, qe⟩ := h
  walk_at "go"
  refine ⟨a, cs, rfl, hS, hz, (fun c hc => by rw [hw] at hc; cases hc), fun _ lp us H1 nlp s1 hlp pa => ?_⟩
  have pa : PcsAt H1 us ps := by rw [hw] at pa; exact pa
  have hul := pa.1
  refine ⟨lp, rfl, ⟨_, SqL.of hlp⟩, for_list (K := K) (a := lp) (xs := us) (PaW (some (.ref a)) (some (.int k)) H1 ps k) ⟨rfl, none, rfl, fun z hz => by cases hz⟩ (fun i σ H2 _ ⟨h, _⟩ => h ▸ SqL.of hlp) ?_ ?_⟩
  · rintro i y σ H2 hi ⟨rfl, x2, rfl, hq⟩
    have hil : i < us.length := (List.getElem?_eq_some_iff.mp hi).1
    have hip : i < ps.length := by omega
    obtain ⟨t, et, hT⟩ := pa.2 i ps[i] (by simp [hip])
    have ey : y = .ref t := Option.some.inj (hi.symm.trans et)
    subst ey
    walk_at "go"
    refine r_ifd (fun hk => ?_) (fun hk => ?_)
    · walk_at "go"
      exact q ps[i] (by simp) hk t _ s1 hT
    · walk_at "go"
      refine ⟨rfl, _, rfl, fun z hz => ?_⟩
      rw [List.take_add_one, List.getElem?_eq_getElem hip] at hz
      rcases List.mem_append.mp hz with h | h
      · exact hq z h
      · have : z = ps[i] := by simpa using h
        rw [this]; exact hk
  · rintro σ H2 ⟨rfl, x2, rfl, hq⟩
    rw [List.take_of_length_le (by omega)] at hq
    walk_at "go"
    exact qe hq _ s1
/-- a free piece (or a live one) that begins at k -/
def spOneAt (K : PySem.W.Frag) (C : Addr) (v : Bool) : Sp := fun vs H Q E => ∃ (a : Addr) (cs : List Int) (ps : List Pc) (k : Int), vs = [.ref a, .int k] ∧ SqL K H a (cs.map V.int) ∧ cs.length ≤ 4000 ∧ walkF cs 0 = (ps, none) ∧ Chain 0 ps cs.length ∧
  (∀ z ∈ ps, z.a = k → z.v = v → ∀ (t : Addr) (H' : Hp), Same H H' → H' t = some (.tup [.int z.a, .int z.l, .bl z.v]) → Q (.ref t) H') ∧
  ((∀ z ∈ ps, z.a = k → z.v ≠ v) → ∀ (H' : Hp), Same H H' → E (.ref C) none H')
theorem d_live_at {P : Program} {w : World} {base : Heap} {K : PySem.W.Frag} {mg : Str → Option Value} {C_StowError C_NoName C_NoSize C_Broken C_NoGive C_NoHandle C_NoPiece C_NoCell C_NoAsk C_NoBound C_NoRoom C_BadLine C_NoLine C_NoTurn C_Keeper C_Shelves : Addr} {tk_LEAST_LIVE : Tok} {tk_MARKS : Tok} (S : Src K mg "live_at" s_live_at) (T : Txt K mg C_StowError C_NoName C_NoSize C_Broken C_NoGive C_NoHandle C_NoPiece C_NoCell C_NoAsk C_NoBound C_NoRoom C_BadLine C_NoLine C_NoTurn C_Keeper C_Shelves tk_LEAST_LIVE tk_MARKS) (D_piece_at : Defx P w K mg base "piece_at" 5 ["cells", "at"] (spPieceAt K C_NoPiece)) : Defx P w K mg base "live_at" 6 ["cells", "at"] (spOneAt K C_NoPiece true) := by
  refine S.okx sc_live_at bi_live_at (fun vs H Q E h => by revert h; walk_at "len") (fun f cdv A outer s H vs Q E hr h => ?_)
  refine ⟨_, (pss_cons (ps_set (i := 2) sc_live_at.nd rfl (Or.inl rfl) (pe_defx D_piece_at hr (by rfl) (pa_cons (pv 0) (pa_cons (pv 1) pa_nil)))) (pss_cons (ps_if (pt_not (pt_truth (pe_ix ix_tup (pv 2) pe_int (fun _ _ => rfl)) (fun _ => rfl))) (pss_one (ps_raise T.x_NoPiece hr.hd rfl (pa_cons pe_str pa_nil))) pss_nil) (pss_one (ps_ret (pv 2))))), ?_⟩
  obtain ⟨a, cs, ps, k, rfl, hS, hz, hw, hc, q, qe⟩ := h
  walk_at "go"
  refine ⟨a, cs, ps, k, rfl, hS, hz, hw, fun z hm hk t H1 s1 ht => ?_, fun hn H1 s1 => qe (fun z hz hk => absurd hk (hn z hz)) _ s1⟩
  walk_at "go"
  refine r_ifb (fun hv => ?_) (fun hv => ?_)
  · walk_at "go"
    exact q z hm hk hv t _ s1 ht
  · walk_at "go"
    refine qe (fun y hy hk2 => ?_) _ s1
    rw [chain_same hc hy hm (by omega), hv]
    exact fun z => nomatch z
/-- a keeper's object: its cells -/
def spMk (C : Addr) : Sp := fun vs H Q _ => ∃ (x dx : Addr) (n : Int), vs = [.ref x, .int n] ∧ H x = some (.ins C dx []) ∧ 1 ≤ n ∧ n ≤ 4000 ∧
  ∀ (a : Addr) (H' : Hp), H a = none → KeepX x H H' → H' x = some (.ins C dx [("room_cells", .ref a)]) → H' a = some (.lst ((freshI n).map V.int)) → Q .non H'
def spBegin (K : PySem.W.Frag) (C : Addr) : Sp := fun vs H Q _ => ∃ (sh : Int) (x h dx a : Addr) (cs : List Int), vs = [.ref x, .ref h] ∧ H x = some (.ins C dx [("room_cells", .ref a), ("shelf", .int sh)]) ∧ SqL K H h (cs.map V.int) ∧
  ∀ (a' : Addr) (H' : Hp), H a' = none → KeepX x H H' → H' x = some (.ins C dx [("room_cells", .ref a'), ("shelf", .int sh)]) → H' a' = some (.lst (cs.map V.int)) → Q .non H'
def spLay (K : PySem.W.Frag) (C : Addr) : Sp := fun vs H Q _ => ∃ (sh : Int) (x h dx a : Addr) (cs0 cs : List Int) (ps : List Pc), vs = [.ref x, .ref h] ∧ H x = some (.ins C dx [("room_cells", .ref a), ("shelf", .int sh)]) ∧ H a = some (.lst (cs0.map V.int)) ∧ cs.length = cs0.length ∧ SqL K H h (cs.map V.int) ∧ cs.length ≤ 4000 ∧ walkF cs 0 = (ps, none) ∧
  ∀ (a' : Addr) (H' : Hp), H a' = none → KeepX x H H' → H' x = some (.ins C dx [("room_cells", .ref a'), ("shelf", .int sh)]) → H' a' = some (.lst (cs.map V.int)) → Q .non H'
def spPiecesK (C : Addr) : Sp := fun vs H Q _ => ∃ (sh : Int) (x dx a : Addr) (cs : List Int) (ps : List Pc), vs = [.ref x] ∧ H x = some (.ins C dx [("room_cells", .ref a), ("shelf", .int sh)]) ∧ H a = some (.lst (cs.map V.int)) ∧ cs.length ≤ 4000 ∧ walkF cs 0 = (ps, none) ∧
  ∀ (p : Addr) (us : List V) (H' : Hp), H p = none → Same H H' → H' p = some (.lst us) → PcsAt H' us ps → Q (.ref p) H'
def spCellsK (C : Addr) : Sp := fun vs H Q _ => ∃ (sh : Int) (x dx a : Addr) (cs : List Int), vs = [.ref x] ∧ H x = some (.ins C dx [("room_cells", .ref a), ("shelf", .int sh)]) ∧ H a = some (.lst (cs.map V.int)) ∧
  ∀ (p : Addr) (H' : Hp), H p = none → Same H H' → H' p = some (.lst (cs.map V.int)) → Q (.ref p) H'
def spMany (C : Addr) : Sp := fun vs H Q _ => ∃ (sh : Int) (x dx a : Addr) (cs : List Int) (ps : List Pc) (z : Pc), vs = [.ref x, .int (z.a + 1)] ∧ H x = some (.ins C dx [("room_cells", .ref a), ("shelf", .int sh)]) ∧ H a = some (.lst (cs.map V.int)) ∧ cs.length ≤ 4000 ∧ walkF cs 0 = (ps, none) ∧ Chain 0 ps cs.length ∧ z ∈ ps ∧ z.v = true ∧
  ∀ (H' : Hp), Same H H' → Q (.int (z.l - 2)) H'
theorem d_Keeper0 {P : Program} {w : World} {base : Heap} {K : PySem.W.Frag} {mg : Str → Option Value} {C_StowError C_NoName C_NoSize C_Broken C_NoGive C_NoHandle C_NoPiece C_NoCell C_NoAsk C_NoBound C_NoRoom C_BadLine C_NoLine C_NoTurn C_Keeper C_Shelves : Addr} {tk_LEAST_LIVE : Tok} {tk_MARKS : Tok} {f₀ : Addr} {fd₀ : FuncData} (F : Fun K "__init__" "Keeper.__init__" s_Keeper_init f₀ fd₀) (M : ClsM K C_Keeper "__init__" f₀) (T : Txt K mg C_StowError C_NoName C_NoSize C_Broken C_NoGive C_NoHandle C_NoPiece C_NoCell C_NoAsk C_NoBound C_NoRoom C_BadLine C_NoLine C_NoTurn C_Keeper C_Shelves tk_LEAST_LIVE tk_MARKS) (D_fresh_room : Defx P w K mg base "fresh_room" 2 ["count"] (spFresh C_NoSize)) : Basex P w K mg base "Keeper" "__init__" 3 ["self", "size"] (spMk C_Shelves) := by
  refine ⟨⟨C_Keeper, f₀, fd₀, fun_okx F sc_Keeper_init (fun vs H Q E h => by revert h; walk_at "len") (fun cdv A outer s H vs Q E hr h => ?_), M, F.binds bi_Keeper_init, T.c_Keeper⟩⟩
  refine ⟨_, PSs.nox (pss_one (ps_fld (pv 0) (pe_defq D_fresh_room hr (by rfl) (pa_cons (pv 1) pa_nil)) rfl)), ?_⟩
  obtain ⟨x, dx, n, rfl, hx, h1, h4, q⟩ := h
  have cl := T.cl_Shelves
  have na := T.na_Shelves_room_cells
  walk_at "go"
  refine ⟨n, rfl, h4, fun z => absurd z (by omega), fun _ p H1 np s1 hp => ?_⟩
  have hx1 := s1 x _ hx
  have hne : p ≠ x := fun z => by rw [z, hx] at np; cases np
  walk_at "go"
  exact q p _ np (KeepX.of s1).put upd_same (look_ne hne hp)
theorem d_room_begin {P : Program} {w : World} {base : Heap} {K : PySem.W.Frag} {mg : Str → Option Value} {C_StowError C_NoName C_NoSize C_Broken C_NoGive C_NoHandle C_NoPiece C_NoCell C_NoAsk C_NoBound C_NoRoom C_BadLine C_NoLine C_NoTurn C_Keeper C_Shelves : Addr} {tk_LEAST_LIVE : Tok} {tk_MARKS : Tok} {f₀ : Addr} {fd₀ : FuncData} (F : Fun K "room_begin" "Keeper.room_begin" s_Keeper_room_begin f₀ fd₀) (M : Meth K C_Shelves "room_begin" f₀) (T : Txt K mg C_StowError C_NoName C_NoSize C_Broken C_NoGive C_NoHandle C_NoPiece C_NoCell C_NoAsk C_NoBound C_NoRoom C_BadLine C_NoLine C_NoTurn C_Keeper C_Shelves tk_LEAST_LIVE tk_MARKS)  : Methx P w K mg base C_Shelves "room_begin" 1 ["self", "cells"] [] (spBegin K C_Shelves) := by
  refine ⟨⟨f₀, fd₀, [], fun_okx F sc_Keeper_room_begin (fun vs H Q E h => by revert h; walk_at "len") (fun cdv A outer s H vs Q E hr h => ?_), M, F.binds bi_Keeper_room_begin, .nil⟩, T.cl_Shelves⟩
  refine ⟨_, PSs.nox (pss_one (ps_fld (pv 0) (pe_callTy call_list_of (by rfl) T.n_list PyProof.Rows.boot_list (pa_cons (pv 1) pa_nil)) rfl)), ?_⟩
  obtain ⟨sh, x, h, dx, a, cs, rfl, hx, hS, q⟩ := h
  have cl := T.cl_Shelves
  have na := T.na_Shelves_room_cells
  walk_at "go"
  intro p np
  have s1 : Same H (upd H p (.lst (cs.map V.int))) := Same.new np
  have hx1 := s1 x _ hx
  have hp : upd H p (.lst (cs.map V.int)) p = some (.lst (cs.map V.int)) := upd_same
  have hne : p ≠ x := fun z => by rw [z, hx] at np; cases np
  generalize upd H p (.lst (cs.map V.int)) = H1 at s1 hx1 hp ⊢
  walk_at "go"
  exact q p _ np (KeepX.of s1).put upd_same (look_ne hne hp)
theorem d_lay {P : Program} {w : World} {base : Heap} {K : PySem.W.Frag} {mg : Str → Option Value} {C_StowError C_NoName C_NoSize C_Broken C_NoGive C_NoHandle C_NoPiece C_NoCell C_NoAsk C_NoBound C_NoRoom C_BadLine C_NoLine C_NoTurn C_Keeper C_Shelves : Addr} {tk_LEAST_LIVE : Tok} {tk_MARKS : Tok} {f₀ : Addr} {fd₀ : FuncData} (F : Fun K "lay" "Keeper.lay" s_Keeper_lay f₀ fd₀) (M : Meth K C_Shelves "lay" f₀) (T : Txt K mg C_StowError C_NoName C_NoSize C_Broken C_NoGive C_NoHandle C_NoPiece C_NoCell C_NoAsk C_NoBound C_NoRoom C_BadLine C_NoLine C_NoTurn C_Keeper C_Shelves tk_LEAST_LIVE tk_MARKS) (D_looked : Defx P w K mg base "looked" 4 ["cells"] (spLooked K C_Broken)) (D_room_begin : Methx P w K mg base C_Shelves "room_begin" 1 ["self", "cells"] [] (spBegin K C_Shelves)) : Methx P w K mg base C_Shelves "lay" 5 ["self", "cells"] [] (spLay K C_Shelves) := by
  refine ⟨⟨f₀, fd₀, [], fun_okx F sc_Keeper_lay (fun vs H Q E h => by revert h; walk_at "len") (fun cdv A outer s H vs Q E hr h => ?_), M, F.binds bi_Keeper_lay, .nil⟩, T.cl_Shelves⟩
  refine ⟨_, PSs.nox (pss_cons (ps_if (pt_cmpR op_ne (pe_callB call_len_seq (by rfl) T.n_len PySem.boot_len (pa_cons (pv 1) pa_nil)) (pe_callB call_len_seq (by rfl) T.n_len PySem.boot_len (pa_cons (pe_fld (pv 0) rfl) pa_nil)) (nomark _)) (pss_one ps_never) pss_nil) (pss_cons (ps_expr (pe_defq D_looked hr (by rfl) (pa_cons (pv 1) pa_nil))) (pss_one (ps_expr (pe_methp D_room_begin pass_e0 hr (pv 0) (pa_cons (pv 1) pa_nil)))))), ?_⟩
  obtain ⟨sh, x, h, dx, a, cs0, cs, ps, rfl, hx, ha, hl, hS, hz, hw, q⟩ := h
  have cl := T.cl_Shelves
  have na := T.na_Shelves_room_cells
  walk_at "go"
  refine ⟨h, cs, rfl, hS, hz, (fun c hc => by rw [hw] at hc; cases hc), fun _ lp us H1 nlp s1 hlp pa => ?_⟩
  have hx1 := s1 x _ hx
  walk_at "go"
  refine ⟨sh, x, h, dx, a, cs, rfl, hx1, s1.seq hS, fun a' H2 na2 k2 hx2 ha2 => ?_⟩
  walk_at "go"
  exact q a' H2 (s1.free na2) ((KeepX.of s1).trans k2) hx2 ha2
theorem d_pieces {P : Program} {w : World} {base : Heap} {K : PySem.W.Frag} {mg : Str → Option Value} {C_StowError C_NoName C_NoSize C_Broken C_NoGive C_NoHandle C_NoPiece C_NoCell C_NoAsk C_NoBound C_NoRoom C_BadLine C_NoLine C_NoTurn C_Keeper C_Shelves : Addr} {tk_LEAST_LIVE : Tok} {tk_MARKS : Tok} {f₀ : Addr} {fd₀ : FuncData} (F : Fun K "pieces" "Keeper.pieces" s_Keeper_pieces f₀ fd₀) (M : Meth K C_Shelves "pieces" f₀) (T : Txt K mg C_StowError C_NoName C_NoSize C_Broken C_NoGive C_NoHandle C_NoPiece C_NoCell C_NoAsk C_NoBound C_NoRoom C_BadLine C_NoLine C_NoTurn C_Keeper C_Shelves tk_LEAST_LIVE tk_MARKS) (D_looked : Defx P w K mg base "looked" 4 ["cells"] (spLooked K C_Broken)) : Methx P w K mg base C_Shelves "pieces" 5 ["self"] [] (spPiecesK C_Shelves) := by
  refine ⟨⟨f₀, fd₀, [], fun_okx F sc_Keeper_pieces (fun vs H Q E h => by revert h; walk_at "len") (fun cdv A outer s H vs Q E hr h => ?_), M, F.binds bi_Keeper_pieces, .nil⟩, T.cl_Shelves⟩
  refine ⟨_, PSs.nox (pss_one (ps_ret (pe_defq D_looked hr (by rfl) (pa_cons (pe_fld (pv 0) rfl) pa_nil)))), ?_⟩
  obtain ⟨sh, x, dx, a, cs, ps, rfl, hx, ha, hz, hw, q⟩ := h
  have cl := T.cl_Shelves
  have na := T.na_Shelves_room_cells
  walk_at "go"
  refine ⟨a, cs, rfl, SqL.of ha, hz, (fun c hc => by rw [hw] at hc; cases hc), fun _ lp us H1 nlp s1 hlp pa => ?_⟩
  walk_at "go"
  exact q lp us H1 nlp s1 hlp (by rw [hw] at pa; exact pa)
theorem d_cells {P : Program} {w : World} {base : Heap} {K : PySem.W.Frag} {mg : Str → Option Value} {C_StowError C_NoName C_NoSize C_Broken C_NoGive C_NoHandle C_NoPiece C_NoCell C_NoAsk C_NoBound C_NoRoom C_BadLine C_NoLine C_NoTurn C_Keeper C_Shelves : Addr} {tk_LEAST_LIVE : Tok} {tk_MARKS : Tok} {f₀ : Addr} {fd₀ : FuncData} (F : Fun K "cells" "Keeper.cells" s_Keeper_cells f₀ fd₀) (M : Meth K C_Shelves "cells" f₀) (T : Txt K mg C_StowError C_NoName C_NoSize C_Broken C_NoGive C_NoHandle C_NoPiece C_NoCell C_NoAsk C_NoBound C_NoRoom C_BadLine C_NoLine C_NoTurn C_Keeper C_Shelves tk_LEAST_LIVE tk_MARKS)  : Methx P w K mg base C_Shelves "cells" 1 ["self"] [] (spCellsK C_Shelves) := by
  refine ⟨⟨f₀, fd₀, [], fun_okx F sc_Keeper_cells (fun vs H Q E h => by revert h; walk_at "len") (fun cdv A outer s H vs Q E hr h => ?_), M, F.binds bi_Keeper_cells, .nil⟩, T.cl_Shelves⟩
  refine ⟨_, PSs.nox (pss_one (ps_ret (pe_callTy call_list_of (by rfl) T.n_list PyProof.Rows.boot_list (pa_cons (pe_fld (pv 0) rfl) pa_nil)))), ?_⟩
  obtain ⟨sh, x, dx, a, cs, rfl, hx, ha, q⟩ := h
  have cl := T.cl_Shelves
  have na := T.na_Shelves_room_cells
  walk_at "go"
  intro p np
  walk_at "go"
  exact q p _ np (Same.new np) upd_same
theorem d_many {P : Program} {w : World} {base : Heap} {K : PySem.W.Frag} {mg : Str → Option Value} {C_StowError C_NoName C_NoSize C_Broken C_NoGive C_NoHandle C_NoPiece C_NoCell C_NoAsk C_NoBound C_NoRoom C_BadLine C_NoLine C_NoTurn C_Keeper C_Shelves : Addr} {tk_LEAST_LIVE : Tok} {tk_MARKS : Tok} {f₀ : Addr} {fd₀ : FuncData} (F : Fun K "many" "Keeper.many" s_Keeper_many f₀ fd₀) (M : Meth K C_Shelves "many" f₀) (T : Txt K mg C_StowError C_NoName C_NoSize C_Broken C_NoGive C_NoHandle C_NoPiece C_NoCell C_NoAsk C_NoBound C_NoRoom C_BadLine C_NoLine C_NoTurn C_Keeper C_Shelves tk_LEAST_LIVE tk_MARKS) (D_live_at : Defx P w K mg base "live_at" 6 ["cells", "at"] (spOneAt K C_NoPiece true)) : Methx P w K mg base C_Shelves "many" 7 ["self", "place"] [] (spMany C_Shelves) := by
  refine ⟨⟨f₀, fd₀, [], fun_okx F sc_Keeper_many (fun vs H Q E h => by revert h; walk_at "len") (fun cdv A outer s H vs Q E hr h => ?_), M, F.binds bi_Keeper_many, .nil⟩, T.cl_Shelves⟩
  refine ⟨_, PSs.nox (pss_cons (ps_asg (pe_defq D_live_at hr (by rfl) (pa_cons (pe_fld (pv 0) rfl) (pa_cons (pe_op op_sub (pv 1) pe_int) pa_nil))) (pg_tup rfl (pgs_cons (pg_name (i := 2) sc_Keeper_many.nd rfl (Or.inl rfl)) (pgs_cons (pg_name (i := 3) sc_Keeper_many.nd rfl (Or.inl rfl)) (pgs_cons (pg_name (i := 4) sc_Keeper_many.nd rfl (Or.inl rfl)) pgs_nil))))) (pss_one (ps_ret (pe_op op_sub (pv 3) (pe_glob (v := .int 2) (by rfl) T.g_MARKS ⟨_, rfl⟩))))), ?_⟩
  obtain ⟨sh, x, dx, a, cs, ps, z, rfl, hx, ha, hz, hw, hc, hm, hv, q⟩ := h
  have cl := T.cl_Shelves
  have na := T.na_Shelves_room_cells
  walk_at "go"
  refine ⟨a, cs, ps, z.a, by rw [Int.add_sub_cancel], SqL.of ha, hz, hw, hc, fun y hy hk hv' t H1 s1 ht => ?_, fun hn => absurd hv (hn z hm rfl)⟩
  have ey := chain_same hc hy hm (by omega)
  subst ey
  walk_at "go"
  exact q _ s1
def spCheck : Sp := fun vs H Q _ => ∃ c b : Int, vs = [.int c, .int b] ∧ 1 ≤ c ∧ 1 ≤ b ∧ Q .non H
theorem d_check_ask {P : Program} {w : World} {base : Heap} {K : PySem.W.Frag} {mg : Str → Option Value} {C_StowError C_NoName C_NoSize C_Broken C_NoGive C_NoHandle C_NoPiece C_NoCell C_NoAsk C_NoBound C_NoRoom C_BadLine C_NoLine C_NoTurn C_Keeper C_Shelves : Addr} {tk_LEAST_LIVE : Tok} {tk_MARKS : Tok} (S : Src K mg "check_ask" s_check_ask) (T : Txt K mg C_StowError C_NoName C_NoSize C_Broken C_NoGive C_NoHandle C_NoPiece C_NoCell C_NoAsk C_NoBound C_NoRoom C_BadLine C_NoLine C_NoTurn C_Keeper C_Shelves tk_LEAST_LIVE tk_MARKS)  : Defx P w K mg base "check_ask" 1 ["count", "bound"] (spCheck) := by
  refine S.okx sc_check_ask bi_check_ask (fun vs H Q E h => by revert h; walk_at "len") (fun f cdv A outer s H vs Q E hr h => ?_)
  refine ⟨_, PSs.nox (pss_one (ps_if (PW.pt (pw_or (pt_cmpR op_lt (pv 0) pe_int (nomark _)) (pw_or1 (pt_cmpR op_lt (pv 1) pe_int (nomark _))))) (pss_one ps_never) pss_nil)), ?_⟩
  obtain ⟨c, b, rfl, h1, h2, q⟩ := h
  walk_at "go"
  exact q
def spCheckP : Sp := fun vs H Q _ => ∃ c : Int, vs = [.int c, .int 1] ∧ 1 ≤ c ∧ Q .non H
theorem d_check_plain_ask {P : Program} {w : World} {base : Heap} {K : PySem.W.Frag} {mg : Str → Option Value} {C_StowError C_NoName C_NoSize C_Broken C_NoGive C_NoHandle C_NoPiece C_NoCell C_NoAsk C_NoBound C_NoRoom C_BadLine C_NoLine C_NoTurn C_Keeper C_Shelves : Addr} {tk_LEAST_LIVE : Tok} {tk_MARKS : Tok} (S : Src K mg "check_plain_ask" s_check_plain_ask) (T : Txt K mg C_StowError C_NoName C_NoSize C_Broken C_NoGive C_NoHandle C_NoPiece C_NoCell C_NoAsk C_NoBound C_NoRoom C_BadLine C_NoLine C_NoTurn C_Keeper C_Shelves tk_LEAST_LIVE tk_MARKS) (D_check_ask : Defx P w K mg base "check_ask" 1 ["count", "bound"] (spCheck)) : Defx P w K mg base "check_plain_ask" 2 ["count", "bound"] (spCheckP) := by
  refine S.okx sc_check_plain_ask bi_check_plain_ask (fun vs H Q E h => by revert h; walk_at "len") (fun f cdv A outer s H vs Q E hr h => ?_)
  refine ⟨_, PSs.nox (pss_cons (ps_expr (pe_defq D_check_ask hr (by rfl) (pa_cons (pv 0) (pa_cons (pv 1) pa_nil)))) (pss_one (ps_if (pt_cmpR op_ne (pv 1) pe_int (nomark _)) (pss_one ps_never) pss_nil))), ?_⟩
  obtain ⟨c, rfl, h1, q⟩ := h
  walk_at "go"
  refine ⟨c, 1, rfl, h1, by decide, ?_⟩
  walk_at "go"
  exact q
/-! shelves -/
def rep1 (s : Int) (m : Nat) : List Int := (List.replicate m (freshI s)).flatten
theorem fresh_one {s : Int} (h : 1 ≤ s) : Marks (freshI s) [⟨0, s, false⟩] := by
  unfold freshI
  exact Marks.lay (ds := []) (rs := []) (by omega) h (by rw [List.length_replicate]; omega) (fun p hp => by cases hp) (fun p hp => by cases hp) (Marks.nil _)
theorem rep1_len {s : Int} (h : 1 ≤ s) (m : Nat) : ((rep1 s m).length : Int) = s * (m : Int) := (rep_marks h (freshI_len (by omega)) (fresh_one h) m).2
theorem rep1_walk {s : Int} (h : 1 ≤ s) (m : Nat) : walkF (rep1 s m) 0 = (shelvesF s 0 m, none) := by
  obtain ⟨h1, h2⟩ := rep_marks h (freshI_len (by omega)) (fresh_one h) m
  have c := shelvesF_chain h m 0
  rw [show s * ((0 : Nat) : Int) = 0 by simp, Nat.zero_add] at c
  exact walk_of_marks (by unfold rep1; rw [h2]; exact c) h1
theorem rep_map (one : List Int) : ∀ m : Nat, (List.replicate m (one.map V.int)).flatten = ((List.replicate m one).flatten).map V.int
  | 0 => rfl
  | m + 1 => by rw [List.replicate_succ, List.flatten_cons, rep_map one m, List.replicate_succ, List.flatten_cons, List.map_append]
def spAllW (C : Addr) : Sp := fun vs H Q E => ∃ (z s : Int), vs = [.int z, .int s] ∧ z ≤ 4000 ∧ s ≤ 4000 ∧ ((z < 1 ∨ s < 1 ∨ (1 ≤ s ∧ z % s ≠ 0)) → E (.ref C) none H) ∧
  (∀ m : Nat, 1 ≤ s → 1 ≤ m → z = s * (m : Int) → ∀ (p : Addr) (H' : Hp), H p = none → Same H H' → H' p = some (.lst ((rep1 s m).map V.int)) → Q (.ref p) H')
theorem d_all_whole {P : Program} {w : World} {base : Heap} {K : PySem.W.Frag} {mg : Str → Option Value} {C_StowError C_NoName C_NoSize C_Broken C_NoGive C_NoHandle C_NoPiece C_NoCell C_NoAsk C_NoBound C_NoRoom C_BadLine C_NoLine C_NoTurn C_Keeper C_Shelves : Addr} {tk_LEAST_LIVE : Tok} {tk_MARKS : Tok} (S : Src K mg "all_whole" s_all_whole) (T : Txt K mg C_StowError C_NoName C_NoSize C_Broken C_NoGive C_NoHandle C_NoPiece C_NoCell C_NoAsk C_NoBound C_NoRoom C_BadLine C_NoLine C_NoTurn C_Keeper C_Shelves tk_LEAST_LIVE tk_MARKS) (D_fresh_room : Defx P w K mg base "fresh_room" 2 ["count"] (spFresh C_NoSize)) : Defx P w K mg base "all_whole" 3 ["size", "shelf"] (spAllW C_NoSize) := by
  refine S.okx sc_all_whole bi_all_whole (fun vs H Q E h => by revert h; walk_at "len") (fun f cdv A outer s H vs Q E hr h => ?_)
  refine ⟨_, (pss_cons (ps_if (PW.pt (pw_or (pt_cmpR op_lt (pv 0) pe_int (nomark _)) (pw_or (pt_cmpR op_lt (pv 1) pe_int (nomark _)) (pw_or1 (pt_cmpR op_ne (pe_op op_mod (pv 0) (pv 1)) pe_int (nomark _)))))) (pss_one (ps_raise T.x_NoSize hr.hd rfl (pa_cons pe_str pa_nil))) pss_nil) (pss_one (ps_ret (pe_op op_rep (pe_defx D_fresh_room hr (by rfl) (pa_cons (pv 1) pa_nil)) (pe_op op_fdiv (pv 0) (pv 1)))))), ?_⟩
  obtain ⟨z, s, rfl, hz, hs, qe, q⟩ := h
  walk_at "go"
  refine r_ifd (fun h1 => ?_) (fun h1 => ?_)
  · walk_at "go"
    exact qe (.inl h1)
  · walk_at "go"
    refine r_ifd (fun h2 => ?_) (fun h2 => ?_)
    · walk_at "go"
      exact qe (.inr (.inl h2))
    · walk_at "go"
      refine r_ifd (fun h3 => ?_) (fun h3 => ?_)
      · walk_at "go"
        obtain ⟨m, em⟩ : ∃ m : Nat, z = s * (m : Int) := ⟨(z / s).toNat, by
          have h4 := Int.mul_ediv_add_emod z s
          have h5 : 0 ≤ z / s := Int.ediv_nonneg (by omega) (by omega)
          rw [Int.toNat_of_nonneg h5]
          omega⟩
        have m1 : 1 ≤ m := by
          cases m with
          | zero => simp at em; omega
          | succ m => omega
        have ed : z / s = (m : Int) := by rw [em]; exact Int.mul_ediv_cancel_left _ (by omega)
        refine ⟨s, rfl, hs, fun z => absurd z (by omega), fun _ p1 H1 np s1 hp => ?_⟩
        walk_at "go"
        rw [ed]
        have hf := freshI_len (n := s) (by omega)
        have hm4 : (m : Int) ≤ 4000 := by
          have h6 := Int.mul_le_mul_of_nonneg_right (show (1 : Int) ≤ s by omega) (show (0 : Int) ≤ (m : Int) by omega)
          omega
        have hsz : (freshI s).length * m ≤ 4000 := by
          have e2 : (((freshI s).length * m : Nat) : Int) = z := by rw [Int.natCast_mul, hf, em]
          omega
        refine ⟨p1, (m : Int), _, rfl, rfl, hp, by omega, by omega, (by show ((freshI s).map V.int).length * (m : Int).toNat ≤ sizeLine; rw [List.length_map, Int.toNat_natCast]; exact Nat.le_of_lt (small4000 hsz)), fun p2 np2 => ?_⟩
        rw [Int.toNat_natCast, rep_map]
        walk_at "go"
        exact q m (by omega) m1 em p2 _ (s1.free np2) (s1.put (s1.free np2)) upd_same
      · walk_at "go"
        exact qe (.inr (.inr ⟨by omega, h3⟩))
def spBeg : Sp := fun vs H Q _ => ∃ (a s : Int), vs = [.int a, .int s] ∧ 1 ≤ s ∧ Q (.int (a - a % s)) H
theorem d_begin_of {P : Program} {w : World} {base : Heap} {K : PySem.W.Frag} {mg : Str → Option Value} {C_StowError C_NoName C_NoSize C_Broken C_NoGive C_NoHandle C_NoPiece C_NoCell C_NoAsk C_NoBound C_NoRoom C_BadLine C_NoLine C_NoTurn C_Keeper C_Shelves : Addr} {tk_LEAST_LIVE : Tok} {tk_MARKS : Tok} (S : Src K mg "begin_of" s_begin_of) (T : Txt K mg C_StowError C_NoName C_NoSize C_Broken C_NoGive C_NoHandle C_NoPiece C_NoCell C_NoAsk C_NoBound C_NoRoom C_BadLine C_NoLine C_NoTurn C_Keeper C_Shelves tk_LEAST_LIVE tk_MARKS)  : Defx P w K mg base "begin_of" 1 ["at", "shelf"] (spBeg) := by
  refine S.okx sc_begin_of bi_begin_of (fun vs H Q E h => by revert h; walk_at "len") (fun f cdv A outer s H vs Q E hr h => ?_)
  refine ⟨_, PSs.nox (pss_one (ps_ret (pe_op op_sub (pv 0) (pe_op op_mod (pv 0) (pv 1))))), ?_⟩
  obtain ⟨a, s, rfl, hs, q⟩ := h
  walk_at "go"
  exact q
/-! the free pieces of so many cells -/
def fitF (ps : List Pc) (k : Int) : List Int := (ps.filter fun z => !z.v && decide (z.l = k)).map (·.a)
theorem fitF_take {ps : List Pc} {k : Int} {i : Nat} (h : i < ps.length) : fitF (ps.take (i + 1)) k = fitF (ps.take i) k ++ (if (!ps[i].v && decide (ps[i].l = k)) = true then [ps[i].a] else []) := by
  unfold fitF
  rw [List.take_add_one, List.getElem?_eq_getElem h, List.filter_append, List.map_append]
  congr 1
  simp only [Option.toList_some, List.filter_cons, List.filter_nil]
  split <;> rfl
def FtW (H1 : Hp) (ps : List Pc) (k : Int) (D : Addr) (i : Nat) (ys : List V) (H2 : Hp) : Prop := Same H1 H2 ∧ H2 D = some (.lst ys) ∧ H1 D = none ∧ ys = (fitF (ps.take i) k).map V.int ∧ ys.length ≤ i
def spWhole1 (K : PySem.W.Frag) : Sp := fun vs H Q _ => ∃ (c : Addr) (cs : List Int) (ps : List Pc) (k : Int), vs = [.ref c, .int k] ∧ SqL K H c (cs.map V.int) ∧ cs.length ≤ 4000 ∧ walkF cs 0 = (ps, none) ∧ ps.length ≤ 4000 ∧
  ∀ (p : Addr) (H' : Hp), H p = none → Same H H' → H' p = some (.lst ((fitF ps k).map V.int)) → Q (.ref p) H'
theorem d_whole_ones {P : Program} {w : World} {base : Heap} {K : PySem.W.Frag} {mg : Str → Option Value} {C_StowError C_NoName C_NoSize C_Broken C_NoGive C_NoHandle C_NoPiece C_NoCell C_NoAsk C_NoBound C_NoRoom C_BadLine C_NoLine C_NoTurn C_Keeper C_Shelves : Addr} {tk_LEAST_LIVE : Tok} {tk_MARKS : Tok} (S : Src K mg "whole_ones" s_whole_ones) (T : Txt K mg C_StowError C_NoName C_NoSize C_Broken C_NoGive C_NoHandle C_NoPiece C_NoCell C_NoAsk C_NoBound C_NoRoom C_BadLine C_NoLine C_NoTurn C_Keeper C_Shelves tk_LEAST_LIVE tk_MARKS) (D_looked : Defx P w K mg base "looked" 4 ["cells"] (spLooked K C_Broken)) : Defx P w K mg base "whole_ones" 5 ["cells", "shelf"] (spWhole1 K) := by
  refine S.okx sc_whole_ones bi_whole_ones (fun vs H Q E h => by revert h; walk_at "len") (fun f cdv A outer s H vs Q E hr h => ?_)
  refine ⟨_, PSs.nox (pss_one (ps_ret (pe_compG ["at", "long", "live"] ["shelf"] [1] rfl (pi_list (pe_defq D_looked hr (by rfl) (pa_cons (pv 0) pa_nil))) (fun cl C s₀ H₀ ex => (pg_tupK (K := K) (n := 3) rfl rfl (pgs_cons (pg_name (i := 0) (show ((["at", "long", "live"] : List Str) ++ (["shelf"] : List Str)).Nodup by decide +kernel) rfl (Or.inl rfl)) (pgs_cons (pg_name (i := 1) (show ((["at", "long", "live"] : List Str) ++ (["shelf"] : List Str)).Nodup by decide +kernel) rfl (Or.inl rfl)) (pgs_cons (pg_name (i := 2) (show ((["at", "long", "live"] : List Str) ++ (["shelf"] : List Str)).Nodup by decide +kernel) rfl (Or.inl rfl)) pgs_nil))))) (fun cl C s₀ H₀ ex => (pts_one (PW.pt (pw_and (pt_not (pt_truthK (K := K) rfl (pv 2) (fun _ => rfl))) (pw_and1 (pt_cmpR op_eq (pv 1) (pv 3) (nomark _))))))) (fun cl C s₀ H₀ ex => (pv 0)) (caught_one rfl rfl rfl) (free_one (n := "shelf") (by decide +kernel) rfl) (fun y h => relabel_free (by decide +kernel) h)))), ?_⟩
  obtain ⟨c, cs, ps, k, rfl, hS, hz, hw, hpz, q⟩ := h
  walk_at "go"
  refine ⟨c, cs, rfl, hS, hz, (fun c hc => by rw [hw] at hc; cases hc), fun _ lp us H1 nlp s1 hlp pa => ?_⟩
  have pa : PcsAt H1 us ps := by rw [hw] at pa; exact pa
  have hul := pa.1
  walk_at "go"
  refine ⟨lp, rfl, ⟨_, SqL.of hlp⟩, compH_list (K := K) (a := lp) (xs := us) (FtW H1 ps k) (fun D hD => ⟨Same.new hD, upd_same, hD, rfl, Nat.le_refl _⟩) (fun D i ys H2 _ h => SqL.of (h.1 lp _ hlp)) ?_ ?_⟩
  · rintro D i y ys H2 hD hi ⟨s2, hD2, _, ey, hyl⟩ τ hτ
    have hil : i < us.length := (List.getElem?_eq_some_iff.mp hi).1
    have hip : i < ps.length := by omega
    obtain ⟨t, et, hT⟩ := pa.2 i ps[i] (by simp [hip])
    have ey2 : y = .ref t := Option.some.inj (hi.symm.trans et)
    subst ey2
    have hT2 := s2 t _ hT
    have ef := fitF_take (k := k) hip
    generalize ps[i] = z at hT2 ef
    match τ, hτ with
    | [τ0, τ1, τ2], _ =>
      walk_at "go"
      refine ⟨⟨[_, _, _], rfl, rfl⟩, ?_⟩
      walk_at "go"
      refine r_ifb (fun hv => ?_) (fun hv => ?_)
      · walk_at "go"
        rw [hv] at ef
        refine nx_mk hil ⟨s2, hD2, hD, ?_, by omega⟩
        rw [ey, ef]
        simp
      · walk_at "go"
        rw [hv] at ef
        refine r_ifd (fun hl => ?_) (fun hl => ?_)
        · walk_at "go"
          rw [if_pos (by simp [hl])] at ef
          refine ⟨hD2, small4000 (by omega), nx_mk hil ⟨s2.put hD, upd_same, hD, ?_, by rw [List.length_append, List.length_singleton]; omega⟩⟩
          rw [ey, ef, List.map_append]
          rfl
        · walk_at "go"
          rw [if_neg (by simp [hl])] at ef
          exact nx_mk hil ⟨s2, hD2, hD, by rw [ey, ef, List.append_nil], by omega⟩
  · rintro D ys H2 hD ⟨s2, hD2, _, ey, hyl⟩
    rw [List.take_of_length_le (by omega)] at ey
    walk_at "go"
    exact q D H2 (s1.free hD) (s1.trans s2) (by rw [hD2, ey])
def slotF (cs : List Int) (ps : List Pc) (k s : Int) : List Int := (fitF ps k).filter fun a => decide (cs.getD (a - a % s).toNat 0 / 2 = k)
theorem fitF_in {ps : List Pc} {k e : Int} {a : Int} (c : Chain 0 ps e) (h : a ∈ fitF ps k) : 0 ≤ a ∧ a < e := by
  unfold fitF at h
  obtain ⟨z, hz, rfl⟩ := List.mem_map.mp h
  obtain ⟨h1, h2, _, h3⟩ := c.mem z (List.mem_filter.mp hz).1
  omega
theorem emod_low {a s : Int} (h : 0 ≤ a) (hs : 1 ≤ s) : 0 ≤ a - a % s ∧ a - a % s ≤ a := by
  have h1 := Int.emod_nonneg a (show s ≠ 0 by omega)
  have h2 := Int.mul_ediv_add_emod a s
  have h3 : 0 ≤ s * (a / s) := Int.mul_nonneg (by omega) (Int.ediv_nonneg h (by omega))
  omega
def SlW (H1 : Hp) (cs : List Int) (xs : List Int) (k s : Int) (D : Addr) (i : Nat) (ys : List V) (H2 : Hp) : Prop := Same H1 H2 ∧ H2 D = some (.lst ys) ∧ H1 D = none ∧ ys = ((xs.take i).filter fun a => decide (cs.getD (a - a % s).toNat 0 / 2 = k)).map V.int ∧ ys.length ≤ i
def spSlots (K : PySem.W.Frag) : Sp := fun vs H Q _ => ∃ (c : Addr) (cs : List Int) (ps : List Pc) (s k : Int), vs = [.ref c, .int s, .int k] ∧ SqL K H c (cs.map V.int) ∧ cs.length ≤ 4000 ∧ walkF cs 0 = (ps, none) ∧ ps.length ≤ 4000 ∧ Chain 0 ps cs.length ∧ 1 ≤ s ∧
  ∀ (p : Addr) (H' : Hp), H p = none → Same H H' → H' p = some (.lst ((slotF cs ps k s).map V.int)) → Q (.ref p) H'
theorem d_free_slots {P : Program} {w : World} {base : Heap} {K : PySem.W.Frag} {mg : Str → Option Value} {C_StowError C_NoName C_NoSize C_Broken C_NoGive C_NoHandle C_NoPiece C_NoCell C_NoAsk C_NoBound C_NoRoom C_BadLine C_NoLine C_NoTurn C_Keeper C_Shelves : Addr} {tk_LEAST_LIVE : Tok} {tk_MARKS : Tok} (S : Src K mg "free_slots" s_free_slots) (T : Txt K mg C_StowError C_NoName C_NoSize C_Broken C_NoGive C_NoHandle C_NoPiece C_NoCell C_NoAsk C_NoBound C_NoRoom C_BadLine C_NoLine C_NoTurn C_Keeper C_Shelves tk_LEAST_LIVE tk_MARKS) (D_looked : Defx P w K mg base "looked" 4 ["cells"] (spLooked K C_Broken)) (D_begin_of : Defx P w K mg base "begin_of" 1 ["at", "shelf"] (spBeg)) (D_long_of : Defx P w K mg base "long_of" 1 ["number"] (spLong)) : Defx P w K mg base "free_slots" 5 ["cells", "shelf", "size"] (spSlots K) := by
  refine S.okx sc_free_slots bi_free_slots (fun vs H Q E h => by revert h; walk_at "len") (fun f cdv A outer s H vs Q E hr h => ?_)
  refine ⟨_, PSs.nox (pss_cons (ps_setCompG (i := 3) ["at", "long", "live"] ["size"] [2] sc_free_slots.nd rfl (Or.inl rfl) rfl (pi_list (pe_defq D_looked hr (by rfl) (pa_cons (pv 0) pa_nil))) (fun cl C s₀ H₀ ex => (pg_tupK (K := K) (n := 3) rfl rfl (pgs_cons (pg_name (i := 0) (show ((["at", "long", "live"] : List Str) ++ (["size"] : List Str)).Nodup by decide +kernel) rfl (Or.inl rfl)) (pgs_cons (pg_name (i := 1) (show ((["at", "long", "live"] : List Str) ++ (["size"] : List Str)).Nodup by decide +kernel) rfl (Or.inl rfl)) (pgs_cons (pg_name (i := 2) (show ((["at", "long", "live"] : List Str) ++ (["size"] : List Str)).Nodup by decide +kernel) rfl (Or.inl rfl)) pgs_nil))))) (fun cl C s₀ H₀ ex => (pts_one (PW.pt (pw_and (pt_not (pt_truthK (K := K) rfl (pv 2) (fun _ => rfl))) (pw_and1 (pt_cmpR op_eq (pv 1) (pv 3) (nomark _))))))) (fun cl C s₀ H₀ ex => (pv 0)) (caught_one rfl rfl rfl) (free_one (n := "size") (by decide +kernel) rfl) (fun y h => relabel_free (by decide +kernel) h)) (pss_one (ps_ret (pe_compG ["at"] ["size", "cells", "shelf"] [2, 0, 1] rfl (pi_list (pv 3)) (fun cl C s₀ H₀ ex => (pg_name (i := 0) (show ((["at"] : List Str) ++ (["size", "cells", "shelf"] : List Str)).Nodup by decide +kernel) rfl (Or.inl rfl))) (fun cl C s₀ H₀ ex => (pts_one (pt_cmpR op_eq (pe_defq D_long_of hr (by rfl) (pa_cons (pe_ix (ix_listK (K := K) rfl) (pv 2) (pe_defq D_begin_of hr (by rfl) (pa_cons (pv 0) (pa_cons (pv 3) pa_nil))) (fun _ _ => rfl)) pa_nil)) (pv 1) (nomark _)))) (fun cl C s₀ H₀ ex => (pv 0)) (caught_three rfl rfl rfl rfl rfl rfl rfl rfl rfl) (free_three (n := "size") (m := "cells") (o := "shelf") (by decide +kernel) rfl rfl rfl) (fun y h => relabel_free (by decide +kernel) h))))), ?_⟩
  obtain ⟨c, cs, ps, s, k, rfl, hS, hz, hw, hpz, hc, hs, q⟩ := h
  walk_at "go"
  refine ⟨c, cs, rfl, hS, hz, (fun c hc => by rw [hw] at hc; cases hc), fun _ lp us H1 nlp s1 hlp pa => ?_⟩
  have pa : PcsAt H1 us ps := by rw [hw] at pa; exact pa
  have hul := pa.1
  walk_at "go"
  refine ⟨lp, rfl, ⟨_, SqL.of hlp⟩, compH_list (K := K) (a := lp) (xs := us) (FtW H1 ps k) (fun D hD => ⟨Same.new hD, upd_same, hD, rfl, Nat.le_refl _⟩) (fun D i ys H2 _ h => SqL.of (h.1 lp _ hlp)) ?_ ?_⟩
  · rintro D i y ys H2 hD hi ⟨s2, hD2, _, ey, hyl⟩ τ hτ
    have hil : i < us.length := (List.getElem?_eq_some_iff.mp hi).1
    have hip : i < ps.length := by omega
    obtain ⟨t, et, hT⟩ := pa.2 i ps[i] (by simp [hip])
    have ey2 : y = .ref t := Option.some.inj (hi.symm.trans et)
    subst ey2
    have hT2 := s2 t _ hT
    have ef := fitF_take (k := k) hip
    generalize ps[i] = z at hT2 ef
    match τ, hτ with
    | [τ0, τ1, τ2], _ =>
      walk_at "go"
      refine ⟨⟨[_, _, _], rfl, rfl⟩, ?_⟩
      walk_at "go"
      refine r_ifb (fun hv => ?_) (fun hv => ?_)
      · walk_at "go"
        rw [hv] at ef
        refine nx_mk hil ⟨s2, hD2, hD, ?_, by omega⟩
        rw [ey, ef]
        simp
      · walk_at "go"
        rw [hv] at ef
        refine r_ifd (fun hl => ?_) (fun hl => ?_)
        · walk_at "go"
          rw [if_pos (by simp [hl])] at ef
          refine ⟨hD2, small4000 (by omega), nx_mk hil ⟨s2.put hD, upd_same, hD, ?_, by rw [List.length_append, List.length_singleton]; omega⟩⟩
          rw [ey, ef, List.map_append]
          rfl
        · walk_at "go"
          rw [if_neg (by simp [hl])] at ef
          exact nx_mk hil ⟨s2, hD2, hD, by rw [ey, ef, List.append_nil], by omega⟩
  · rintro D ys H2 hD ⟨s2, hD2, _, ey, hyl⟩
    rw [List.take_of_length_le (by omega)] at ey
    subst ey
    rw [List.length_map] at hyl
    have hS2 := (s1.trans s2).seq hS
    have hfi : ∀ a ∈ fitF ps k, 0 ≤ a ∧ a < cs.length := fun a h => fitF_in hc h
    have hsl : slotF cs ps k s = (fitF ps k).filter fun a => decide (cs.getD (a - a % s).toNat 0 / 2 = k) := rfl
    generalize fitF ps k = xs at hD2 hyl hfi hsl
    walk_at "go"
    refine ⟨D, rfl, ⟨_, SqL.of hD2⟩, compH_list (K := K) (a := D) (xs := xs.map V.int) (SlW H2 cs xs k s) (fun D' hD' => ⟨Same.new hD', upd_same, hD', rfl, Nat.le_refl _⟩) (fun D' i ys H3 _ h => SqL.of (h.1 D _ hD2)) ?_ ?_⟩
    · rintro D' i y ys H3 hD' hi ⟨s3, hD3, _, ey, hyl2⟩ τ hτ
      obtain ⟨a, ea, rfl⟩ : ∃ a, xs[i]? = some a ∧ y = .int a := by
        rw [List.getElem?_map] at hi
        obtain ⟨a, h1, h2⟩ := Option.map_eq_some_iff.mp hi
        exact ⟨a, h1, h2.symm⟩
      have hil : i < xs.length := (List.getElem?_eq_some_iff.mp ea).1
      have hil2 : i < (xs.map V.int).length := by rw [List.length_map]; exact hil
      obtain ⟨a0, a1⟩ := hfi a (List.mem_of_getElem? ea)
      obtain ⟨b0, b1⟩ := emod_low a0 hs
      have hS3 := s3.seq hS2
      have et : xs.take (i + 1) = xs.take i ++ [a] := by rw [List.take_add_one, ea]; rfl
      match τ, hτ with
      | [τ0], _ =>
        walk_at "go"
        refine ⟨⟨[_], rfl, rfl⟩, ?_⟩
        walk_at "go"
        refine ⟨a, s, rfl, hs, ?_⟩
        walk_at "go"
        refine r_ifd (fun hl => ?_) (fun hl => ?_)
        · walk_at "go"
          refine ⟨hD3, small4000 (by omega), nx_mk hil2 ⟨s3.put hD', upd_same, hD', ?_, by rw [List.length_append, List.length_singleton]; omega⟩⟩
          rw [et, List.filter_append, List.map_append, ey, show ([a].filter fun a => decide (cs.getD (a - a % s).toNat 0 / 2 = k)) = [a] by rw [List.filter_cons, if_pos (decide_eq_true hl)]; rfl]
          rfl
        · walk_at "go"
          refine nx_mk hil2 ⟨s3, hD3, hD', ?_, by omega⟩
          rw [et, List.filter_append, List.map_append, ey, show ([a].filter fun a => decide (cs.getD (a - a % s).toNat 0 / 2 = k)) = [] by rw [List.filter_cons, if_neg (fun z => hl (of_decide_eq_true z))]; rfl]
          simp
    · rintro D' ys H3 hD' ⟨s3, hD3, _, ey, hyl2⟩
      rw [List.length_map, List.take_of_length_le (Nat.le_refl _), ← hsl] at ey
      walk_at "go"
      exact q D' H3 ((s1.trans s2).free hD') ((s1.trans s2).trans s3) (by rw [hD3, ey])
/-! a shelf cut for a size -/
def leftF (s k : Int) : List Pc := if s % k = 0 then [] else [⟨s - s % k, s % k, false⟩]
def cutF (s k : Int) : List Pc := shelvesF k 0 (s / k).toNat ++ leftF s k
def cutTo (s k : Int) (i : Nat) : List Pc := if i ≤ (s / k).toNat then shelvesF k 0 i else cutF s k
theorem cut_num {s k : Int} (h1 : 1 ≤ k) (h2 : k ≤ s) : ((s / k).toNat : Int) = s / k ∧ k * (s / k) + s % k = s ∧ 0 ≤ s % k ∧ s % k < k ∧ 1 ≤ s / k := by
  have h3 := Int.mul_ediv_add_emod s k
  have h4 := Int.emod_nonneg s (show k ≠ 0 by omega)
  have h5 := Int.emod_lt_of_pos s (show 0 < k by omega)
  have h6 : 1 ≤ s / k := (Int.le_ediv_iff_mul_le (by omega)).mpr (by omega)
  exact ⟨Int.toNat_of_nonneg (by omega), h3, h4, h5, h6⟩
theorem cut_turns {s k : Int} (h1 : 1 ≤ k) (h2 : k ≤ s) : (Builtin.Range.rangeSize 0 s k).toNat = (s / k).toNat + (if s % k = 0 then 0 else 1) := by
  obtain ⟨e, h3, h4, h5, h6⟩ := cut_num h1 h2
  unfold Builtin.Range.rangeSize
  rw [if_pos (by omega), if_pos (by omega), Int.sub_zero]
  split
  · rename_i h
    have : (s - 1) / k = s / k - 1 := by
      have : s - 1 = (k - 1) + k * (s / k - 1) := by rw [Int.mul_sub]; omega
      rw [this, Int.add_mul_ediv_left _ _ (by omega), Int.ediv_eq_zero_of_lt (by omega) (by omega)]
      omega
    rw [this]
    omega
  · rename_i h
    have : (s - 1) / k = s / k := by
      have : s - 1 = (s % k - 1) + k * (s / k) := by omega
      rw [this, Int.add_mul_ediv_left _ _ (by omega), Int.ediv_eq_zero_of_lt (by omega) (by omega)]
      omega
    rw [this]
    omega
theorem cut_step {cs : List Int} {s k : Int} {rest : List Pc} {i : Nat} (h1 : 1 ≤ k) (h2 : k ≤ s) (hl : s ≤ cs.length) (hr : FromOn rest s) (hi : i < (Builtin.Range.rangeSize 0 s k).toNat) (m : Marks cs (cutTo s k i ++ rest)) :
    ∃ l, (if s - (0 + (i : Int) * k) < k then s - (0 + (i : Int) * k) else k) = l ∧ 1 ≤ l ∧ 0 ≤ 0 + (i : Int) * k ∧ 0 + (i : Int) * k + l ≤ s ∧ Marks (laidI cs (0 + (i : Int) * k) l false) (cutTo s k (i + 1) ++ rest) := by
  obtain ⟨e, h3, h4, h5, h6⟩ := cut_num h1 h2
  rw [cut_turns h1 h2] at hi
  have hk0 : 0 ≤ (i : Int) * k := Int.mul_nonneg (by omega) (by omega)
  by_cases hq : i < (s / k).toNat
  · have hm : ((i : Int) + 1) * k ≤ s / k * k := Int.mul_le_mul_of_nonneg_right (by omega) (by omega)
    have hm2 : ((i : Int) + 1) * k = (i : Int) * k + k := by rw [Int.add_mul, Int.one_mul]
    have hm3 : s / k * k = k * (s / k) := Int.mul_comm _ _
    refine ⟨k, by rw [if_neg (by omega)], h1, by omega, by omega, ?_⟩
    unfold cutTo at m ⊢
    rw [if_pos (by omega)] at m
    rw [if_pos (by omega), Int.zero_add, Int.mul_comm (i : Int) k]
    have hc : k * (i : Int) = (i : Int) * k := Int.mul_comm _ _
    exact slots_lay h1 (by omega) (fun p hp => by have := hr p hp; omega) m
  · have hne : s % k ≠ 0 := fun z => by rw [if_pos z] at hi; omega
    rw [if_neg hne] at hi
    have ei : i = (s / k).toNat := by omega
    have hik : (i : Int) * k = k * (s / k) := by rw [ei, e, Int.mul_comm]
    refine ⟨s % k, by rw [if_pos (by omega)]; omega, by omega, by omega, by omega, ?_⟩
    unfold cutTo at m ⊢
    rw [if_pos (by omega)] at m
    rw [if_neg (by omega), Int.zero_add]
    unfold cutF leftF
    rw [if_neg hne, List.append_assoc, ← ei]
    have ch := (shelvesF_chain h1 i 0).endBy (show (0 : Int) ≤ k * ((0 : Nat) : Int) by simp)
    rw [Nat.zero_add] at ch
    have hc : k * (i : Int) = (i : Int) * k := Int.mul_comm _ _
    have := Marks.lay (cs := cs) (ds := shelvesF k 0 i) (rs := rest) (k := (i : Int) * k) (l := s % k) (v := false) hk0 (by omega) (by omega) (by rw [← hc]; exact ch) (fun p hp => by have := hr p hp; omega) m
    rw [show s - s % k = (i : Int) * k by omega]
    exact this
def spCutF (K : PySem.W.Frag) : Sp := fun vs H Q _ => ∃ (c : Addr) (cs : List Int) (s k : Int) (rest : List Pc), vs = [.ref c, .int 0, .int s, .int k] ∧ SqL K H c (cs.map V.int) ∧ cs.length ≤ 4000 ∧ s ≤ cs.length ∧ 1 ≤ k ∧ k ≤ s ∧ FromOn rest s ∧ Marks cs rest ∧
  ∀ (p : Addr) (cs' : List Int) (H' : Hp), H p = none → Same H H' → H' p = some (.lst (cs'.map V.int)) → cs'.length = cs.length → Marks cs' (cutF s k ++ rest) → Q (.ref p) H'
def CfW (c : Addr) (s k : Int) (rest : List Pc) (n : Nat) (H : Hp) (i : Nat) (σ : L2.St) (H' : Hp) : Prop :=
  ∃ (r : Addr) (cs' : List Int) (x6 : Option V), σ = [some (.ref c), some (.int 0), some (.int s), some (.int k), some (.ref r), some (.int (0 + s)), x6] ∧ Same H H' ∧ H r = none ∧ H' r = some (.lst (cs'.map V.int)) ∧ cs'.length = n ∧ Marks cs' (cutTo s k i ++ rest)
theorem d_cut_for {P : Program} {w : World} {base : Heap} {K : PySem.W.Frag} {mg : Str → Option Value} {C_StowError C_NoName C_NoSize C_Broken C_NoGive C_NoHandle C_NoPiece C_NoCell C_NoAsk C_NoBound C_NoRoom C_BadLine C_NoLine C_NoTurn C_Keeper C_Shelves : Addr} {tk_LEAST_LIVE : Tok} {tk_MARKS : Tok} (S : Src K mg "cut_for" s_cut_for) (T : Txt K mg C_StowError C_NoName C_NoSize C_Broken C_NoGive C_NoHandle C_NoPiece C_NoCell C_NoAsk C_NoBound C_NoRoom C_BadLine C_NoLine C_NoTurn C_Keeper C_Shelves tk_LEAST_LIVE tk_MARKS) (D_laid : Defx P w K mg base "laid" 2 ["cells", "at", "long", "live"] (spLaid K)) : Defx P w K mg base "cut_for" 3 ["cells", "begin", "shelf", "size"] (spCutF K) := by
  refine S.okx sc_cut_for bi_cut_for (fun vs H Q E h => by revert h; walk_at "len") (fun f cdv A outer s H vs Q E hr h => ?_)
  refine ⟨_, PSs.nox (pss_cons (ps_set (i := 4) sc_cut_for.nd rfl (Or.inl rfl) (pe_callTy call_list_of (by rfl) T.n_list PyProof.Rows.boot_list (pa_cons (pv 0) pa_nil))) (pss_cons (ps_set (i := 5) sc_cut_for.nd rfl (Or.inl rfl) (pe_op op_add (pv 1) (pv 2))) (pss_cons (ps_for PassesOwn.never rfl (pi_range3 (by rfl) T.n_range (pa_cons (pv 1) (pa_cons (pv 5) (pa_cons (pv 3) pa_nil)))) (pg_name (i := 6) sc_cut_for.nd rfl (Or.inl rfl)) (pss_one (ps_set (i := 4) sc_cut_for.nd rfl (Or.inl rfl) (pe_defq D_laid hr (by rfl) (pa_cons (pv 4) (pa_cons (pv 6) (pa_cons (pe_callB (call_min2 rfl) (by rfl) T.n_min PyProof.Rows.boot_min (pa_cons (pv 3) (pa_cons (pe_op op_sub (pv 5) (pv 6)) pa_nil))) (pa_cons pe_bl pa_nil)))))))) (pss_one (ps_ret (pv 4)))))), ?_⟩
  obtain ⟨c, cs, s, k, rest, rfl, hS, hz, hl, h1, h2, hr, mk, q⟩ := h
  walk_at "go"
  intro r nr
  walk_at "go"
  refine r_iR3 ?_
  walk_at "go"
  refine ⟨0, 0 + s, k, rfl, ⟨by omega, by omega, by omega, by omega, by omega, by omega⟩, ?_⟩
  rw [Int.zero_add]
  refine for_step (CfW c s k rest cs.length H) ⟨r, cs, none, by rw [Int.zero_add]; rfl, Same.new nr, nr, upd_same, rfl, by unfold cutTo; rw [if_pos (Nat.zero_le _)]; exact mk⟩ ?_ ?_
  · rintro i σ H2 hi ⟨r2, cs2, x6, rfl, s2, nr2, hr2, hl2, mk2⟩
    obtain ⟨l, el, l1, l0, l2, mk3⟩ := cut_step h1 h2 (by omega) hr hi mk2
    have el2 : (if 0 + s - (0 + (i : Int) * k) < k then 0 + s - (0 + (i : Int) * k) else k) = l := by rw [Int.zero_add s]; exact el
    walk_at "go"
    rw [el2]
    walk_at "go"
    refine ⟨r2, cs2, 0 + (i : Int) * k, l, false, rfl, SqL.of hr2, by omega, l0, l1, by omega, fun p H3 np s3 hp => ?_⟩
    walk_at "go"
    exact ⟨p, _, _, rfl, s2.trans s3, s2.free np, hp, by rw [laidI_len]; exact hl2, mk3⟩
  · rintro σ H2 ⟨r2, cs2, x6, rfl, s2, nr2, hr2, hl2, mk2⟩
    walk_at "go"
    refine q r2 cs2 H2 nr2 s2 hr2 hl2 ?_
    unfold cutTo at mk2
    rw [cut_turns h1 h2] at mk2
    by_cases z : s % k = 0
    · rw [if_pos z, Nat.add_zero, if_pos (Nat.le_refl _)] at mk2
      unfold cutF leftF
      rw [if_pos z, List.append_nil]
      exact mk2
    · rw [if_neg z, if_neg (by omega)] at mk2
      exact mk2
/-! a slot for a size, in a room of whole shelves -/
theorem fit_other {s k : Int} (h : s ≠ k) : ∀ (m j : Nat), fitF (shelvesF s j m) k = []
  | 0, j => rfl
  | m + 1, j => by
    have ih := fit_other h m (j + 1)
    unfold fitF at ih ⊢
    rw [shelvesF_cons, List.filter_cons, if_neg (by simp [h])]
    exact ih
theorem fit_same (s : Int) (j m : Nat) : fitF (shelvesF s j (m + 1)) s = s * (j : Int) :: fitF (shelvesF s (j + 1) m) s := by
  unfold fitF
  rw [shelvesF_cons, List.filter_cons, if_pos (by simp)]
  rfl
theorem cut_same {s : Int} (h : 1 ≤ s) : cutF s s = shelvesF s 0 1 := by
  unfold cutF leftF
  rw [Int.ediv_self (by omega), Int.emod_self, if_pos rfl, List.append_nil]
  rfl
theorem shelves_first (s : Int) (m : Nat) : shelvesF s 0 1 ++ shelvesF s 1 m = shelvesF s 0 (m + 1) := by
  rw [shelvesF_cons s 0 m]
  rfl
theorem rest_from {s : Int} (h : 1 ≤ s) (m : Nat) : FromOn (shelvesF s 1 m) s := by
  have := (shelvesF_chain h m 1).fromOn
  rw [show s * ((1 : Nat) : Int) = s by simp] at this
  exact this
def spWith (K : PySem.W.Frag) (CN : Addr) : Sp := fun vs H Q E => ∃ (c : Addr) (cs : List Int) (s k : Int) (m : Nat), vs = [.ref c, .int s, .int k] ∧ SqL K H c (cs.map V.int) ∧ cs.length ≤ 4000 ∧ (cs.length : Int) = s * ((m + 1 : Nat) : Int) ∧ 1 ≤ s ∧ 1 ≤ k ∧ Marks cs (shelvesF s 0 (m + 1)) ∧
  (s < k → ∀ (H' : Hp), Same H H' → E (.ref CN) none H') ∧
  (k ≤ s → ∀ (p : Addr) (cs' : List Int) (H' : Hp), Same H H' → SqL K H' p (cs'.map V.int) → cs'.length = cs.length → Marks cs' (cutF s k ++ shelvesF s 1 m) → Q (.ref p) H')
theorem d_with_slot {P : Program} {w : World} {base : Heap} {K : PySem.W.Frag} {mg : Str → Option Value} {C_StowError C_NoName C_NoSize C_Broken C_NoGive C_NoHandle C_NoPiece C_NoCell C_NoAsk C_NoBound C_NoRoom C_BadLine C_NoLine C_NoTurn C_Keeper C_Shelves : Addr} {tk_LEAST_LIVE : Tok} {tk_MARKS : Tok} (S : Src K mg "with_slot" s_with_slot) (T : Txt K mg C_StowError C_NoName C_NoSize C_Broken C_NoGive C_NoHandle C_NoPiece C_NoCell C_NoAsk C_NoBound C_NoRoom C_BadLine C_NoLine C_NoTurn C_Keeper C_Shelves tk_LEAST_LIVE tk_MARKS) (D_free_slots : Defx P w K mg base "free_slots" 5 ["cells", "shelf", "size"] (spSlots K)) (D_whole_ones : Defx P w K mg base "whole_ones" 5 ["cells", "shelf"] (spWhole1 K)) (D_cut_for : Defx P w K mg base "cut_for" 3 ["cells", "begin", "shelf", "size"] (spCutF K)) : Defx P w K mg base "with_slot" 6 ["cells", "shelf", "size"] (spWith K C_NoRoom) := by
  refine S.okx sc_with_slot bi_with_slot (fun vs H Q E h => by revert h; walk_at "len") (fun f cdv A outer s H vs Q E hr h => ?_)
  refine ⟨_, (pss_cons (ps_if (pt_truth (pe_defq D_free_slots hr (by rfl) (pa_cons (pv 0) (pa_cons (pv 1) (pa_cons (pv 2) pa_nil)))) (fun _ => rfl)) (pss_one (ps_ret (pv 0))) pss_nil) (pss_cons (ps_set (i := 3) sc_with_slot.nd rfl (Or.inl rfl) (pe_defq D_whole_ones hr (by rfl) (pa_cons (pv 0) (pa_cons (pv 1) pa_nil)))) (pss_cons (ps_if (PW.pt (pw_or (pt_cmpR op_gt (pv 2) (pv 1) (nomark _)) (pw_or1 (pt_not (pt_truth (pv 3) (fun _ => rfl)))))) (pss_one (ps_raise T.x_NoRoom hr.hd rfl (pa_cons pe_str pa_nil))) pss_nil) (pss_one (ps_ret (pe_defq D_cut_for hr (by rfl) (pa_cons (pv 0) (pa_cons (pe_ix ix_list (pv 3) pe_int (fun _ _ => rfl)) (pa_cons (pv 1) (pa_cons (pv 2) pa_nil)))))))))), ?_⟩
  obtain ⟨c, cs, s, k, m, rfl, hS, hz, hl, hs, hk, mk, qe, q⟩ := h
  have ch : Chain 0 (shelvesF s 0 (m + 1)) cs.length := by
    have := shelvesF_chain hs (m + 1) 0
    rw [show s * ((0 : Nat) : Int) = 0 by simp, Nat.zero_add, ← hl] at this
    exact this
  have hw := walk_of_marks ch mk
  have hle := ch.le
  rw [shelvesF_len] at hle
  have hpz : (shelvesF s 0 (m + 1)).length ≤ 4000 := by rw [shelvesF_len]; omega
  have hsl : s ≤ (cs.length : Int) := by
    have := Int.mul_le_mul_of_nonneg_left (show (1 : Int) ≤ ((m + 1 : Nat) : Int) by omega) (show 0 ≤ s by omega)
    omega
  have e0 : cs.getD 0 0 / 2 = s := by
    have := (mk ⟨s * ((0 : Nat) : Int), s, false⟩ (by rw [shelvesF_cons]; exact List.mem_cons_self)).1
    rw [show (s * ((0 : Nat) : Int)).toNat = 0 by simp] at this
    rw [getD_of this]
    exact mk_long _ _
  walk_at "go"
  refine ⟨c, cs, shelvesF s 0 (m + 1), s, k, rfl, hS, hz, hw, hpz, ch, hs, fun p H1 np s1 hp => ?_⟩
  by_cases hsk : s = k
  · subst hsk
    have esl : ∃ ys, slotF cs (shelvesF s 0 (m + 1)) s s = 0 :: ys := by
      unfold slotF
      rw [fit_same, List.filter_cons, if_pos (by simpa using e0)]
      exact ⟨_, by rw [show s * ((0 : Nat) : Int) = 0 by simp]⟩
    obtain ⟨ys, esl⟩ := esl
    rw [esl, List.map_cons] at hp
    walk_at "go"
    refine iteF ?_
    walk_at "go"
    exact q (Int.le_refl _) c cs H1 s1 (s1.seq hS) rfl (by rw [cut_same hs, shelves_first]; exact mk)
  · have esl : slotF cs (shelvesF s 0 (m + 1)) k s = [] := by
      unfold slotF
      rw [fit_other hsk]
      rfl
    rw [esl, List.map_nil] at hp
    have hS1 := s1.seq hS
    walk_at "go"
    refine iteT ?_
    walk_at "go"
    refine ⟨c, cs, shelvesF s 0 (m + 1), s, rfl, hS1, hz, hw, hpz, fun p2 H2 np2 s2 hp2 => ?_⟩
    rw [fit_same, show s * ((0 : Nat) : Int) = 0 by simp, List.map_cons] at hp2
    have hS2 := s2.seq hS1
    walk_at "go"
    refine r_ifd (fun hlt => ?_) (fun hlt => ?_)
    · walk_at "go"
      exact qe hlt H2 (s1.trans s2)
    · walk_at "go"
      refine iteF ?_
      walk_at "go"
      refine r_ixL (v := V.int 0) (SqL.of hp2) (show atI (V.int 0 :: _) ((0 : Nat) : Int) = some (V.int 0) from atI_nat rfl) ?_
      walk_at "go"
      refine ⟨c, cs, s, k, shelvesF s 1 m, rfl, hS2, hz, hsl, hk, by omega, rest_from hs m, mk.sub (fun p hp => by rw [shelvesF_cons]; exact List.mem_cons_of_mem _ hp), fun p3 cs' H3 np3 s3 hp3 hl3 mk3 => ?_⟩
      walk_at "go"
      exact q (by omega) p3 cs' H3 ((s1.trans s2).trans s3) (SqL.of hp3) hl3 mk3
def HvW (H1 : Hp) (D : Addr) (i : Nat) (ys : List V) (H2 : Hp) : Prop := Same H1 H2 ∧ H2 D = some (.lst ys) ∧ H1 D = none ∧ ys.length ≤ i ∧ ∃ bs : List Bool, ys = bs.map V.bl ∧ bs.any id = false
def spHas (K : PySem.W.Frag) : Sp := fun vs H Q _ => ∃ (c : Addr) (cs : List Int) (ps : List Pc) (b s : Int), vs = [.ref c, .int b, .int s] ∧ SqL K H c (cs.map V.int) ∧ cs.length ≤ 4000 ∧ walkF cs 0 = (ps, none) ∧ ps.length ≤ 4000 ∧ 1 ≤ s ∧ (∀ z ∈ ps, z.v = false) ∧ ∀ (H' : Hp), Same H H' → Q (.bl false) H'
theorem d_has_live {P : Program} {w : World} {base : Heap} {K : PySem.W.Frag} {mg : Str → Option Value} {C_StowError C_NoName C_NoSize C_Broken C_NoGive C_NoHandle C_NoPiece C_NoCell C_NoAsk C_NoBound C_NoRoom C_BadLine C_NoLine C_NoTurn C_Keeper C_Shelves : Addr} {tk_LEAST_LIVE : Tok} {tk_MARKS : Tok} (S : Src K mg "has_live" s_has_live) (T : Txt K mg C_StowError C_NoName C_NoSize C_Broken C_NoGive C_NoHandle C_NoPiece C_NoCell C_NoAsk C_NoBound C_NoRoom C_BadLine C_NoLine C_NoTurn C_Keeper C_Shelves tk_LEAST_LIVE tk_MARKS) (D_looked : Defx P w K mg base "looked" 4 ["cells"] (spLooked K C_Broken)) (D_begin_of : Defx P w K mg base "begin_of" 1 ["at", "shelf"] (spBeg)) : Defx P w K mg base "has_live" 5 ["cells", "begin", "shelf"] (spHas K) := by
  refine S.okx sc_has_live bi_has_live (fun vs H Q E h => by revert h; walk_at "len") (fun f cdv A outer s H vs Q E hr h => ?_)
  refine ⟨_, PSs.nox (pss_one (ps_ret (pe_callB (call_anyB rfl) (by rfl) T.n_any PyProof.Rows.boot_any (pa_cons (pe_compG ["at", "long", "live"] ["begin", "shelf"] [1, 2] rfl (pi_list (pe_defq D_looked hr (by rfl) (pa_cons (pv 0) pa_nil))) (fun cl C s₀ H₀ ex => (pg_tupK (K := K) (n := 3) rfl rfl (pgs_cons (pg_name (i := 0) (show ((["at", "long", "live"] : List Str) ++ (["begin", "shelf"] : List Str)).Nodup by decide +kernel) rfl (Or.inl rfl)) (pgs_cons (pg_name (i := 1) (show ((["at", "long", "live"] : List Str) ++ (["begin", "shelf"] : List Str)).Nodup by decide +kernel) rfl (Or.inl rfl)) (pgs_cons (pg_name (i := 2) (show ((["at", "long", "live"] : List Str) ++ (["begin", "shelf"] : List Str)).Nodup by decide +kernel) rfl (Or.inl rfl)) pgs_nil))))) (fun cl C s₀ H₀ ex => (pts_one (pt_cmpR op_eq (pe_defq D_begin_of hr (by rfl) (pa_cons (pv 0) (pa_cons (pv 4) pa_nil))) (pv 3) (nomark _)))) (fun cl C s₀ H₀ ex => (pv 2)) (caught_two rfl rfl rfl rfl rfl rfl) (free_two (n := "begin") (m := "shelf") (by decide +kernel) rfl rfl) (fun y h => relabel_free (by decide +kernel) h)) pa_nil)))), ?_⟩
  obtain ⟨c, cs, ps, b, s, rfl, hS, hz, hw, hpz, hs, hv, q⟩ := h
  walk_at "go"
  refine ⟨c, cs, rfl, hS, hz, (fun c hc => by rw [hw] at hc; cases hc), fun _ lp us H1 nlp s1 hlp pa => ?_⟩
  have pa : PcsAt H1 us ps := by rw [hw] at pa; exact pa
  have hul := pa.1
  walk_at "go"
  refine ⟨lp, rfl, ⟨_, SqL.of hlp⟩, compH_list (K := K) (a := lp) (xs := us) (HvW H1) (fun D hD => ⟨Same.new hD, upd_same, hD, Nat.le_refl _, [], rfl, rfl⟩) (fun D i ys H2 _ h => SqL.of (h.1 lp _ hlp)) ?_ ?_⟩
  · rintro D i y ys H2 hD hi ⟨s2, hD2, _, hyl, bs, ey, eb⟩ τ hτ
    have hil : i < us.length := (List.getElem?_eq_some_iff.mp hi).1
    have hip : i < ps.length := by omega
    obtain ⟨t, et, hT⟩ := pa.2 i ps[i] (by simp [hip])
    have ey2 : y = .ref t := Option.some.inj (hi.symm.trans et)
    subst ey2
    have hT2 := s2 t _ hT
    have hvz := hv ps[i] (List.getElem_mem hip)
    generalize ps[i] = z at hT2 hvz
    match τ, hτ with
    | [τ0, τ1, τ2], _ =>
      walk_at "go"
      refine ⟨⟨[_, _, _], rfl, rfl⟩, ?_⟩
      walk_at "go"
      refine ⟨z.a, s, rfl, hs, ?_⟩
      walk_at "go"
      refine r_ifd (fun hl => ?_) (fun hl => ?_)
      · walk_at "go"
        refine ⟨hD2, small4000 (by omega), nx_mk hil ⟨s2.put hD, upd_same, hD, by rw [List.length_append, List.length_singleton]; omega, bs ++ [z.v], by rw [ey, List.map_append]; rfl, by rw [List.any_append, eb, hvz]; rfl⟩⟩
      · walk_at "go"
        exact nx_mk hil ⟨s2, hD2, hD, by omega, bs, ey, eb⟩
  · rintro D ys H2 hD ⟨s2, hD2, _, hyl, bs, ey, eb⟩
    subst ey
    walk_at "go"
    refine ⟨D, bs, rfl, hD2, ?_⟩
    rw [eb]
    walk_at "go"
    exact q _ (s1.trans s2)
def badS (z s : Int) : Prop := z < 1 ∨ s < 1 ∨ (1 ≤ s ∧ z % s ≠ 0)
def spMkS (C CN : Addr) : Sp := fun vs H Q E => ∃ (x dx : Addr) (z s : Int), vs = [.ref x, .int z, .int s] ∧ H x = some (.ins C dx []) ∧ z ≤ 4000 ∧ s ≤ 4000 ∧ (badS z s → E (.ref CN) none H) ∧
  (∀ m : Nat, 1 ≤ s → 1 ≤ m → z = s * (m : Int) → ∀ (a : Addr) (H' : Hp), KeepX x H H' → H' x = some (.ins C dx [("room_cells", .ref a), ("shelf", .int s)]) → H' a = some (.lst ((rep1 s m).map V.int)) → Q .non H')
theorem d_Shelves {P : Program} {w : World} {base : Heap} {K : PySem.W.Frag} {mg : Str → Option Value} {C_StowError C_NoName C_NoSize C_Broken C_NoGive C_NoHandle C_NoPiece C_NoCell C_NoAsk C_NoBound C_NoRoom C_BadLine C_NoLine C_NoTurn C_Keeper C_Shelves : Addr} {tk_LEAST_LIVE : Tok} {tk_MARKS : Tok} {f₀ : Addr} {fd₀ : FuncData} (F : Fun K "__init__" "Shelves.__init__" s_Shelves_init f₀ fd₀) (M : Mk K C_Shelves f₀) (T : Txt K mg C_StowError C_NoName C_NoSize C_Broken C_NoGive C_NoHandle C_NoPiece C_NoCell C_NoAsk C_NoBound C_NoRoom C_BadLine C_NoLine C_NoTurn C_Keeper C_Shelves tk_LEAST_LIVE tk_MARKS) (D_all_whole : Defx P w K mg base "all_whole" 3 ["size", "shelf"] (spAllW C_NoSize)) (D_Keeper0 : Basex P w K mg base "Keeper" "__init__" 3 ["self", "size"] (spMk C_Shelves)) (D_lay : Methx P w K mg base C_Shelves "lay" 5 ["self", "cells"] [] (spLay K C_Shelves)) : Makex P w K mg base "Shelves" C_Shelves 6 ["self", "size", "shelf"] [] (spMkS C_Shelves C_NoSize) := by
  refine ⟨⟨f₀, fd₀, [], fun_okx F sc_Shelves_init (fun vs H Q E h => by revert h; walk_at "len") (fun cdv A outer s H vs Q E hr h => ?_), M, F.binds bi_Shelves_init, .nil⟩, T.c_Shelves⟩
  refine ⟨_, (pss_cons (ps_set (i := 3) sc_Shelves_init.nd rfl (Or.inl rfl) (pe_defx D_all_whole hr (by rfl) (pa_cons (pv 1) (pa_cons (pv 2) pa_nil)))) (pss_cons (ps_expr (pe_basep D_Keeper0 pass_e0 hr (by rfl) (pa_cons (pv 0) (pa_cons (pv 1) pa_nil)))) (pss_cons (ps_fld (pv 0) (pv 2) rfl) (pss_one (ps_expr (pe_methp D_lay pass_e0 hr (pv 0) (pa_cons (pv 3) pa_nil))))))), ?_⟩
  obtain ⟨x, dx, z, s, rfl, hx, hz, hs, qe, q⟩ := h
  have cl := T.cl_Shelves
  have na := T.na_Shelves_room_cells
  have nb := T.na_Shelves_shelf
  walk_at "go"
  refine ⟨z, s, rfl, hz, hs, fun h => qe h, fun m h1 m1 e p H1 np s1 hp => ?_⟩
  have hx1 := s1 x _ hx
  have hpx : p ≠ x := fun w => by rw [w, hx] at np; cases np
  have z1 : 1 ≤ z := by
    have := Int.mul_le_mul_of_nonneg_left (show (1 : Int) ≤ (m : Int) by omega) (show 0 ≤ s by omega)
    omega
  walk_at "go"
  refine ⟨x, dx, z, rfl, hx1, z1, hz, fun a H2 na2 k2 hx2 ha2 => ?_⟩
  have hp2 := k2 p _ hpx hp
  have hax : a ≠ x := fun w => by rw [w, hx1] at na2; cases na2
  have hl1 : (rep1 s m).length = (freshI z).length := by
    have e1 := rep1_len h1 m
    have e2 := freshI_len (n := z) (by omega)
    omega
  have hl2 : (rep1 s m).length ≤ 4000 := by have e1 := rep1_len h1 m; omega
  walk_at "go"
  refine ⟨s, x, p, dx, a, freshI z, rep1 s m, _, rfl, upd_same, look_ne hax ha2, hl1, SqL.of (look_ne hpx hp2), hl2, rep1_walk h1 m, fun a' H4 na4 k4 hx4 ha4 => ?_⟩
  walk_at "go"
  exact q m h1 m1 e a' H4 (((KeepX.of s1).trans k2).put.trans k4) hx4 ha4
def tailF (s k : Int) (m : Nat) : List Pc := (shelvesF k 1 ((s / k).toNat - 1) ++ leftF s k) ++ shelvesF s 1 m
theorem cutF_cons {s k : Int} (h1 : 1 ≤ k) (h2 : k ≤ s) (m : Nat) : cutF s k ++ shelvesF s 1 m = ⟨0, k, false⟩ :: tailF s k m := by
  obtain ⟨e, h3, h4, h5, h6⟩ := cut_num h1 h2
  unfold cutF tailF
  obtain ⟨n, en⟩ : ∃ n, (s / k).toNat = n + 1 := ⟨(s / k).toNat - 1, by omega⟩
  rw [en, shelvesF_cons, Nat.add_sub_cancel]
  simp
theorem tail_chain {s k : Int} (h1 : 1 ≤ k) (h2 : k ≤ s) (m : Nat) : Chain k (tailF s k m) (s * ((m + 1 : Nat) : Int)) := by
  obtain ⟨e, h3, h4, h5, h6⟩ := cut_num h1 h2
  have c1 := shelvesF_chain h1 ((s / k).toNat - 1) 1
  rw [show k * ((1 : Nat) : Int) = k by simp, show 1 + ((s / k).toNat - 1) = (s / k).toNat by omega, e] at c1
  have c2 : Chain (k * (s / k)) (leftF s k) s := by
    unfold leftF
    split
    · rename_i z
      show k * (s / k) = s
      omega
    · exact ⟨(by show s - s % k = k * (s / k); omega), (by show 1 ≤ s % k; omega), (fun z => by cases z), (by show k * (s / k) + s % k = s; omega)⟩
  have c3 := shelvesF_chain (s := s) (by omega) m 1
  rw [show s * ((1 : Nat) : Int) = s by simp, Nat.add_comm 1 m] at c3
  exact (c1.app c2).app c3
theorem head_chain {s k : Int} {v : Bool} (h1 : 1 ≤ k) (h2 : k ≤ s) (h3 : v = true → 3 ≤ k) (m : Nat) : Chain 0 (⟨0, k, v⟩ :: tailF s k m) (s * ((m + 1 : Nat) : Int)) :=
  ⟨rfl, h1, h3, by show Chain (0 + k) _ _; rw [Int.zero_add]; exact tail_chain h1 h2 m⟩
theorem slot_first {cs : List Int} {s k : Int} {m : Nat} (mk : Marks cs (⟨0, k, false⟩ :: tailF s k m)) : ∃ ys, slotF cs (⟨0, k, false⟩ :: tailF s k m) k s = 0 :: ys := by
  have e0 : cs.getD 0 0 / 2 = k := by
    have := (mk ⟨0, k, false⟩ List.mem_cons_self).1
    rw [show (0 : Int).toNat = 0 from rfl] at this
    rw [getD_of this]
    exact mk_long _ _
  unfold slotF fitF
  rw [List.filter_cons, if_pos (by simp), List.map_cons, List.filter_cons, if_pos (by simpa using e0)]
  exact ⟨_, rfl⟩
def spAskS (C CN : Addr) : Sp := fun vs H Q E => ∃ (x dx a : Addr) (cs : List Int) (s c : Int) (m : Nat), vs = [.ref x, .int c, .int 1] ∧ H x = some (.ins C dx [("room_cells", .ref a), ("shelf", .int s)]) ∧ H a = some (.lst (cs.map V.int)) ∧ cs.length ≤ 4000 ∧ (cs.length : Int) = s * ((m + 1 : Nat) : Int) ∧ 1 ≤ s ∧ 1 ≤ c ∧ Marks cs (shelvesF s 0 (m + 1)) ∧
  (s < c + 2 → ∀ (H' : Hp), Same H H' → E (.ref CN) none H') ∧
  (c + 2 ≤ s → ∀ (a' : Addr) (cs' : List Int) (H' : Hp), KeepX x H H' → H' x = some (.ins C dx [("room_cells", .ref a'), ("shelf", .int s)]) → H' a' = some (.lst (cs'.map V.int)) → cs'.length = cs.length → Marks cs' (⟨0, c + 2, true⟩ :: tailF s (c + 2) m) → Q (.int 1) H')
theorem d_ask {P : Program} {w : World} {base : Heap} {K : PySem.W.Frag} {mg : Str → Option Value} {C_StowError C_NoName C_NoSize C_Broken C_NoGive C_NoHandle C_NoPiece C_NoCell C_NoAsk C_NoBound C_NoRoom C_BadLine C_NoLine C_NoTurn C_Keeper C_Shelves : Addr} {tk_LEAST_LIVE : Tok} {tk_MARKS : Tok} {f₀ T₀ : Addr} {fd₀ : FuncData} {tk₀ : Tok} {tc₀ : Value} {td₀ : Option Addr} {tn₀ : Nat} {ts₀ : Array (Option Value)} (F : FunD K "ask" "Shelves.ask" s_Shelves_ask (.ref T₀) f₀ fd₀) (LT : K.lookup T₀ = some ⟨tc₀, td₀, .seq [.int 1 tk₀].toArray tn₀, ts₀⟩) (M : Meth K C_Shelves "ask" f₀) (T : Txt K mg C_StowError C_NoName C_NoSize C_Broken C_NoGive C_NoHandle C_NoPiece C_NoCell C_NoAsk C_NoBound C_NoRoom C_BadLine C_NoLine C_NoTurn C_Keeper C_Shelves tk_LEAST_LIVE tk_MARKS) (D_check_plain_ask : Defx P w K mg base "check_plain_ask" 2 ["count", "bound"] (spCheckP)) (D_cells : Methx P w K mg base C_Shelves "cells" 1 ["self"] [] (spCellsK C_Shelves)) (D_with_slot : Defx P w K mg base "with_slot" 6 ["cells", "shelf", "size"] (spWith K C_NoRoom)) (D_free_slots : Defx P w K mg base "free_slots" 5 ["cells", "shelf", "size"] (spSlots K)) (D_laid : Defx P w K mg base "laid" 2 ["cells", "at", "long", "live"] (spLaid K)) (D_lay : Methx P w K mg base C_Shelves "lay" 5 ["self", "cells"] [] (spLay K C_Shelves)) : MethD P w K mg base C_Shelves "ask" 7 ["self", "count", "bound"] [.int 1] (spAskS C_Shelves C_NoRoom) := by
  refine MethD.made (fd := fd₀) ?_ M (F.bindsA LT (bi_Shelves_ask T₀ _)) (F.bindsD LT (bd_Shelves_ask T₀ _)) (.cons ⟨tk₀, rfl⟩ .nil) T.cl_Shelves
  refine funD_okx F sc_Shelves_ask (fun vs H Q E h => by revert h; walk_at "len") (fun cdv A outer s H vs Q E hr h => ?_)
  refine ⟨_, (pss_cons (ps_expr (pe_defq D_check_plain_ask hr (by rfl) (pa_cons (pv 1) (pa_cons (pv 2) pa_nil)))) (pss_cons (ps_set (i := 3) sc_Shelves_ask.nd rfl (Or.inl rfl) (pe_op op_add (pv 1) (pe_glob (v := .int 2) (by rfl) T.g_MARKS ⟨_, rfl⟩))) (pss_cons (ps_set (i := 4) sc_Shelves_ask.nd rfl (Or.inl rfl) (pe_defx D_with_slot hr (by rfl) (pa_cons (pe_methp0 D_cells pass_e0 hr (pv 0)) (pa_cons (pe_fld (pv 0) rfl) (pa_cons (pv 3) pa_nil))))) (pss_cons (ps_set (i := 5) sc_Shelves_ask.nd rfl (Or.inl rfl) (pe_ix ix_list (pe_defq D_free_slots hr (by rfl) (pa_cons (pv 4) (pa_cons (pe_fld (pv 0) rfl) (pa_cons (pv 3) pa_nil)))) pe_int (fun _ _ => rfl))) (pss_cons (ps_expr (pe_methp D_lay pass_e0 hr (pv 0) (pa_cons (pe_defq D_laid hr (by rfl) (pa_cons (pv 4) (pa_cons (pv 5) (pa_cons (pv 3) (pa_cons pe_bl pa_nil))))) pa_nil))) (pss_one (ps_ret (pe_op op_add (pv 5) pe_int)))))))), ?_⟩
  obtain ⟨x, dx, a, cs, s, c, m, rfl, hx, ha, hz, hl, hs, hc, mk, qe, q⟩ := h
  have cl := T.cl_Shelves
  have na := T.na_Shelves_room_cells
  have nb := T.na_Shelves_shelf
  walk_at "go"
  refine ⟨c, rfl, hc, ?_⟩
  walk_at "go"
  refine ⟨s, x, dx, a, cs, rfl, hx, ha, fun p H1 np s1 hp => ?_⟩
  have hx1 := s1 x _ hx
  have ha1 := s1 a _ ha
  walk_at "go"
  refine ⟨p, cs, s, c + 2, m, rfl, SqL.of hp, hz, hl, hs, by omega, mk, fun hlt H2 s2 => qe hlt H2 (s1.trans s2), fun hle p2 cs2 H2 s2 hp2 hl2 mk2 => ?_⟩
  rw [cutF_cons (by omega) hle] at mk2
  have hl3 : (cs2.length : Int) = s * ((m + 1 : Nat) : Int) := by omega
  have ch2 : Chain 0 (⟨0, c + 2, false⟩ :: tailF s (c + 2) m) cs2.length := by rw [hl3]; exact head_chain (by omega) hle (fun z => by cases z) m
  have hw2 := walk_of_marks ch2 mk2
  have hle2 := ch2.le
  have hx2 := s2 x _ hx1
  have ha2 := s2 a _ ha1
  obtain ⟨ys, esl⟩ := slot_first mk2
  walk_at "go"
  refine ⟨p2, cs2, _, s, c + 2, rfl, hp2, by omega, hw2, by omega, ch2, hs, fun p3 H3 np3 s3 hp3 => ?_⟩
  rw [esl] at hp3
  have hp23 := s3.seq hp2
  have hx3 := s3 x _ hx2
  have ha3 := s3 a _ ha2
  walk_at "go"
  refine ⟨p2, cs2, 0, c + 2, true, rfl, hp23, by omega, by omega, by omega, (by
    have := (tail_chain (s := s) (k := c + 2) (by omega) hle m).le
    omega), fun p4 H4 np4 s4 hp4 => ?_⟩
  have mk4 : Marks (laidI cs2 0 (c + 2) true) (⟨0, c + 2, true⟩ :: tailF s (c + 2) m) := Marks.lay (ds := []) (by omega) (by omega) (by
    have := (tail_chain (s := s) (k := c + 2) (by omega) hle m).le
    omega) (fun p hp => by cases hp) (by rw [Int.zero_add]; exact (tail_chain (by omega) hle m).fromOn) (mk2.sub fun p hp => List.mem_cons_of_mem _ hp)
  have hl4 : (laidI cs2 0 (c + 2) true).length = cs.length := by rw [laidI_len]; exact hl2
  have ch4 : Chain 0 (⟨0, c + 2, true⟩ :: tailF s (c + 2) m) (laidI cs2 0 (c + 2) true).length := by rw [laidI_len, hl3]; exact head_chain (by omega) hle (fun _ => by omega) m
  have hw4 := walk_of_marks ch4 mk4
  walk_at "go"
  refine ⟨s, x, p4, dx, a, cs, _, _, rfl, s4 x _ hx3, s4 a _ ha3, hl4, SqL.of hp4, by omega, hw4, fun a' H5 na5 k5 hx5 ha5 => ?_⟩
  walk_at "go"
  exact q hle a' _ H5 ((KeepX.of (((s1.trans s2).trans s3).trans s4)).trans k5) hx5 ha5 hl4 mk4
theorem tail_free {s k : Int} {m : Nat} : ∀ z ∈ tailF s k m, z.v = false := by
  intro z hz
  unfold tailF at hz
  rcases List.mem_append.mp hz with h | h
  · rcases List.mem_append.mp h with h | h
    · unfold shelvesF at h
      obtain ⟨i, _, rfl⟩ := List.mem_map.mp h
      rfl
    · unfold leftF at h
      split at h
      · cases h
      · have : z = ⟨s - s % k, s % k, false⟩ := by simpa using h
        rw [this]
  · unfold shelvesF at h
    obtain ⟨i, _, rfl⟩ := List.mem_map.mp h
    rfl
def spGiveS (C : Addr) : Sp := fun vs H Q _ => ∃ (x dx a : Addr) (cs : List Int) (s k : Int) (m : Nat), vs = [.ref x, .int 1] ∧ H x = some (.ins C dx [("room_cells", .ref a), ("shelf", .int s)]) ∧ H a = some (.lst (cs.map V.int)) ∧ cs.length ≤ 4000 ∧ (cs.length : Int) = s * ((m + 1 : Nat) : Int) ∧ 1 ≤ s ∧ 3 ≤ k ∧ k ≤ s ∧ Marks cs (⟨0, k, true⟩ :: tailF s k m) ∧
  ∀ (a' : Addr) (cs' : List Int) (H' : Hp), KeepX x H H' → H' x = some (.ins C dx [("room_cells", .ref a'), ("shelf", .int s)]) → H' a' = some (.lst (cs'.map V.int)) → cs'.length = cs.length → Marks cs' (shelvesF s 0 (m + 1)) → Q .non H'
theorem d_give {P : Program} {w : World} {base : Heap} {K : PySem.W.Frag} {mg : Str → Option Value} {C_StowError C_NoName C_NoSize C_Broken C_NoGive C_NoHandle C_NoPiece C_NoCell C_NoAsk C_NoBound C_NoRoom C_BadLine C_NoLine C_NoTurn C_Keeper C_Shelves : Addr} {tk_LEAST_LIVE : Tok} {tk_MARKS : Tok} {f₀ : Addr} {fd₀ : FuncData} (F : Fun K "give" "Shelves.give" s_Shelves_give f₀ fd₀) (M : Meth K C_Shelves "give" f₀) (T : Txt K mg C_StowError C_NoName C_NoSize C_Broken C_NoGive C_NoHandle C_NoPiece C_NoCell C_NoAsk C_NoBound C_NoRoom C_BadLine C_NoLine C_NoTurn C_Keeper C_Shelves tk_LEAST_LIVE tk_MARKS) (D_laid : Defx P w K mg base "laid" 2 ["cells", "at", "long", "live"] (spLaid K)) (D_cells : Methx P w K mg base C_Shelves "cells" 1 ["self"] [] (spCellsK C_Shelves)) (D_many : Methx P w K mg base C_Shelves "many" 7 ["self", "place"] [] (spMany C_Shelves)) (D_begin_of : Defx P w K mg base "begin_of" 1 ["at", "shelf"] (spBeg)) (D_has_live : Defx P w K mg base "has_live" 5 ["cells", "begin", "shelf"] (spHas K)) (D_lay : Methx P w K mg base C_Shelves "lay" 5 ["self", "cells"] [] (spLay K C_Shelves)) : Methx P w K mg base C_Shelves "give" 8 ["self", "place"] [] (spGiveS C_Shelves) := by
  refine ⟨⟨f₀, fd₀, [], fun_okx F sc_Shelves_give (fun vs H Q E h => by revert h; walk_at "len") (fun cdv A outer s H vs Q E hr h => ?_), M, F.binds bi_Shelves_give, .nil⟩, T.cl_Shelves⟩
  refine ⟨_, PSs.nox (pss_cons (ps_set (i := 2) sc_Shelves_give.nd rfl (Or.inl rfl) (pe_defq D_laid hr (by rfl) (pa_cons (pe_methp0 D_cells pass_e0 hr (pv 0)) (pa_cons (pe_op op_sub (pv 1) pe_int) (pa_cons (pe_op op_add (pe_methp D_many pass_e0 hr (pv 0) (pa_cons (pv 1) pa_nil)) (pe_glob (v := .int 2) (by rfl) T.g_MARKS ⟨_, rfl⟩)) (pa_cons pe_bl pa_nil)))))) (pss_cons (ps_set (i := 3) sc_Shelves_give.nd rfl (Or.inl rfl) (pe_defq D_begin_of hr (by rfl) (pa_cons (pe_op op_sub (pv 1) pe_int) (pa_cons (pe_fld (pv 0) rfl) pa_nil)))) (pss_cons (ps_if (pt_not (pt_val (pe_defq D_has_live hr (by rfl) (pa_cons (pv 2) (pa_cons (pv 3) (pa_cons (pe_fld (pv 0) rfl) pa_nil)))))) (pss_one (ps_set (i := 2) sc_Shelves_give.nd rfl (Or.inl rfl) (pe_defq D_laid hr (by rfl) (pa_cons (pv 2) (pa_cons (pv 3) (pa_cons (pe_fld (pv 0) rfl) (pa_cons pe_bl pa_nil))))))) pss_nil) (pss_one (ps_expr (pe_methp D_lay pass_e0 hr (pv 0) (pa_cons (pv 2) pa_nil))))))), ?_⟩
  obtain ⟨x, dx, a, cs, s, k, m, rfl, hx, ha, hz, hl, hs, hk, hks, mk, q⟩ := h
  have cl := T.cl_Shelves
  have na := T.na_Shelves_room_cells
  have nb := T.na_Shelves_shelf
  have ch : Chain 0 (⟨0, k, true⟩ :: tailF s k m) cs.length := by rw [hl]; exact head_chain (by omega) hks (fun _ => hk) m
  have hw := walk_of_marks ch mk
  have htl := (tail_chain (s := s) (k := k) (by omega) hks m).le
  walk_at "go"
  refine ⟨s, x, dx, a, cs, rfl, hx, ha, fun p H1 np s1 hp => ?_⟩
  have hx1 := s1 x _ hx
  have ha1 := s1 a _ ha
  walk_at "go"
  refine ⟨s, x, dx, a, cs, _, ⟨0, k, true⟩, rfl, hx1, ha1, hz, hw, ch, List.mem_cons_self, rfl, fun H2 s2 => ?_⟩
  have hx2 := s2 x _ hx1
  have ha2 := s2 a _ ha1
  have hp2 := s2 p _ hp
  walk_at "go"
  refine ⟨p, cs, 1 - 1, k - 2 + 2, false, rfl, SqL.of hp2, hz, by omega, by omega, by omega, fun p3 H3 np3 s3 hp3 => ?_⟩
  rw [show (1 : Int) - 1 = 0 from rfl, show k - 2 + 2 = k by omega] at hp3
  have hx3 := s3 x _ hx2
  have ha3 := s3 a _ ha2
  walk_at "go"
  refine ⟨1 - 1, s, rfl, hs, ?_⟩
  rw [show (1 : Int) - 1 - (1 - 1) % s = 0 by simp]
  walk_at "go"
  have mk3 : Marks (laidI cs 0 k false) (⟨0, k, false⟩ :: tailF s k m) := Marks.lay (ds := []) (by omega) (by omega) (by omega) (fun p hp => by cases hp) (by rw [Int.zero_add]; exact (tail_chain (by omega) hks m).fromOn) (mk.sub fun p hp => List.mem_cons_of_mem _ hp)
  have hl3 : (laidI cs 0 k false).length = cs.length := laidI_len _ _ _ _
  have ch3 : Chain 0 (⟨0, k, false⟩ :: tailF s k m) (laidI cs 0 k false).length := by rw [hl3, hl]; exact head_chain (by omega) hks (fun z => by cases z) m
  have hw3 := walk_of_marks ch3 mk3
  have hle3 := ch3.le
  refine ⟨p3, _, _, 0, s, rfl, SqL.of hp3, by omega, hw3, by omega, hs, fun z hz => ?_, fun H4 s4 => ?_⟩
  · rcases List.mem_cons.mp hz with g | g
    · rw [g]
    · exact tail_free z g
  have hp4 := s4 p3 _ hp3
  have hx4 := s4 x _ hx3
  have ha4 := s4 a _ ha3
  have hsl : s ≤ (cs.length : Int) := by
    have := Int.mul_le_mul_of_nonneg_left (show (1 : Int) ≤ ((m + 1 : Nat) : Int) by omega) (show 0 ≤ s by omega)
    omega
  walk_at "go"
  refine ⟨p3, _, 0, s, false, rfl, SqL.of hp4, by omega, by omega, hs, by omega, fun p5 H5 np5 s5 hp5 => ?_⟩
  have mk5 : Marks (laidI (laidI cs 0 k false) 0 s false) (shelvesF s 0 (m + 1)) := by
    rw [shelvesF_cons, show s * ((0 : Nat) : Int) = 0 by simp]
    exact Marks.lay (ds := []) (by omega) hs (by omega) (fun p hp => by cases hp) (by rw [Int.zero_add]; exact rest_from hs m) (mk3.sub fun p hp => List.mem_cons_of_mem _ (List.mem_append_right _ hp))
  have hl5 : (laidI (laidI cs 0 k false) 0 s false).length = cs.length := by rw [laidI_len]; exact hl3
  have ch5 : Chain 0 (shelvesF s 0 (m + 1)) (laidI (laidI cs 0 k false) 0 s false).length := by
    have := shelvesF_chain hs (m + 1) 0
    rw [show s * ((0 : Nat) : Int) = 0 by simp, Nat.zero_add, ← hl] at this
    rw [hl5]
    exact this
  have hw5 := walk_of_marks ch5 mk5
  have hx5 := s5 x _ hx4
  have ha5 := s5 a _ ha4
  walk_at "go"
  refine ⟨s, x, p5, dx, a, cs, _, _, rfl, hx5, ha5, hl5, SqL.of hp5, by omega, hw5, fun a' H6 na6 k6 hx6 ha6 => ?_⟩
  walk_at "go"
  exact q a' _ H6 ((KeepX.of ((((s1.trans s2).trans s3).trans s4).trans s5)).trans k6) hx6 ha6 hl5 mk5
theorem d_L_cell_at {P : Program} {w : World} {base : Heap} {K : PySem.W.Frag} {mg : Str → Option Value} {C_StowError C_NoName C_NoSize C_Broken C_NoGive C_NoHandle C_NoPiece C_NoCell C_NoAsk C_NoBound C_NoRoom C_BadLine C_NoLine C_NoTurn C_Keeper C_Shelves : Addr} {tk_LEAST_LIVE : Tok} {tk_MARKS : Tok} (S : Src K mg "_law_cell_at" s_L_cell_at) (T : Txt K mg C_StowError C_NoName C_NoSize C_Broken C_NoGive C_NoHandle C_NoPiece C_NoCell C_NoAsk C_NoBound C_NoRoom C_BadLine C_NoLine C_NoTurn C_Keeper C_Shelves tk_LEAST_LIVE tk_MARKS)  : Defx P w K mg base "_law_cell_at" 1 ["_law_script", "_law_k"] (spCell K) := by
  refine S.okx sc_L_cell_at bi_L_cell_at (fun vs H Q E h => by revert h; walk_at "len") (fun f cdv A outer s H vs Q E hr h => ?_)
  refine ⟨_, PSs.nox (pss_cons (ps_if (pt_cmpR op_lt (pv 1) (pe_callB call_len_seq (by rfl) T.n_len PySem.boot_len (pa_cons (pv 0) pa_nil)) (nomark _)) (pss_one (ps_ret (pe_ix ix_list (pv 0) (pv 1) (fun _ _ => rfl)))) pss_nil) (pss_one (ps_ret pe_int))), ?_⟩
  obtain ⟨a, ns, k, rfl, hS, h0, q⟩ := h
  walk_at "go"
  refine r_ifd (fun hc => ?_) (fun hc => ?_)
  · walk_at "go"
    exact q
  · walk_at "go"
    have e : ns.getD k.toNat 0 = 0 := by
      rw [List.getD_eq_getElem?_getD, List.getElem?_eq_none (by omega)]
      rfl
    rw [e] at q
    exact q
theorem d_L_whole {P : Program} {w : World} {base : Heap} {K : PySem.W.Frag} {mg : Str → Option Value} {C_StowError C_NoName C_NoSize C_Broken C_NoGive C_NoHandle C_NoPiece C_NoCell C_NoAsk C_NoBound C_NoRoom C_BadLine C_NoLine C_NoTurn C_Keeper C_Shelves : Addr} {tk_LEAST_LIVE : Tok} {tk_MARKS : Tok} (S : Src K mg "_law_whole" s_L_whole) (T : Txt K mg C_StowError C_NoName C_NoSize C_Broken C_NoGive C_NoHandle C_NoPiece C_NoCell C_NoAsk C_NoBound C_NoRoom C_BadLine C_NoLine C_NoTurn C_Keeper C_Shelves tk_LEAST_LIVE tk_MARKS)  : Defx P w K mg base "_law_whole" 1 ["_law_found"] (spWhole) := by
  refine S.okx sc_L_whole bi_L_whole (fun vs H Q E h => by revert h; walk_at "len") (fun f cdv A outer s H vs Q E hr h => ?_)
  refine ⟨_, PSs.nox (pss_one (ps_ret (pe_and (pe_callB call_isi (by rfl) T.n_isinstance PyProof.Rows.boot_isinstance (pa_cons (pv 0) (pa_cons (pe_bltn (v := .ty "int") (by rfl) T.n_int PyProof.Rows.boot_int rfl) pa_nil))) (pe_one (pe_not (pe_callB call_isi (by rfl) T.n_isinstance PyProof.Rows.boot_isinstance (pa_cons (pv 0) (pa_cons (pe_bltn (v := .ty "bool") (by rfl) T.n_bool PyProof.Rows.boot_bool rfl) pa_nil)))))))), ?_⟩
  obtain ⟨n, rfl, q⟩ := h
  walk_at "go"
  exact q
def spAlike : Sp := fun vs H Q _ => ∃ (b c : Addr) (us ws : List V) (ps : List Pc), vs = [.ref b, .ref c] ∧ H b = some (.lst us) ∧ H c = some (.lst ws) ∧ PcsAt H us ps ∧ PcsAt H ws ps ∧ Q (.bl true) H
def AlW (b c : Addr) (H : Hp) (i : Nat) (σ : L2.St) (H' : Hp) : Prop := ∃ x2 : Option V, σ = [some (.ref b), some (.ref c), x2] ∧ H' = H
theorem d_L_alike {P : Program} {w : World} {base : Heap} {K : PySem.W.Frag} {mg : Str → Option Value} {C_StowError C_NoName C_NoSize C_Broken C_NoGive C_NoHandle C_NoPiece C_NoCell C_NoAsk C_NoBound C_NoRoom C_BadLine C_NoLine C_NoTurn C_Keeper C_Shelves : Addr} {tk_LEAST_LIVE : Tok} {tk_MARKS : Tok} (S : Src K mg "_law_alike" s_L_alike) (T : Txt K mg C_StowError C_NoName C_NoSize C_Broken C_NoGive C_NoHandle C_NoPiece C_NoCell C_NoAsk C_NoBound C_NoRoom C_BadLine C_NoLine C_NoTurn C_Keeper C_Shelves tk_LEAST_LIVE tk_MARKS) (D_L_whole : Defx P w K mg base "_law_whole" 1 ["_law_found"] (spWhole)) : Defx P w K mg base "_law_alike" 2 ["_law_found", "_law_due"] (spAlike) := by
  refine S.okx sc_L_alike bi_L_alike (fun vs H Q E h => by revert h; walk_at "len") (fun f cdv A outer s H vs Q E hr h => ?_)
  refine ⟨_, PSs.nox (pss_cons (ps_if (PW.pt (pw_or (pt_not (pt_val (pe_callB call_isi (by rfl) T.n_isinstance PyProof.Rows.boot_isinstance (pa_cons (pv 0) (pa_cons (pe_bltn (v := .ty "list") (by rfl) T.n_list PyProof.Rows.boot_list rfl) pa_nil))))) (pw_or1 (pt_cmpR op_ne (pe_callB call_len_seq (by rfl) T.n_len PySem.boot_len (pa_cons (pv 0) pa_nil)) (pe_callB call_len_seq (by rfl) T.n_len PySem.boot_len (pa_cons (pv 1) pa_nil)) (nomark _))))) (pss_one (ps_ret pe_bl)) pss_nil) (pss_cons (ps_for PassesOwn.never rfl (pi_list (pv 0)) (pg_name (i := 2) sc_L_alike.nd rfl (Or.inl rfl)) (pss_cons (ps_if (PW.pt (pw_or (pt_not (pt_val (pe_callB call_isi (by rfl) T.n_isinstance PyProof.Rows.boot_isinstance (pa_cons (pv 2) (pa_cons (pe_bltn (v := .ty "tuple") (by rfl) T.n_tuple PyProof.Rows.boot_tuple rfl) pa_nil))))) (pw_or (pt_cmpR op_ne (pe_callB call_len_seq (by rfl) T.n_len PySem.boot_len (pa_cons (pv 2) pa_nil)) pe_int (nomark _)) (pw_or1 (pt_not (pt_val (pe_callB call_isi (by rfl) T.n_isinstance PyProof.Rows.boot_isinstance (pa_cons (pe_ix ix_tup (pv 2) pe_int (fun _ _ => rfl)) (pa_cons (pe_bltn (v := .ty "bool") (by rfl) T.n_bool PyProof.Rows.boot_bool rfl) pa_nil))))))))) (pss_one (ps_ret pe_bl)) pss_nil) (pss_one (ps_if (PW.pt (pw_or (pt_not (pt_val (pe_defq D_L_whole hr (by rfl) (pa_cons (pe_ix ix_tup (pv 2) pe_int (fun _ _ => rfl)) pa_nil)))) (pw_or1 (pt_not (pt_val (pe_defq D_L_whole hr (by rfl) (pa_cons (pe_ix ix_tup (pv 2) pe_int (fun _ _ => rfl)) pa_nil))))))) (pss_one (ps_ret pe_bl)) pss_nil)))) (pss_one (ps_ret (pe_cmpR (op_eqLP hr.units) (pv 0) (pv 1) (nomark _)))))), ?_⟩
  obtain ⟨b, c, us, ws, ps, rfl, hb, hc, pb, pc, q⟩ := h
  have l1 := pb.1
  have l2 := pc.1
  walk_at "go"
  refine ⟨b, rfl, ⟨_, SqL.of hb⟩, for_list (K := K) (a := b) (xs := us) (AlW b c H) ⟨none, rfl, rfl⟩ (fun i σ H2 _ ⟨_, _, h⟩ => by rw [h]; exact SqL.of hb) ?_ ?_⟩
  · rintro i y σ H2 hi ⟨x2, rfl, rfl⟩
    have hil : i < us.length := (List.getElem?_eq_some_iff.mp hi).1
    have hip : i < ps.length := by omega
    obtain ⟨t, et, hT⟩ := pb.2 i ps[i] (by simp [hip])
    have ey : y = .ref t := Option.some.inj (hi.symm.trans et)
    subst ey
    generalize ps[i] = z at hT
    walk_at "go"
    exact ⟨_, rfl, rfl⟩
  · rintro σ H2 ⟨x2, rfl, rfl⟩
    walk_at "go"
    refine ⟨b, c, us, ws, ps, rfl, rfl, hb, hc, pb, pc, ?_⟩
    walk_at "go"
    exact q
theorem boot_ValueError : bootBuiltins "ValueError" = some (.type "ValueError") := by decide +kernel
theorem r_isiT {K : PySem.W.Frag} {H : Hp} {x C : Addr} {n : String} {od : Option Addr} {b : Bool} {P : Bool → Prop} (h : H x = some (ExcO x C od)) (z : XK0 K C) (e : PySem.W.kitOne K (.ref C) (.type n) = some b) (q : P b) :
    ∃ x' C0 od' v b', [V.ref x, V.ty n] = [V.ref x', v] ∧ H x' = some (ExcO x' C0 od') ∧ XK0 K C0 ∧ clsV v ≠ .none ∧ PySem.W.kitOne K (.ref C0) (clsV v) = some b' ∧ P b' := ⟨x, C, od, .ty n, b, rfl, h, z, (fun z => nomatch z), e, q⟩
def spNoRoomS : Sp := fun vs H Q _ => ∃ z s : Int, vs = [.int z, .int s] ∧ z ≤ 4000 ∧ s ≤ 4000 ∧ badS z s ∧ ∀ (H' : Hp), Same H H' → Q (.bl true) H'
theorem d_L_no_room_of {P : Program} {w : World} {base : Heap} {K : PySem.W.Frag} {mg : Str → Option Value} {C_StowError C_NoName C_NoSize C_Broken C_NoGive C_NoHandle C_NoPiece C_NoCell C_NoAsk C_NoBound C_NoRoom C_BadLine C_NoLine C_NoTurn C_Keeper C_Shelves : Addr} {tk_LEAST_LIVE : Tok} {tk_MARKS : Tok} (S : Src K mg "_law_no_room_of" s_L_no_room_of) (T : Txt K mg C_StowError C_NoName C_NoSize C_Broken C_NoGive C_NoHandle C_NoPiece C_NoCell C_NoAsk C_NoBound C_NoRoom C_BadLine C_NoLine C_NoTurn C_Keeper C_Shelves tk_LEAST_LIVE tk_MARKS) (D_Shelves : Makex P w K mg base "Shelves" C_Shelves 6 ["self", "size", "shelf"] [] (spMkS C_Shelves C_NoSize)) : Defx P w K mg base "_law_no_room_of" 8 ["_law_size", "_law_shelf"] (spNoRoomS) := by
  refine S.okx sc_L_no_room_of bi_L_no_room_of (fun vs H Q E h => by revert h; walk_at "len") (fun f cdv A outer s H vs Q E hr h => ?_)
  refine ⟨_, PSs.nox (pss_cons (ps_set (i := 2) sc_L_no_room_of.nd rfl (Or.inl rfl) pe_bl) (pss_cons (ps_tryE (px_makeD D_Shelves hr (by rfl) (pa_cons (pv 0) (pa_cons (pv 1) pa_nil))) ⟨rfl, rfl⟩ (ph_consAs (i := 3) (by rfl) T.c_StowError sc_L_no_room_of.nd rfl rfl (fun x => (pss_one (ps_set (i := 2) sc_L_no_room_of.nd rfl (Or.inl rfl) (pe_and (pe_callB (call_isiX PySem.F.attr_ValueError.ga) (by rfl) T.n_isinstance PyProof.Rows.boot_isinstance (pa_cons (pv 3) (pa_cons (pe_glob (v := .ref C_NoSize) (by rfl) T.c_NoSize rfl) pa_nil))) (pe_and (pe_callB (call_isiX PySem.F.attr_ValueError.ga) (by rfl) T.n_isinstance PyProof.Rows.boot_isinstance (pa_cons (pv 3) (pa_cons (pe_bltn (v := .ty "ValueError") (by rfl) T.n_ValueError boot_ValueError rfl) pa_nil))) (pe_one (pe_not (pe_callB (call_isiX PySem.F.attr_ValueError.ga) (by rfl) T.n_isinstance PyProof.Rows.boot_isinstance (pa_cons (pv 3) (pa_cons (pe_glob (v := .ref C_NoName) (by rfl) T.c_NoName rfl) pa_nil)))))))))) ph_nil)) (pss_one (ps_ret (pv 2))))), ?_⟩
  obtain ⟨z, s, rfl, hz, hs, hb, q⟩ := h
  have x1 := T.z_NoSize
  have x2 := T.i_NoSize_NoSize
  have x3 := T.i_NoSize_ValueError
  have x4 := T.i_NoSize_NoName
  walk_at "go"
  intro x dx nx ndx nex
  have s1 : Same H (upd (upd H dx (.own x)) x (.ins C_Shelves dx [])) := (Same.new ndx).put nx
  refine ⟨x, dx, z, s, rfl, upd_same, hz, hs, fun _ => ⟨_, rfl, fun y hy => Or.inl ⟨T.f_NoSize_StowError, ?_⟩⟩, fun m h1 m1 e => absurd hb (by
    rintro (h | h | ⟨_, h⟩)
    · have := Int.mul_le_mul_of_nonneg_left (show (1 : Int) ≤ (m : Int) by omega) (show 0 ≤ s by omega)
      omega
    · omega
    · exact h (by rw [e]; exact Int.mul_emod_right _ _))⟩
  generalize upd (upd H dx (.own x)) x (.ins C_Shelves dx []) = H1 at s1 hy ⊢
  walk_at "go"
  refine r_isiT upd_same x1 x3 ?_
  walk_at "go"
  exact q _ (s1.put (s1.free hy))
def spAsked (C : Addr) : Sp := fun vs H Q _ => ∃ (x dx a : Addr) (cs : List Int) (s c : Int) (m : Nat) (bare : Bool), vs = [.ref x, .int c, .bl bare] ∧ H x = some (.ins C dx [("room_cells", .ref a), ("shelf", .int s)]) ∧ H a = some (.lst (cs.map V.int)) ∧ cs.length ≤ 4000 ∧ (cs.length : Int) = s * ((m + 1 : Nat) : Int) ∧ 1 ≤ s ∧ 1 ≤ c ∧ Marks cs (shelvesF s 0 (m + 1)) ∧
  (s < c + 2 → ∀ (t : Addr) (H' : Hp), Same H H' → H' t = some (.tup [.non, .bl true]) → Q (.ref t) H') ∧
  (c + 2 ≤ s → ∀ (t a' : Addr) (cs' : List Int) (H' : Hp), KeepX x H H' → H' x = some (.ins C dx [("room_cells", .ref a'), ("shelf", .int s)]) → H' a' = some (.lst (cs'.map V.int)) → cs'.length = cs.length → Marks cs' (⟨0, c + 2, true⟩ :: tailF s (c + 2) m) → H' t = some (.tup [.int 1, .non]) → Q (.ref t) H')
theorem d_L_asked {P : Program} {w : World} {base : Heap} {K : PySem.W.Frag} {mg : Str → Option Value} {C_StowError C_NoName C_NoSize C_Broken C_NoGive C_NoHandle C_NoPiece C_NoCell C_NoAsk C_NoBound C_NoRoom C_BadLine C_NoLine C_NoTurn C_Keeper C_Shelves : Addr} {tk_LEAST_LIVE : Tok} {tk_MARKS : Tok} (S : Src K mg "_law_asked" s_L_asked) (T : Txt K mg C_StowError C_NoName C_NoSize C_Broken C_NoGive C_NoHandle C_NoPiece C_NoCell C_NoAsk C_NoBound C_NoRoom C_BadLine C_NoLine C_NoTurn C_Keeper C_Shelves tk_LEAST_LIVE tk_MARKS) (D_ask : MethD P w K mg base C_Shelves "ask" 7 ["self", "count", "bound"] [.int 1] (spAskS C_Shelves C_NoRoom)) : Defx P w K mg base "_law_asked" 8 ["_law_keeper", "_law_count", "_law_bare"] (spAsked C_Shelves) := by
  refine S.okx sc_L_asked bi_L_asked (fun vs H Q E h => by revert h; walk_at "len") (fun f cdv A outer s H vs Q E hr h => ?_)
  refine ⟨_, PSs.nox (pss_cons (ps_set (i := 3) sc_L_asked.nd rfl (Or.inl rfl) pe_non) (pss_cons (ps_set (i := 4) sc_L_asked.nd rfl (Or.inl rfl) pe_non) (pss_cons (ps_tryS (pxs_if (pt_truth (pv 2) (fun _ => rfl)) (pxs_set (i := 3) sc_L_asked.nd rfl (Or.inl rfl) (px_methD D_ask.less hr (pv 0) (pa_cons (pv 1) pa_nil))) (pxs_set (i := 3) sc_L_asked.nd rfl (Or.inl rfl) (px_methD D_ask.all hr (pv 0) (pa_cons (pv 1) (pa_cons pe_int pa_nil))))) ⟨rfl, rfl⟩ (ph_consAs (i := 5) (by rfl) T.c_StowError sc_L_asked.nd rfl rfl (fun x => (pss_cons (ps_set (i := 6) sc_L_asked.nd rfl (Or.inl rfl) (pe_lst (pa_cons (pe_callB (call_isiX PySem.F.attr_ValueError.ga) (by rfl) T.n_isinstance PyProof.Rows.boot_isinstance (pa_cons (pv 5) (pa_cons (pe_glob (v := .ref C_NoAsk) (by rfl) T.c_NoAsk rfl) pa_nil))) (pa_cons (pe_callB (call_isiX PySem.F.attr_ValueError.ga) (by rfl) T.n_isinstance PyProof.Rows.boot_isinstance (pa_cons (pv 5) (pa_cons (pe_glob (v := .ref C_NoBound) (by rfl) T.c_NoBound rfl) pa_nil))) (pa_cons (pe_callB (call_isiX PySem.F.attr_ValueError.ga) (by rfl) T.n_isinstance PyProof.Rows.boot_isinstance (pa_cons (pv 5) (pa_cons (pe_glob (v := .ref C_NoCell) (by rfl) T.c_NoCell rfl) pa_nil))) (pa_cons (pe_callB (call_isiX PySem.F.attr_ValueError.ga) (by rfl) T.n_isinstance PyProof.Rows.boot_isinstance (pa_cons (pv 5) (pa_cons (pe_glob (v := .ref C_NoGive) (by rfl) T.c_NoGive rfl) pa_nil))) pa_nil)))))) (pss_cons (ps_set (i := 6) sc_L_asked.nd rfl (Or.inl rfl) (pe_op op_cat (pv 6) (pe_lst (pa_cons (pe_callB (call_isiX PySem.F.attr_ValueError.ga) (by rfl) T.n_isinstance PyProof.Rows.boot_isinstance (pa_cons (pv 5) (pa_cons (pe_glob (v := .ref C_NoHandle) (by rfl) T.c_NoHandle rfl) pa_nil))) (pa_cons (pe_callB (call_isiX PySem.F.attr_ValueError.ga) (by rfl) T.n_isinstance PyProof.Rows.boot_isinstance (pa_cons (pv 5) (pa_cons (pe_glob (v := .ref C_NoName) (by rfl) T.c_NoName rfl) pa_nil))) (pa_cons (pe_callB (call_isiX PySem.F.attr_ValueError.ga) (by rfl) T.n_isinstance PyProof.Rows.boot_isinstance (pa_cons (pv 5) (pa_cons (pe_glob (v := .ref C_NoPiece) (by rfl) T.c_NoPiece rfl) pa_nil))) pa_nil)))))) (pss_cons (ps_set (i := 6) sc_L_asked.nd rfl (Or.inl rfl) (pe_op op_cat (pv 6) (pe_lst (pa_cons (pe_callB (call_isiX PySem.F.attr_ValueError.ga) (by rfl) T.n_isinstance PyProof.Rows.boot_isinstance (pa_cons (pv 5) (pa_cons (pe_glob (v := .ref C_NoSize) (by rfl) T.c_NoSize rfl) pa_nil))) (pa_cons (pe_callB (call_isiX PySem.F.attr_ValueError.ga) (by rfl) T.n_isinstance PyProof.Rows.boot_isinstance (pa_cons (pv 5) (pa_cons (pe_glob (v := .ref C_Broken) (by rfl) T.c_Broken rfl) pa_nil))) (pa_cons (pe_callB (call_isiX PySem.F.attr_ValueError.ga) (by rfl) T.n_isinstance PyProof.Rows.boot_isinstance (pa_cons (pv 5) (pa_cons (pe_glob (v := .ref C_BadLine) (by rfl) T.c_BadLine rfl) pa_nil))) pa_nil)))))) (pss_cons (ps_set (i := 6) sc_L_asked.nd rfl (Or.inl rfl) (pe_op op_cat (pv 6) (pe_lst (pa_cons (pe_callB (call_isiX PySem.F.attr_ValueError.ga) (by rfl) T.n_isinstance PyProof.Rows.boot_isinstance (pa_cons (pv 5) (pa_cons (pe_glob (v := .ref C_NoLine) (by rfl) T.c_NoLine rfl) pa_nil))) (pa_cons (pe_callB (call_isiX PySem.F.attr_ValueError.ga) (by rfl) T.n_isinstance PyProof.Rows.boot_isinstance (pa_cons (pv 5) (pa_cons (pe_glob (v := .ref C_NoTurn) (by rfl) T.c_NoTurn rfl) pa_nil))) pa_nil))))) (pss_one (ps_set (i := 4) sc_L_asked.nd rfl (Or.inl rfl) (pe_and (pe_callB (call_isiX PySem.F.attr_ValueError.ga) (by rfl) T.n_isinstance PyProof.Rows.boot_isinstance (pa_cons (pv 5) (pa_cons (pe_glob (v := .ref C_NoRoom) (by rfl) T.c_NoRoom rfl) pa_nil))) (pe_and (pe_callB (call_isiX PySem.F.attr_ValueError.ga) (by rfl) T.n_isinstance PyProof.Rows.boot_isinstance (pa_cons (pv 5) (pa_cons (pe_bltn (v := .ty "ValueError") (by rfl) T.n_ValueError boot_ValueError rfl) pa_nil))) (pe_one (pe_cmpR op_notIn_seq pe_bl (pv 6) rfl))))))))))) ph_nil)) (pss_one (ps_ret (pe_tup (pa_cons (pv 3) (pa_cons (pv 4) pa_nil)))))))), ?_⟩
  obtain ⟨x, dx, a, cs, s, c, m, bare, rfl, hx, ha, hz, hl, hs, hc, mk, qe, q⟩ := h
  have x1 := T.z_NoRoom
  have i1 := T.i_NoRoom_NoRoom
  have i2 := T.i_NoRoom_ValueError
  have i3 := T.i_NoRoom_NoAsk
  have i4 := T.i_NoRoom_NoBound
  have i5 := T.i_NoRoom_NoCell
  have i6 := T.i_NoRoom_NoGive
  have i7 := T.i_NoRoom_NoHandle
  have i8 := T.i_NoRoom_NoName
  have i9 := T.i_NoRoom_NoPiece
  have j1 := T.i_NoRoom_NoSize
  have j2 := T.i_NoRoom_Broken
  have j3 := T.i_NoRoom_BadLine
  have j4 := T.i_NoRoom_NoLine
  have j5 := T.i_NoRoom_NoTurn
  walk_at "go"
  refine r_ifb (fun _ => ?_) (fun _ => ?_)
  · walk_at "go"
    refine ⟨x, dx, a, cs, s, c, m, rfl, hx, ha, hz, hl, hs, hc, mk, fun hlt H1 s1 => ⟨_, rfl, fun y hy => Or.inl ⟨T.f_NoRoom_StowError, ?_⟩⟩, fun hle a' cs' H1 k1 hx1 ha1 hl1 hw1 => ?_⟩
    · have s2 := s1.put (o := ExcO y C_NoRoom none) (s1.free hy)
      have hy2 : upd H1 y (ExcO y C_NoRoom none) y = some (ExcO y C_NoRoom none) := upd_same
      generalize upd H1 y (ExcO y C_NoRoom none) = H2 at s2 hy2 ⊢
      walk_at "go"
      intro p1 m1
      walk_at "go"
      intro p2 m2
      walk_at "go"
      intro p3 m3
      walk_at "go"
      intro p4 m4
      walk_at "go"
      intro p5 m5
      walk_at "go"
      intro p6 m6
      walk_at "go"
      intro p7 m7
      walk_at "go"
      refine r_isiT (C := C_NoRoom) (od := none) (by walk_at "look") x1 i2 ?_
      walk_at "go"
      refine ⟨p7, _, rfl, Or.inl (SqL.of upd_same), rfl, rfl, ?_⟩
      walk_at "go"
      intro t ht
      walk_at "go"
      refine qe hlt t _ ?_ upd_same
      exact (((((((s2.trans (Same.new m1)).trans (Same.new m2)).trans (Same.new m3)).trans (Same.new m4)).trans (Same.new m5)).trans (Same.new m6)).trans (Same.new m7)).trans (Same.new ht)
    · walk_at "go"
      intro t ht
      walk_at "go"
      have s2 := Same.new (o := .tup [.int 1, .non]) ht
      exact q hle t a' cs' _ (k1.trans (KeepX.of s2)) (s2 x _ hx1) (s2 a' _ ha1) hl1 hw1 upd_same
  · walk_at "go"
    refine ⟨x, dx, a, cs, s, c, m, rfl, hx, ha, hz, hl, hs, hc, mk, fun hlt H1 s1 => ⟨_, rfl, fun y hy => Or.inl ⟨T.f_NoRoom_StowError, ?_⟩⟩, fun hle a' cs' H1 k1 hx1 ha1 hl1 hw1 => ?_⟩
    · have s2 := s1.put (o := ExcO y C_NoRoom none) (s1.free hy)
      have hy2 : upd H1 y (ExcO y C_NoRoom none) y = some (ExcO y C_NoRoom none) := upd_same
      generalize upd H1 y (ExcO y C_NoRoom none) = H2 at s2 hy2 ⊢
      walk_at "go"
      intro p1 m1
      walk_at "go"
      intro p2 m2
      walk_at "go"
      intro p3 m3
      walk_at "go"
      intro p4 m4
      walk_at "go"
      intro p5 m5
      walk_at "go"
      intro p6 m6
      walk_at "go"
      intro p7 m7
      walk_at "go"
      refine r_isiT (C := C_NoRoom) (od := none) (by walk_at "look") x1 i2 ?_
      walk_at "go"
      refine ⟨p7, _, rfl, Or.inl (SqL.of upd_same), rfl, rfl, ?_⟩
      walk_at "go"
      intro t ht
      walk_at "go"
      refine qe hlt t _ ?_ upd_same
      exact (((((((s2.trans (Same.new m1)).trans (Same.new m2)).trans (Same.new m3)).trans (Same.new m4)).trans (Same.new m5)).trans (Same.new m6)).trans (Same.new m7)).trans (Same.new ht)
    · walk_at "go"
      intro t ht
      walk_at "go"
      have s2 := Same.new (o := .tup [.int 1, .non]) ht
      exact q hle t a' cs' _ (k1.trans (KeepX.of s2)) (s2 x _ hx1) (s2 a' _ ha1) hl1 hw1 upd_same
theorem seq_at {K : PySem.W.Frag} {H H' : Hp} {a : Addr} {xs : List V} (h : SqL K H a xs) (k : ∀ o, H a = some o → H' a = some o) : SqL K H' a xs := by
  rcases h with h | h
  · rcases h with h | ⟨o, h⟩
    · exact .inl (.inl (k _ h))
    · exact .inl (.inr ⟨o, k _ h⟩)
  · exact .inr h
/-- the law's list of whole shelves -/
def WhW (H1 : Hp) (s : Int) (D : Addr) (i : Nat) (ys : List V) (H2 : Hp) : Prop := Same H1 H2 ∧ H2 D = some (.lst ys) ∧ H1 D = none ∧ PcsAt H2 ys (shelvesF s 0 i) ∧ ys.length ≤ i
/-- the law's list of slots -/
def dueF (k : Int) (n : Nat) : List Pc := (List.range n).map fun j : Nat => (⟨k * (j : Int), k, decide ((j : Int) = 0)⟩ : Pc)
theorem dueF_snoc (k : Int) (n : Nat) : dueF k (n + 1) = dueF k n ++ [⟨k * (n : Int), k, decide ((n : Int) = 0)⟩] := by
  unfold dueF
  rw [List.range_succ, List.map_append]
  rfl
theorem dueF_len (k : Int) (n : Nat) : (dueF k n).length = n := by unfold dueF; simp
theorem dueF_cons (k : Int) : ∀ n : Nat, dueF k (n + 1) = ⟨0, k, true⟩ :: shelvesF k 1 n
  | 0 => by
    rw [dueF_snoc]
    show [(⟨k * ((0 : Nat) : Int), k, decide (((0 : Nat) : Int) = 0)⟩ : Pc)] = [⟨0, k, true⟩]
    simp
  | n + 1 => by
    rw [dueF_snoc, dueF_cons k n, shelvesF_snoc, List.cons_append, Nat.add_comm 1 n, show decide (((n + 1 : Nat) : Int) = 0) = false from decide_eq_false (by omega)]
def DuW (H1 : Hp) (k : Int) (D : Addr) (i : Nat) (ys : List V) (H2 : Hp) : Prop := Same H1 H2 ∧ H2 D = some (.lst ys) ∧ PcsAt H2 ys (dueF k i)
theorem due_all {s k : Int} (h1 : 1 ≤ k) (h2 : k ≤ s) (m : Nat) : (dueF k (s / k).toNat ++ leftF s k) ++ shelvesF s 1 m = ⟨0, k, true⟩ :: tailF s k m := by
  obtain ⟨e, h3, h4, h5, h6⟩ := cut_num h1 h2
  unfold tailF
  obtain ⟨n, en⟩ : ∃ n, (s / k).toNat = n + 1 := ⟨(s / k).toNat - 1, by omega⟩
  rw [en, dueF_cons, Nat.add_sub_cancel]
  simp
theorem cutV_one (xs : List V) : cutV xs (some 1) none = xs.drop 1 := by
  unfold cutV
  have e := HT.sIx_nat xs.length 0 1
  have e1 : HT.sIx xs.length 0 (some 1) = min 1 xs.length := e
  rw [e1, HT.sIx_none]
  cases xs with
  | nil => rfl
  | cons y r =>
    rw [show min 1 (y :: r).length = 1 by rw [List.length_cons]; omega]
    exact List.take_of_length_le (by simp)
theorem pcs_tail {H : Hp} {us : List V} {z : Pc} {ps : List Pc} (h : PcsAt H us (z :: ps)) : PcsAt H (us.drop 1) ps := by
  refine ⟨by rw [List.length_drop, h.1]; simp, fun i y hy => ?_⟩
  obtain ⟨a, e1, e2⟩ := h.2 (i + 1) y (by simpa using hy)
  exact ⟨a, by rw [List.getElem?_drop, Nat.add_comm]; exact e1, e2⟩
theorem pcs_append {H : Hp} {us ws : List V} {ps qs : List Pc} (h : PcsAt H us ps) (g : PcsAt H ws qs) : PcsAt H (us ++ ws) (ps ++ qs) := by
  refine ⟨by rw [List.length_append, List.length_append, h.1, g.1], fun i y hy => ?_⟩
  by_cases hi : i < ps.length
  · rw [List.getElem?_append_left hi] at hy
    obtain ⟨b, e1, e2⟩ := h.2 i y hy
    exact ⟨b, by rw [List.getElem?_append_left (by rw [h.1]; exact hi)]; exact e1, e2⟩
  · rw [List.getElem?_append_right (by omega)] at hy
    obtain ⟨b, e1, e2⟩ := g.2 _ y hy
    exact ⟨b, by rw [List.getElem?_append_right (by rw [h.1]; omega), h.1]; exact e1, e2⟩
theorem not_badS {s : Int} (h : 1 ≤ s) (m : Nat) : ¬ badS (s * ((m + 1 : Nat) : Int)) s := by
  have h1 := Int.mul_le_mul_of_nonneg_left (show (1 : Int) ≤ ((m + 1 : Nat) : Int) by omega) (show 0 ≤ s by omega)
  rintro (h2 | h2 | ⟨_, h2⟩)
  · omega
  · omega
  · exact h2 (Int.mul_emod_right _ _)
theorem ok_law {P : Program} {w : World} {base : Heap} {K : PySem.W.Frag} {mg : Str → Option Value} {C_StowError C_NoName C_NoSize C_Broken C_NoGive C_NoHandle C_NoPiece C_NoCell C_NoAsk C_NoBound C_NoRoom C_BadLine C_NoLine C_NoTurn C_Keeper C_Shelves : Addr} {tk_LEAST_LIVE : Tok} {tk_MARKS : Tok} {f : Addr} {fd : FuncData} (F : Fun K "law" "law" s_law f fd) (T : Txt K mg C_StowError C_NoName C_NoSize C_Broken C_NoGive C_NoHandle C_NoPiece C_NoCell C_NoAsk C_NoBound C_NoRoom C_BadLine C_NoLine C_NoTurn C_Keeper C_Shelves tk_LEAST_LIVE tk_MARKS) (D_L_cell_at : Defx P w K mg base "_law_cell_at" 1 ["_law_script", "_law_k"] (spCell K)) (D_L_no_room_of : Defx P w K mg base "_law_no_room_of" 8 ["_law_size", "_law_shelf"] (spNoRoomS)) (D_Shelves : Makex P w K mg base "Shelves" C_Shelves 6 ["self", "size", "shelf"] [] (spMkS C_Shelves C_NoSize)) (D_pieces : Methx P w K mg base C_Shelves "pieces" 5 ["self"] [] (spPiecesK C_Shelves)) (D_L_alike : Defx P w K mg base "_law_alike" 2 ["_law_found", "_law_due"] (spAlike)) (D_L_asked : Defx P w K mg base "_law_asked" 8 ["_law_keeper", "_law_count", "_law_bare"] (spAsked C_Shelves)) (D_many : Methx P w K mg base C_Shelves "many" 7 ["self", "place"] [] (spMany C_Shelves)) (D_L_whole : Defx P w K mg base "_law_whole" 1 ["_law_found"] (spWhole)) (D_give : Methx P w K mg base C_Shelves "give" 8 ["self", "place"] [] (spGiveS C_Shelves)) : FnOk P w K mg base (CXe P w) 9 f fd ["_law_script"] (spLaw K) := by
  refine fun_okx F sc_law (fun vs H Q E h => by revert h; walk_at "len") (fun cdv A outer s H vs Q E hr h => ?_)
  refine ⟨_, PSs.nox (pss_cons (ps_set (i := 1) sc_law.nd rfl (Or.inr rfl) (pe_op op_add pe_int (pe_op op_mod (pe_defq D_L_cell_at hr (by rfl) (pa_cons (pv 0) (pa_cons pe_int pa_nil))) pe_int))) (pss_cons (ps_set (i := 2) sc_law.nd rfl (Or.inl rfl) (pe_op op_add pe_int (pe_op op_mod (pe_defq D_L_cell_at hr (by rfl) (pa_cons (pv 0) (pa_cons pe_int pa_nil))) pe_int))) (pss_cons (ps_set (i := 3) sc_law.nd rfl (Or.inl rfl) (pe_op op_sub pe_int (pe_op op_mod (pe_defq D_L_cell_at hr (by rfl) (pa_cons (pv 0) (pa_cons pe_int pa_nil))) (pe_op op_pow pe_int pe_int)))) (pss_cons (ps_if (PW.pt (pw_or (pt_not (pt_val (pe_defq D_L_no_room_of hr (by rfl) (pa_cons (pv 3) (pa_cons (pv 1) pa_nil))))) (pw_or1 (pt_not (pt_val (pe_defq D_L_no_room_of hr (by rfl) (pa_cons (pv 1) (pa_cons (pv 3) pa_nil)))))))) (pss_one (ps_ret pe_bl)) pss_nil) (pss_cons (ps_if (PW.pt (pw_and (pt_cmpR op_gt (pv 1) pe_int (nomark _)) (pw_and1 (pt_not (pt_val (pe_defq D_L_no_room_of hr (by rfl) (pa_cons (pe_op op_add (pe_op op_mul (pv 1) (pv 2)) pe_int) (pa_cons (pv 1) pa_nil)))))))) (pss_one (ps_ret pe_bl)) pss_nil) (pss_cons (ps_set (i := 4) sc_law.nd rfl (Or.inl rfl) (pe_op op_add pe_int (pe_op op_mod (pe_defq D_L_cell_at hr (by rfl) (pa_cons (pv 0) (pa_cons pe_int pa_nil))) (pe_op op_add (pv 1) pe_int)))) (pss_cons (ps_if (pt_cmpR op_eq (pe_op op_mod (pe_defq D_L_cell_at hr (by rfl) (pa_cons (pv 0) (pa_cons pe_int pa_nil))) pe_int) pe_int (nomark _)) (pss_one (ps_set (i := 4) sc_law.nd rfl (Or.inl rfl) (pe_op op_add pe_int (pe_op op_mod (pe_defq D_L_cell_at hr (by rfl) (pa_cons (pv 0) (pa_cons pe_int pa_nil))) (pe_op op_pow pe_int pe_int))))) pss_nil) (pss_cons (ps_set (i := 5) sc_law.nd rfl (Or.inl rfl) (pe_makep D_Shelves pass_e0 hr (by rfl) (pa_cons (pe_op op_mul (pv 1) (pv 2)) (pa_cons (pv 1) pa_nil)))) (pss_cons (ps_setCompG (i := 6) ["_law_number"] ["_law_shelf"] [1] sc_law.nd rfl (Or.inl rfl) rfl (pi_range1 (by rfl) T.n_range (pa_cons (pv 2) pa_nil)) (fun cl C s₀ H₀ ex => (pg_name (i := 0) (show ((["_law_number"] : List Str) ++ (["_law_shelf"] : List Str)).Nodup by decide +kernel) rfl (Or.inl rfl))) (fun cl C s₀ H₀ ex => pts_nil) (fun cl C s₀ H₀ ex => (pe_tup (pa_cons (pe_op op_mul (pv 1) (pv 0)) (pa_cons (pv 1) (pa_cons pe_bl pa_nil))))) (caught_one rfl rfl rfl) (free_one (n := "_law_shelf") (by decide +kernel) rfl) (fun y h => relabel_free (by decide +kernel) h)) (pss_cons (ps_if (pt_not (pt_val (pe_defq D_L_alike hr (by rfl) (pa_cons (pe_methp0 D_pieces pass_e0 hr (pv 5)) (pa_cons (pv 6) pa_nil))))) (pss_one (ps_ret pe_bl)) pss_nil) (pss_cons (ps_asg (pe_defq D_L_asked hr (by rfl) (pa_cons (pv 5) (pa_cons (pv 4) (pa_cons (pe_cmpR op_eq (pe_op op_mod (pe_defq D_L_cell_at hr (by rfl) (pa_cons (pv 0) (pa_cons pe_int pa_nil))) pe_int) pe_int (nomark _)) pa_nil)))) (pg_tup rfl (pgs_cons (pg_name (i := 7) sc_law.nd rfl (Or.inl rfl)) (pgs_cons (pg_name (i := 8) sc_law.nd rfl (Or.inl rfl)) pgs_nil)))) (pss_cons (ps_set (i := 9) sc_law.nd rfl (Or.inr rfl) (pe_op op_add (pv 4) pe_int)) (pss_cons (ps_if (pt_cmpR op_gt (pv 9) (pv 1) (nomark _)) (pss_one (ps_ret (pe_and (pe_cmpR op_isB (pv 8) pe_bl (nomark _)) (pe_one (pe_defq D_L_alike hr (by rfl) (pa_cons (pe_methp0 D_pieces pass_e0 hr (pv 5)) (pa_cons (pv 6) pa_nil))))))) pss_nil) (pss_cons (ps_setCompG (i := 10) ["_law_slot"] ["_law_need"] [9] sc_law.nd rfl (Or.inl rfl) rfl (pi_range1 (by rfl) T.n_range (pa_cons (pe_op op_fdiv (pv 1) (pv 9)) pa_nil)) (fun cl C s₀ H₀ ex => (pg_name (i := 0) (show ((["_law_slot"] : List Str) ++ (["_law_need"] : List Str)).Nodup by decide +kernel) rfl (Or.inl rfl))) (fun cl C s₀ H₀ ex => pts_nil) (fun cl C s₀ H₀ ex => (pe_tup (pa_cons (pe_op op_mul (pv 1) (pv 0)) (pa_cons (pv 1) (pa_cons (pe_cmpR op_eq (pv 0) pe_int (nomark _)) pa_nil))))) (caught_one rfl rfl rfl) (free_one (n := "_law_need") (by decide +kernel) rfl) (fun y h => relabel_free (by decide +kernel) h)) (pss_cons (ps_if (pt_cmpR op_gt (pe_op op_mod (pv 1) (pv 9)) pe_int (nomark _)) (pss_one (ps_expr (pe_bm PySem.F.plainAttrs_list PySem.F.slot_list_append PySem.F.type_list_append mt_append (pv 10) (pa_cons (pe_tup (pa_cons (pe_op op_sub (pv 1) (pe_op op_mod (pv 1) (pv 9))) (pa_cons (pe_op op_mod (pv 1) (pv 9)) (pa_cons pe_bl pa_nil)))) pa_nil)))) pss_nil) (pss_cons (ps_if (PW.pt (pw_or (pt_cmpR op_notN (pv 8) pe_non (nomark _)) (pw_or (pt_not (pt_val (pe_defq D_L_whole hr (by rfl) (pa_cons (pv 7) pa_nil)))) (pw_or1 (pt_cmpR op_ne (pv 7) pe_int (nomark _)))))) (pss_one (ps_ret pe_bl)) pss_nil) (pss_cons (ps_if (pt_not (pt_val (pe_defq D_L_alike hr (by rfl) (pa_cons (pe_methp0 D_pieces pass_e0 hr (pv 5)) (pa_cons (pe_op op_cat (pv 10) (pe_slice sl_list (pv 6) (po_some pe_int) po_none)) pa_nil))))) (pss_one (ps_ret pe_bl)) pss_nil) (pss_cons (ps_set (i := 11) sc_law.nd rfl (Or.inl rfl) (pe_methp D_many pass_e0 hr (pv 5) (pa_cons pe_int pa_nil))) (pss_one (ps_ret (pe_and (pe_defq D_L_whole hr (by rfl) (pa_cons (pv 11) pa_nil)) (pe_and (pe_cmpR op_eq (pv 11) (pv 4) (nomark _)) (pe_and (pe_cmpR op_isN (pe_methp D_give pass_e0 hr (pv 5) (pa_cons pe_int pa_nil)) pe_non (nomark _)) (pe_one (pe_defq D_L_alike hr (by rfl) (pa_cons (pe_methp0 D_pieces pass_e0 hr (pv 5)) (pa_cons (pv 6) pa_nil))))))))))))))))))))))))))), ?_⟩
  obtain ⟨sc, ns, rfl, hS, hlen, kk⟩ := h
  walk_at "g1"
  obtain ⟨s, es, s1, s40⟩ : ∃ s : Int, 1 + ns.getD (0 : Int).toNat 0 % 40 = s ∧ 1 ≤ s ∧ s ≤ 40 := ⟨_, rfl, by omega, by omega⟩
  rw [es]
  walk_at "g1"
  obtain ⟨m, em, m5⟩ : ∃ m : Nat, 1 + ns.getD (1 : Int).toNat 0 % 6 = ((m + 1 : Nat) : Int) ∧ m ≤ 5 := ⟨(ns.getD (1 : Int).toNat 0 % 6).toNat, by omega, by omega⟩
  rw [em]
  have pm : 1 ≤ s * ((m + 1 : Nat) : Int) ∧ s * ((m + 1 : Nat) : Int) ≤ 240 := by
    have h1 := Int.mul_le_mul_of_nonneg_left (show (1 : Int) ≤ ((m + 1 : Nat) : Int) by omega) (show 0 ≤ s by omega)
    have h2 := Int.mul_le_mul_of_nonneg_left (show ((m + 1 : Nat) : Int) ≤ 6 by omega) (show 0 ≤ s by omega)
    omega
  obtain ⟨pm1, pm2⟩ := pm
  have l0 := Int.emod_nonneg (ns.getD (1 : Int).toNat 0) (show (10 ^ (60 : Int).toNat : Int) ≠ 0 by decide)
  walk_at "go"
  refine ⟨_, s, rfl, by omega, by omega, Or.inl (by omega), fun H1 s1' => ?_⟩
  have hS1 := s1'.seq hS
  walk_at "go"
  refine ⟨s, _, rfl, by omega, by omega, Or.inr (Or.inl (by omega)), fun H2 s2 => ?_⟩
  have hS2 := s2.seq hS1
  walk_at "gs"
  generalize 0 - ns.getD (1 : Int).toNat 0 % 10 ^ (60 : Int).toNat = low
  clear l0
  refine r_seqM (M := fun σ' H' => Same H2 H' ∧ σ' = [some (.ref sc), some (.int s), some (.int ((m + 1 : Nat) : Int)), some (.int low), none, none, none, none, none, none, none, none]) ?_ (fun nx hM => ?_)
  rotate_left
  · walk_at "go"
    refine r_ifd (fun h1 => ?_) (fun h1 => ?_)
    · walk_at "go"
      refine ⟨_, s, rfl, by omega, by omega, Or.inr (Or.inr ⟨by omega, ?_⟩), fun H3 s3 => ?_⟩
      · rw [Int.mul_add_emod_self_left, Int.emod_eq_of_lt (by omega) (by omega)]
        decide
      · walk_at "go"
        exact hM _ _ ⟨s3, rfl⟩
    · walk_at "go"
      exact hM _ _ ⟨Same.refl _, rfl⟩
  rintro σ' H3 ⟨s3, rfl⟩
  have hS3 := s3.seq hS2
  clear hS hS1 hS2 s1' s2 s3
  have c0 := Int.emod_nonneg (ns.getD (2 : Int).toNat 0) (show s + 1 ≠ 0 by omega)
  have d0 := Int.emod_nonneg (ns.getD (2 : Int).toNat 0) (show (10 ^ (60 : Int).toNat : Int) ≠ 0 by decide)
  walk_at "gs"
  refine r_seqM (M := fun σ' H' => H3 = H' ∧ ∃ C : Int, 1 ≤ C ∧ σ' = [some (.ref sc), some (.int s), some (.int ((m + 1 : Nat) : Int)), some (.int low), some (.int C), none, none, none, none, none, none, none]) ?_ (fun nx hM => ?_)
  rotate_left
  · walk_at "go"
    refine r_ifd (fun _ => ?_) (fun _ => ?_)
    · walk_at "go"
      exact hM _ _ ⟨rfl, _, by omega, rfl⟩
    · walk_at "go"
      exact hM _ _ ⟨rfl, _, by omega, rfl⟩
  rintro σ' H' ⟨rfl, C, C1, rfl⟩
  clear c0 d0
  walk_at "go"
  intro x dx nx ndx nex
  have s4 : Same H3 (upd (upd H3 dx (.own x)) x (.ins C_Shelves dx [])) := (Same.new ndx).put nx
  have hx4 : upd (upd H3 dx (.own x)) x (.ins C_Shelves dx []) x = some (.ins C_Shelves dx []) := upd_same
  have hsx : ∀ o, H3 sc = some o → sc ≠ x := fun o h => ne_of_none h nx
  generalize upd (upd H3 dx (.own x)) x (.ins C_Shelves dx []) = H4 at s4 hx4 ⊢
  refine ⟨x, dx, _, s, rfl, hx4, by omega, by omega, (fun z => absurd z (not_badS s1 m)), fun m' _ _ em' a H5 k5 hx5 ha5 => ⟨rfl, ?_⟩⟩
  have emm : m' = m + 1 := by
    have := Int.eq_of_mul_eq_mul_left (show s ≠ 0 by omega) em'
    omega
  subst emm
  have hS5 : SqL K H5 sc (ns.map V.int) := seq_at hS3 fun o h => k5 sc o (hsx o h) (s4 sc o h)
  have fl := rep1_len s1 (m + 1)
  have fw := rep1_walk s1 (m + 1)
  have mk5 : Marks (rep1 s (m + 1)) (shelvesF s 0 (m + 1)) := (rep_marks s1 (freshI_len (by omega)) (fresh_one s1) (m + 1)).1
  generalize rep1 s (m + 1) = cs at ha5 fl fw mk5
  clear k5 s4 hS3 hx4 nex ndx nx em'
  walk_at "go"
  refine ⟨_, rfl, by omega, by omega, compH_range (fs := [some (.int s)]) (WhW H5 s) (fun D hD => ⟨Same.new hD, upd_same, hD, PcsAt.nil, Nat.le_refl _⟩) ?_ ?_⟩
  · rintro D i ys H2 hD hi ⟨s2, hD2, _, pa, hyl⟩ τ hτ
    rw [Int.zero_add]
    match τ, hτ with
    | [τ0], _ =>
      walk_at "go"
      refine ⟨⟨[_], rfl, rfl⟩, ?_⟩
      walk_at "go"
      intro t ht
      obtain ⟨g1, g2⟩ := PcsAt.push (z := ⟨s * (i : Int), s, false⟩) pa hD2 ht
      refine ⟨look_put ht hD2, small4000 (by omega), nx_mk hi ⟨(s2.put (s2.free ht)).put hD, upd_same, hD, ?_, by rw [List.length_append, List.length_singleton]; omega⟩⟩
      rw [shelvesF_snoc, Nat.zero_add]
      exact g2
  rintro D ys H6 hD ⟨s6, hD6, _, pd, hyl⟩
  rw [show (((m + 1 : Nat) : Int)).toNat = m + 1 by omega] at pd hyl
  have hx6 := s6 x _ hx5
  have ha6 := s6 a _ ha5
  have hS6 := s6.seq hS5
  have hDx : D ≠ x := fun z => by rw [z, hx6] at hD6; cases hD6
  clear s6 hx5 ha5 hS5 hD
  walk_at "go"
  refine ⟨s, x, dx, a, cs, _, rfl, hx6, ha6, by omega, fw, fun lp us H7 nlp s7 hlp pa => ?_⟩
  have hx7 := s7 x _ hx6
  have ha7 := s7 a _ ha6
  have hS7 := s7.seq hS6
  have hD7 := s7 D _ hD6
  have pd7 := pd.same s7
  clear hx6 ha6 hS6 hD6 pd s7 nlp
  walk_at "go"
  refine ⟨lp, D, us, ys, _, rfl, hlp, hD7, pa, pd7, ?_⟩
  clear hlp pa
  walk_at "go"
  refine ⟨x, dx, a, cs, s, C, m, _, rfl, hx7, ha7, by omega, fl, s1, C1, mk5, fun hlt t H8 s8 ht => ?_, fun hle t a' cs' H8 k8 hx8 ha8 hl8 mk8 ht => ?_⟩
  · have hx8 := s8 x _ hx7
    have ha8 := s8 a _ ha7
    have hD8 := s8 D _ hD7
    have pd8 := pd7.same s8
    walk_at "go"
    rw [show (true == true) = true from rfl]
    refine iteT ?_
    walk_at "go"
    refine ⟨s, x, dx, a, cs, _, rfl, hx8, ha8, by omega, fw, fun lp us H9 nlp s9 hlp pa => ?_⟩
    walk_at "go"
    refine ⟨lp, D, us, ys, _, rfl, hlp, s9 D _ hD8, pa, pd8.same s9, ?_⟩
    walk_at "go"
    exact kk _
  · have hD8 := k8 D _ hDx hD7
    have pd8 : PcsAt H8 ys (shelvesF s 0 (m + 1)) := pd7.mono fun b xs h => k8 b _ (fun z => by rw [z, hx7] at h; cases h) h
    have ch8 := head_chain (v := true) (show 1 ≤ C + 2 by omega) hle (fun _ => by omega) m
    have ch8' : Chain 0 (⟨0, C + 2, true⟩ :: tailF s (C + 2) m) cs'.length := by rw [hl8, fl]; exact ch8
    have fw8 := walk_of_marks ch8' mk8
    have hz8 : cs'.length ≤ 4000 := by omega
    have hda := due_all (show 1 ≤ C + 2 by omega) hle m
    obtain ⟨ecn, h3, h4, h5, h6⟩ := cut_num (show 1 ≤ C + 2 by omega) hle
    have hq0 : 0 ≤ s / (C + 2) := Int.ediv_nonneg (by omega) (by omega)
    have hq1 : s / (C + 2) ≤ s := Int.ediv_le_self _ (by omega)
    clear k8 hD7 pd7 hx7 ha7 hS7
    walk_at "go"
    refine ⟨_, rfl, by omega, by omega, compH_range (fs := [some (.int (C + 2))]) (DuW H8 (C + 2)) (fun D hD => ⟨Same.new hD, upd_same, PcsAt.nil⟩) ?_ ?_⟩
    · rintro D i ys H2 hD hi ⟨s2, hD2, pa⟩ τ hτ
      rw [Int.zero_add]
      have hyl := pa.1
      rw [dueF_len] at hyl
      match τ, hτ with
      | [τ0], _ =>
        walk_at "go"
        refine ⟨⟨[_], rfl, rfl⟩, ?_⟩
        walk_at "go"
        intro t ht
        obtain ⟨g1, g2⟩ := PcsAt.push (z := ⟨(C + 2) * (i : Int), C + 2, decide ((i : Int) = 0)⟩) pa hD2 ht
        refine ⟨look_put ht hD2, small4000 (by omega), nx_mk hi ⟨(s2.put (s2.free ht)).put hD, upd_same, ?_⟩⟩
        rw [dueF_snoc]
        exact g2
    rintro E zs H9 hE ⟨s9, hE9, pe⟩
    have hx9 := s9 x _ hx8
    have ha9 := s9 a' _ ha8
    have hD9 := s9 D _ hD8
    have pd9 := pd8.same s9
    have hED : D ≠ E := ne_of_none hD8 hE
    have hEx : x ≠ E := ne_of_none hx8 hE
    have hEa : a' ≠ E := ne_of_none ha8 hE
    have hzl := pe.1
    rw [dueF_len] at hzl
    clear s9 hx8 ha8 hD8 pd8
    walk_at "gs"
    refine r_seqM (M := fun σ' H' => ∃ zs, H' E = some (.lst zs) ∧ PcsAt H' zs (dueF (C + 2) (s / (C + 2)).toNat ++ leftF s (C + 2)) ∧ zs.length ≤ 100 ∧ H' x = some (.ins C_Shelves dx [("room_cells", .ref a'), ("shelf", .int s)]) ∧ H' a' = some (.lst (cs'.map V.int)) ∧ H' D = some (.lst ys) ∧ PcsAt H' ys (shelvesF s 0 (m + 1)) ∧
      σ' = [some (.ref sc), some (.int s), some (.int ((m + 1 : Nat) : Int)), some (.int low), some (.int C), some (.ref x), some (.ref D), some (.int 1), some .non, some (.int (C + 2)), some (.ref E), none]) ?_ (fun nx hM => ?_)
    rotate_left
    · walk_at "go"
      refine r_ifd (fun h0 => ?_) (fun h0 => ?_)
      · walk_at "go"
        intro t2 ht2
        walk_at "go"
        obtain ⟨g1, g2⟩ := PcsAt.push (z := ⟨s - s % (C + 2), s % (C + 2), false⟩) pe hE9 ht2
        refine hM _ _ ⟨zs ++ [.ref t2], upd_same, ?_, by rw [List.length_append, List.length_singleton]; omega, look_ne hEx (look_put ht2 hx9), look_ne hEa (look_put ht2 ha9), look_ne hED (look_put ht2 hD9), pd9.mono (fun b xs h => keepT (.inr ⟨_, look_put ht2 hE9⟩) b xs (keepT (.inl ht2) b xs h)), rfl⟩
        unfold leftF
        rw [if_neg (by omega)]
        exact g2
      · walk_at "go"
        refine hM _ _ ⟨zs, hE9, ?_, by omega, hx9, ha9, hD9, pd9, rfl⟩
        unfold leftF
        rw [if_pos (by omega), List.append_nil]
        exact pe
    clear hE9 pe hx9 ha9 hD9 pd9 hzl
    rintro σ' H10 ⟨zs, hE10, pe, hzl, hx10, ha10, hD10, pd10, rfl⟩
    walk_at "go"
    refine ⟨s, x, dx, a', cs', _, rfl, hx10, ha10, hz8, fw8, fun lp us H11 nlp s11 hlp pa => ?_⟩
    have hx11 := s11 x _ hx10
    have ha11 := s11 a' _ ha10
    have hD11 := s11 D _ hD10
    have hE11 := s11 E _ hE10
    have pd11 := pd10.same s11
    have pe11 := pe.same s11
    walk_at "go"
    intro w hw
    have s12 := Same.new (o := .lst (cutV ys (some 1) none)) hw
    have hw12 : upd H11 w (.lst (cutV ys (some 1) none)) w = some (.lst (ys.drop 1)) := by rw [upd_same, cutV_one]
    generalize upd H11 w (.lst (cutV ys (some 1) none)) = H12 at s12 hw12 ⊢
    have hx12 := s12 x _ hx11
    have ha12 := s12 a' _ ha11
    have hD12 := s12 D _ hD11
    have pd12 := pd11.same s12
    refine r_cat (s12 E _ hE11) hw12 (Nat.le_of_lt (small1000 (by rw [List.length_drop]; omega))) (fun o ho => ?_)
    have s13 := Same.new (o := .lst (zs ++ ys.drop 1)) ho
    have ho13 : upd H12 o (.lst (zs ++ ys.drop 1)) o = some (.lst (zs ++ ys.drop 1)) := upd_same
    generalize upd H12 o (.lst (zs ++ ys.drop 1)) = H13 at s13 ho13 ⊢
    have pd13 := pd12.same s13
    have po : PcsAt H13 (zs ++ ys.drop 1) (⟨0, C + 2, true⟩ :: tailF s (C + 2) m) := by
      rw [← hda]
      have pd14 := pd13
      rw [shelvesF_cons] at pd14
      exact pcs_append ((pe11.same s12).same s13) (pcs_tail pd14)
    have hx13 := s13 x _ hx12
    have ha13 := s13 a' _ ha12
    have hD13 := s13 D _ hD12
    walk_at "go"
    refine ⟨lp, o, us, _, _, rfl, s13 lp _ (s12 lp _ hlp), ho13, (pa.same s12).same s13, po, ?_⟩
    clear hx10 ha10 hD10 pd10 hx11 ha11 hD11 pd11 hx12 ha12 hD12 pd12 pe pe11 s11 s12 s13 pa hlp
    walk_at "go"
    refine ⟨s, x, dx, a', cs', _, ⟨0, C + 2, true⟩, rfl, hx13, ha13, hz8, fw8, ch8', List.mem_cons_self, rfl, fun H14 s14 => ?_⟩
    have hx14 := s14 x _ hx13
    have ha14 := s14 a' _ ha13
    have hD14 := s14 D _ hD13
    have pd14 := pd13.same s14
    walk_at "go"
    refine r_ifdT (show C + 2 - 2 = C by omega) ?_
    walk_at "go"
    refine ⟨x, dx, a', cs', s, C + 2, m, rfl, hx14, ha14, hz8, by rw [hl8]; exact fl, s1, by omega, hle, mk8, fun a2 cs2 H15 k15 hx15 ha15 hl15 mk15 => ?_⟩
    have hD15 := k15 D _ hDx hD14
    have pd15 : PcsAt H15 ys (shelvesF s 0 (m + 1)) := pd14.mono fun b xs h => k15 b _ (fun z => by rw [z, hx14] at h; cases h) h
    have ch15 := shelvesF_chain (s := s) (by omega) (m + 1) 0
    rw [show s * ((0 : Nat) : Int) = 0 by simp, Nat.zero_add] at ch15
    have fw15 := walk_of_marks (cs := cs2) (by rw [hl15, hl8, fl]; exact ch15) mk15
    walk_at "go"
    refine ⟨s, x, dx, a2, cs2, _, rfl, hx15, ha15, by omega, fw15, fun lp us H16 nlp s16 hlp pa => ?_⟩
    walk_at "go"
    refine ⟨lp, D, us, ys, _, rfl, hlp, s16 D _ hD15, pa, pd15.same s16, ?_⟩
    walk_at "go"
    exact kk _
theorem all_mk {l : PySem.W.OpenLaw} {w : World} {K : PySem.W.Frag} {h : Heap} {mg : Str → Option Value} {fa : Addr} (X : K.In h) (G : h.Ns mainGlobals mg) (hfa : mg "law" = some (.ref fa))
    {f__wall : Addr} {oc__wall kV__wall dc__wall pm__wall cd__wall ct__wall : Value} {od__wall an__wall : Option Addr} {sl__wall : Array (Option Value)}
    (a__wall : PySem.W.nsIn K mainGlobals "_wall" = some (some (.ref f__wall)))
    (l__wall : K.lookup f__wall = some ⟨oc__wall, od__wall, .func (PySem.W.fnOf "_wall" "_wall" (defArgs s__wall) (defBody s__wall) (defScope s__wall) .none kV__wall dc__wall pm__wall an__wall cd__wall ct__wall), sl__wall⟩)
    (c__wall : PySem.W.codeIn K cd__wall "_wall" = true)
    (k__wall : PySem.W.keepIn K (.ref f__wall) = true)
    {f_check_ask : Addr} {oc_check_ask kV_check_ask dc_check_ask pm_check_ask cd_check_ask ct_check_ask : Value} {od_check_ask an_check_ask : Option Addr} {sl_check_ask : Array (Option Value)}
    (a_check_ask : PySem.W.nsIn K mainGlobals "check_ask" = some (some (.ref f_check_ask)))
    (l_check_ask : K.lookup f_check_ask = some ⟨oc_check_ask, od_check_ask, .func (PySem.W.fnOf "check_ask" "check_ask" (defArgs s_check_ask) (defBody s_check_ask) (defScope s_check_ask) .none kV_check_ask dc_check_ask pm_check_ask an_check_ask cd_check_ask ct_check_ask), sl_check_ask⟩)
    (c_check_ask : PySem.W.codeIn K cd_check_ask "check_ask" = true)
    (k_check_ask : PySem.W.keepIn K (.ref f_check_ask) = true)
    {f_check_plain_ask : Addr} {oc_check_plain_ask kV_check_plain_ask dc_check_plain_ask pm_check_plain_ask cd_check_plain_ask ct_check_plain_ask : Value} {od_check_plain_ask an_check_plain_ask : Option Addr} {sl_check_plain_ask : Array (Option Value)}
    (a_check_plain_ask : PySem.W.nsIn K mainGlobals "check_plain_ask" = some (some (.ref f_check_plain_ask)))
    (l_check_plain_ask : K.lookup f_check_plain_ask = some ⟨oc_check_plain_ask, od_check_plain_ask, .func (PySem.W.fnOf "check_plain_ask" "check_plain_ask" (defArgs s_check_plain_ask) (defBody s_check_plain_ask) (defScope s_check_plain_ask) .none kV_check_plain_ask dc_check_plain_ask pm_check_plain_ask an_check_plain_ask cd_check_plain_ask ct_check_plain_ask), sl_check_plain_ask⟩)
    (c_check_plain_ask : PySem.W.codeIn K cd_check_plain_ask "check_plain_ask" = true)
    (k_check_plain_ask : PySem.W.keepIn K (.ref f_check_plain_ask) = true)
    {f_mark_of : Addr} {oc_mark_of kV_mark_of dc_mark_of pm_mark_of cd_mark_of ct_mark_of : Value} {od_mark_of an_mark_of : Option Addr} {sl_mark_of : Array (Option Value)}
    (a_mark_of : PySem.W.nsIn K mainGlobals "mark_of" = some (some (.ref f_mark_of)))
    (l_mark_of : K.lookup f_mark_of = some ⟨oc_mark_of, od_mark_of, .func (PySem.W.fnOf "mark_of" "mark_of" (defArgs s_mark_of) (defBody s_mark_of) (defScope s_mark_of) .none kV_mark_of dc_mark_of pm_mark_of an_mark_of cd_mark_of ct_mark_of), sl_mark_of⟩)
    (c_mark_of : PySem.W.codeIn K cd_mark_of "mark_of" = true)
    (k_mark_of : PySem.W.keepIn K (.ref f_mark_of) = true)
    {f_long_of : Addr} {oc_long_of kV_long_of dc_long_of pm_long_of cd_long_of ct_long_of : Value} {od_long_of an_long_of : Option Addr} {sl_long_of : Array (Option Value)}
    (a_long_of : PySem.W.nsIn K mainGlobals "long_of" = some (some (.ref f_long_of)))
    (l_long_of : K.lookup f_long_of = some ⟨oc_long_of, od_long_of, .func (PySem.W.fnOf "long_of" "long_of" (defArgs s_long_of) (defBody s_long_of) (defScope s_long_of) .none kV_long_of dc_long_of pm_long_of an_long_of cd_long_of ct_long_of), sl_long_of⟩)
    (c_long_of : PySem.W.codeIn K cd_long_of "long_of" = true)
    (k_long_of : PySem.W.keepIn K (.ref f_long_of) = true)
    {f_live_of : Addr} {oc_live_of kV_live_of dc_live_of pm_live_of cd_live_of ct_live_of : Value} {od_live_of an_live_of : Option Addr} {sl_live_of : Array (Option Value)}
    (a_live_of : PySem.W.nsIn K mainGlobals "live_of" = some (some (.ref f_live_of)))
    (l_live_of : K.lookup f_live_of = some ⟨oc_live_of, od_live_of, .func (PySem.W.fnOf "live_of" "live_of" (defArgs s_live_of) (defBody s_live_of) (defScope s_live_of) .none kV_live_of dc_live_of pm_live_of an_live_of cd_live_of ct_live_of), sl_live_of⟩)
    (c_live_of : PySem.W.codeIn K cd_live_of "live_of" = true)
    (k_live_of : PySem.W.keepIn K (.ref f_live_of) = true)
    {f_can_begin : Addr} {oc_can_begin kV_can_begin dc_can_begin pm_can_begin cd_can_begin ct_can_begin : Value} {od_can_begin an_can_begin : Option Addr} {sl_can_begin : Array (Option Value)}
    (a_can_begin : PySem.W.nsIn K mainGlobals "can_begin" = some (some (.ref f_can_begin)))
    (l_can_begin : K.lookup f_can_begin = some ⟨oc_can_begin, od_can_begin, .func (PySem.W.fnOf "can_begin" "can_begin" (defArgs s_can_begin) (defBody s_can_begin) (defScope s_can_begin) .none kV_can_begin dc_can_begin pm_can_begin an_can_begin cd_can_begin ct_can_begin), sl_can_begin⟩)
    (c_can_begin : PySem.W.codeIn K cd_can_begin "can_begin" = true)
    (k_can_begin : PySem.W.keepIn K (.ref f_can_begin) = true)
    {f_bad_of_piece : Addr} {oc_bad_of_piece kV_bad_of_piece dc_bad_of_piece pm_bad_of_piece cd_bad_of_piece ct_bad_of_piece : Value} {od_bad_of_piece an_bad_of_piece : Option Addr} {sl_bad_of_piece : Array (Option Value)}
    (a_bad_of_piece : PySem.W.nsIn K mainGlobals "bad_of_piece" = some (some (.ref f_bad_of_piece)))
    (l_bad_of_piece : K.lookup f_bad_of_piece = some ⟨oc_bad_of_piece, od_bad_of_piece, .func (PySem.W.fnOf "bad_of_piece" "bad_of_piece" (defArgs s_bad_of_piece) (defBody s_bad_of_piece) (defScope s_bad_of_piece) .none kV_bad_of_piece dc_bad_of_piece pm_bad_of_piece an_bad_of_piece cd_bad_of_piece ct_bad_of_piece), sl_bad_of_piece⟩)
    (c_bad_of_piece : PySem.W.codeIn K cd_bad_of_piece "bad_of_piece" = true)
    (k_bad_of_piece : PySem.W.keepIn K (.ref f_bad_of_piece) = true)
    {f_looked : Addr} {oc_looked kV_looked dc_looked pm_looked cd_looked ct_looked : Value} {od_looked an_looked : Option Addr} {sl_looked : Array (Option Value)}
    (a_looked : PySem.W.nsIn K mainGlobals "looked" = some (some (.ref f_looked)))
    (l_looked : K.lookup f_looked = some ⟨oc_looked, od_looked, .func (PySem.W.fnOf "looked" "looked" (defArgs s_looked) (defBody s_looked) (defScope s_looked) .none kV_looked dc_looked pm_looked an_looked cd_looked ct_looked), sl_looked⟩)
    (c_looked : PySem.W.codeIn K cd_looked "looked" = true)
    (k_looked : PySem.W.keepIn K (.ref f_looked) = true)
    {f_fresh_room : Addr} {oc_fresh_room kV_fresh_room dc_fresh_room pm_fresh_room cd_fresh_room ct_fresh_room : Value} {od_fresh_room an_fresh_room : Option Addr} {sl_fresh_room : Array (Option Value)}
    (a_fresh_room : PySem.W.nsIn K mainGlobals "fresh_room" = some (some (.ref f_fresh_room)))
    (l_fresh_room : K.lookup f_fresh_room = some ⟨oc_fresh_room, od_fresh_room, .func (PySem.W.fnOf "fresh_room" "fresh_room" (defArgs s_fresh_room) (defBody s_fresh_room) (defScope s_fresh_room) .none kV_fresh_room dc_fresh_room pm_fresh_room an_fresh_room cd_fresh_room ct_fresh_room), sl_fresh_room⟩)
    (c_fresh_room : PySem.W.codeIn K cd_fresh_room "fresh_room" = true)
    (k_fresh_room : PySem.W.keepIn K (.ref f_fresh_room) = true)
    {f_laid : Addr} {oc_laid kV_laid dc_laid pm_laid cd_laid ct_laid : Value} {od_laid an_laid : Option Addr} {sl_laid : Array (Option Value)}
    (a_laid : PySem.W.nsIn K mainGlobals "laid" = some (some (.ref f_laid)))
    (l_laid : K.lookup f_laid = some ⟨oc_laid, od_laid, .func (PySem.W.fnOf "laid" "laid" (defArgs s_laid) (defBody s_laid) (defScope s_laid) .none kV_laid dc_laid pm_laid an_laid cd_laid ct_laid), sl_laid⟩)
    (c_laid : PySem.W.codeIn K cd_laid "laid" = true)
    (k_laid : PySem.W.keepIn K (.ref f_laid) = true)
    {f_piece_at : Addr} {oc_piece_at kV_piece_at dc_piece_at pm_piece_at cd_piece_at ct_piece_at : Value} {od_piece_at an_piece_at : Option Addr} {sl_piece_at : Array (Option Value)}
    (a_piece_at : PySem.W.nsIn K mainGlobals "piece_at" = some (some (.ref f_piece_at)))
    (l_piece_at : K.lookup f_piece_at = some ⟨oc_piece_at, od_piece_at, .func (PySem.W.fnOf "piece_at" "piece_at" (defArgs s_piece_at) (defBody s_piece_at) (defScope s_piece_at) .none kV_piece_at dc_piece_at pm_piece_at an_piece_at cd_piece_at ct_piece_at), sl_piece_at⟩)
    (c_piece_at : PySem.W.codeIn K cd_piece_at "piece_at" = true)
    (k_piece_at : PySem.W.keepIn K (.ref f_piece_at) = true)
    {f_live_at : Addr} {oc_live_at kV_live_at dc_live_at pm_live_at cd_live_at ct_live_at : Value} {od_live_at an_live_at : Option Addr} {sl_live_at : Array (Option Value)}
    (a_live_at : PySem.W.nsIn K mainGlobals "live_at" = some (some (.ref f_live_at)))
    (l_live_at : K.lookup f_live_at = some ⟨oc_live_at, od_live_at, .func (PySem.W.fnOf "live_at" "live_at" (defArgs s_live_at) (defBody s_live_at) (defScope s_live_at) .none kV_live_at dc_live_at pm_live_at an_live_at cd_live_at ct_live_at), sl_live_at⟩)
    (c_live_at : PySem.W.codeIn K cd_live_at "live_at" = true)
    (k_live_at : PySem.W.keepIn K (.ref f_live_at) = true)
    {f_all_whole : Addr} {oc_all_whole kV_all_whole dc_all_whole pm_all_whole cd_all_whole ct_all_whole : Value} {od_all_whole an_all_whole : Option Addr} {sl_all_whole : Array (Option Value)}
    (a_all_whole : PySem.W.nsIn K mainGlobals "all_whole" = some (some (.ref f_all_whole)))
    (l_all_whole : K.lookup f_all_whole = some ⟨oc_all_whole, od_all_whole, .func (PySem.W.fnOf "all_whole" "all_whole" (defArgs s_all_whole) (defBody s_all_whole) (defScope s_all_whole) .none kV_all_whole dc_all_whole pm_all_whole an_all_whole cd_all_whole ct_all_whole), sl_all_whole⟩)
    (c_all_whole : PySem.W.codeIn K cd_all_whole "all_whole" = true)
    (k_all_whole : PySem.W.keepIn K (.ref f_all_whole) = true)
    {f_begin_of : Addr} {oc_begin_of kV_begin_of dc_begin_of pm_begin_of cd_begin_of ct_begin_of : Value} {od_begin_of an_begin_of : Option Addr} {sl_begin_of : Array (Option Value)}
    (a_begin_of : PySem.W.nsIn K mainGlobals "begin_of" = some (some (.ref f_begin_of)))
    (l_begin_of : K.lookup f_begin_of = some ⟨oc_begin_of, od_begin_of, .func (PySem.W.fnOf "begin_of" "begin_of" (defArgs s_begin_of) (defBody s_begin_of) (defScope s_begin_of) .none kV_begin_of dc_begin_of pm_begin_of an_begin_of cd_begin_of ct_begin_of), sl_begin_of⟩)
    (c_begin_of : PySem.W.codeIn K cd_begin_of "begin_of" = true)
    (k_begin_of : PySem.W.keepIn K (.ref f_begin_of) = true)
    {f_whole_ones : Addr} {oc_whole_ones kV_whole_ones dc_whole_ones pm_whole_ones cd_whole_ones ct_whole_ones : Value} {od_whole_ones an_whole_ones : Option Addr} {sl_whole_ones : Array (Option Value)}
    (a_whole_ones : PySem.W.nsIn K mainGlobals "whole_ones" = some (some (.ref f_whole_ones)))
    (l_whole_ones : K.lookup f_whole_ones = some ⟨oc_whole_ones, od_whole_ones, .func (PySem.W.fnOf "whole_ones" "whole_ones" (defArgs s_whole_ones) (defBody s_whole_ones) (defScope s_whole_ones) .none kV_whole_ones dc_whole_ones pm_whole_ones an_whole_ones cd_whole_ones ct_whole_ones), sl_whole_ones⟩)
    (c_whole_ones : PySem.W.codeIn K cd_whole_ones "whole_ones" = true)
    (k_whole_ones : PySem.W.keepIn K (.ref f_whole_ones) = true)
    {f_free_slots : Addr} {oc_free_slots kV_free_slots dc_free_slots pm_free_slots cd_free_slots ct_free_slots : Value} {od_free_slots an_free_slots : Option Addr} {sl_free_slots : Array (Option Value)}
    (a_free_slots : PySem.W.nsIn K mainGlobals "free_slots" = some (some (.ref f_free_slots)))
    (l_free_slots : K.lookup f_free_slots = some ⟨oc_free_slots, od_free_slots, .func (PySem.W.fnOf "free_slots" "free_slots" (defArgs s_free_slots) (defBody s_free_slots) (defScope s_free_slots) .none kV_free_slots dc_free_slots pm_free_slots an_free_slots cd_free_slots ct_free_slots), sl_free_slots⟩)
    (c_free_slots : PySem.W.codeIn K cd_free_slots "free_slots" = true)
    (k_free_slots : PySem.W.keepIn K (.ref f_free_slots) = true)
    {f_cut_for : Addr} {oc_cut_for kV_cut_for dc_cut_for pm_cut_for cd_cut_for ct_cut_for : Value} {od_cut_for an_cut_for : Option Addr} {sl_cut_for : Array (Option Value)}
    (a_cut_for : PySem.W.nsIn K mainGlobals "cut_for" = some (some (.ref f_cut_for)))
    (l_cut_for : K.lookup f_cut_for = some ⟨oc_cut_for, od_cut_for, .func (PySem.W.fnOf "cut_for" "cut_for" (defArgs s_cut_for) (defBody s_cut_for) (defScope s_cut_for) .none kV_cut_for dc_cut_for pm_cut_for an_cut_for cd_cut_for ct_cut_for), sl_cut_for⟩)
    (c_cut_for : PySem.W.codeIn K cd_cut_for "cut_for" = true)
    (k_cut_for : PySem.W.keepIn K (.ref f_cut_for) = true)
    {f_with_slot : Addr} {oc_with_slot kV_with_slot dc_with_slot pm_with_slot cd_with_slot ct_with_slot : Value} {od_with_slot an_with_slot : Option Addr} {sl_with_slot : Array (Option Value)}
    (a_with_slot : PySem.W.nsIn K mainGlobals "with_slot" = some (some (.ref f_with_slot)))
    (l_with_slot : K.lookup f_with_slot = some ⟨oc_with_slot, od_with_slot, .func (PySem.W.fnOf "with_slot" "with_slot" (defArgs s_with_slot) (defBody s_with_slot) (defScope s_with_slot) .none kV_with_slot dc_with_slot pm_with_slot an_with_slot cd_with_slot ct_with_slot), sl_with_slot⟩)
    (c_with_slot : PySem.W.codeIn K cd_with_slot "with_slot" = true)
    (k_with_slot : PySem.W.keepIn K (.ref f_with_slot) = true)
    {f_has_live : Addr} {oc_has_live kV_has_live dc_has_live pm_has_live cd_has_live ct_has_live : Value} {od_has_live an_has_live : Option Addr} {sl_has_live : Array (Option Value)}
    (a_has_live : PySem.W.nsIn K mainGlobals "has_live" = some (some (.ref f_has_live)))
    (l_has_live : K.lookup f_has_live = some ⟨oc_has_live, od_has_live, .func (PySem.W.fnOf "has_live" "has_live" (defArgs s_has_live) (defBody s_has_live) (defScope s_has_live) .none kV_has_live dc_has_live pm_has_live an_has_live cd_has_live ct_has_live), sl_has_live⟩)
    (c_has_live : PySem.W.codeIn K cd_has_live "has_live" = true)
    (k_has_live : PySem.W.keepIn K (.ref f_has_live) = true)
    {f_L_cell_at : Addr} {oc_L_cell_at kV_L_cell_at dc_L_cell_at pm_L_cell_at cd_L_cell_at ct_L_cell_at : Value} {od_L_cell_at an_L_cell_at : Option Addr} {sl_L_cell_at : Array (Option Value)}
    (a_L_cell_at : PySem.W.nsIn K mainGlobals "_law_cell_at" = some (some (.ref f_L_cell_at)))
    (l_L_cell_at : K.lookup f_L_cell_at = some ⟨oc_L_cell_at, od_L_cell_at, .func (PySem.W.fnOf "_law_cell_at" "_law_cell_at" (defArgs s_L_cell_at) (defBody s_L_cell_at) (defScope s_L_cell_at) .none kV_L_cell_at dc_L_cell_at pm_L_cell_at an_L_cell_at cd_L_cell_at ct_L_cell_at), sl_L_cell_at⟩)
    (c_L_cell_at : PySem.W.codeIn K cd_L_cell_at "_law_cell_at" = true)
    (k_L_cell_at : PySem.W.keepIn K (.ref f_L_cell_at) = true)
    {f_L_whole : Addr} {oc_L_whole kV_L_whole dc_L_whole pm_L_whole cd_L_whole ct_L_whole : Value} {od_L_whole an_L_whole : Option Addr} {sl_L_whole : Array (Option Value)}
    (a_L_whole : PySem.W.nsIn K mainGlobals "_law_whole" = some (some (.ref f_L_whole)))
    (l_L_whole : K.lookup f_L_whole = some ⟨oc_L_whole, od_L_whole, .func (PySem.W.fnOf "_law_whole" "_law_whole" (defArgs s_L_whole) (defBody s_L_whole) (defScope s_L_whole) .none kV_L_whole dc_L_whole pm_L_whole an_L_whole cd_L_whole ct_L_whole), sl_L_whole⟩)
    (c_L_whole : PySem.W.codeIn K cd_L_whole "_law_whole" = true)
    (k_L_whole : PySem.W.keepIn K (.ref f_L_whole) = true)
    {f_L_alike : Addr} {oc_L_alike kV_L_alike dc_L_alike pm_L_alike cd_L_alike ct_L_alike : Value} {od_L_alike an_L_alike : Option Addr} {sl_L_alike : Array (Option Value)}
    (a_L_alike : PySem.W.nsIn K mainGlobals "_law_alike" = some (some (.ref f_L_alike)))
    (l_L_alike : K.lookup f_L_alike = some ⟨oc_L_alike, od_L_alike, .func (PySem.W.fnOf "_law_alike" "_law_alike" (defArgs s_L_alike) (defBody s_L_alike) (defScope s_L_alike) .none kV_L_alike dc_L_alike pm_L_alike an_L_alike cd_L_alike ct_L_alike), sl_L_alike⟩)
    (c_L_alike : PySem.W.codeIn K cd_L_alike "_law_alike" = true)
    (k_L_alike : PySem.W.keepIn K (.ref f_L_alike) = true)
    {f_L_asked : Addr} {oc_L_asked kV_L_asked dc_L_asked pm_L_asked cd_L_asked ct_L_asked : Value} {od_L_asked an_L_asked : Option Addr} {sl_L_asked : Array (Option Value)}
    (a_L_asked : PySem.W.nsIn K mainGlobals "_law_asked" = some (some (.ref f_L_asked)))
    (l_L_asked : K.lookup f_L_asked = some ⟨oc_L_asked, od_L_asked, .func (PySem.W.fnOf "_law_asked" "_law_asked" (defArgs s_L_asked) (defBody s_L_asked) (defScope s_L_asked) .none kV_L_asked dc_L_asked pm_L_asked an_L_asked cd_L_asked ct_L_asked), sl_L_asked⟩)
    (c_L_asked : PySem.W.codeIn K cd_L_asked "_law_asked" = true)
    (k_L_asked : PySem.W.keepIn K (.ref f_L_asked) = true)
    {f_L_no_room_of : Addr} {oc_L_no_room_of kV_L_no_room_of dc_L_no_room_of pm_L_no_room_of cd_L_no_room_of ct_L_no_room_of : Value} {od_L_no_room_of an_L_no_room_of : Option Addr} {sl_L_no_room_of : Array (Option Value)}
    (a_L_no_room_of : PySem.W.nsIn K mainGlobals "_law_no_room_of" = some (some (.ref f_L_no_room_of)))
    (l_L_no_room_of : K.lookup f_L_no_room_of = some ⟨oc_L_no_room_of, od_L_no_room_of, .func (PySem.W.fnOf "_law_no_room_of" "_law_no_room_of" (defArgs s_L_no_room_of) (defBody s_L_no_room_of) (defScope s_L_no_room_of) .none kV_L_no_room_of dc_L_no_room_of pm_L_no_room_of an_L_no_room_of cd_L_no_room_of ct_L_no_room_of), sl_L_no_room_of⟩)
    (c_L_no_room_of : PySem.W.codeIn K cd_L_no_room_of "_law_no_room_of" = true)
    (k_L_no_room_of : PySem.W.keepIn K (.ref f_L_no_room_of) = true)
    {f_law : Addr} {oc_law kV_law dc_law pm_law cd_law ct_law : Value} {od_law an_law : Option Addr} {sl_law : Array (Option Value)}
    (a_law : PySem.W.nsIn K mainGlobals "law" = some (some (.ref f_law)))
    (l_law : K.lookup f_law = some ⟨oc_law, od_law, .func (PySem.W.fnOf "law" "law" (defArgs s_law) (defBody s_law) (defScope s_law) .none kV_law dc_law pm_law an_law cd_law ct_law), sl_law⟩)
    (c_law : PySem.W.codeIn K cd_law "law" = true)
    (k_law : PySem.W.keepIn K (.ref f_law) = true)
    {tk_LEAST_LIVE : Tok}
    {tk_MARKS : Tok}
    {C_StowError C_NoName C_NoSize C_Broken C_NoGive C_NoHandle C_NoPiece C_NoCell C_NoAsk C_NoBound C_NoRoom C_BadLine C_NoLine C_NoTurn C_Keeper C_Shelves : Addr}
    (z_ValueError : PySem.W.nsIn K mainGlobals "ValueError" = some none)
    (z_any : PySem.W.nsIn K mainGlobals "any" = some none)
    (z_bool : PySem.W.nsIn K mainGlobals "bool" = some none)
    (z_int : PySem.W.nsIn K mainGlobals "int" = some none)
    (z_isinstance : PySem.W.nsIn K mainGlobals "isinstance" = some none)
    (z_len : PySem.W.nsIn K mainGlobals "len" = some none)
    (z_list : PySem.W.nsIn K mainGlobals "list" = some none)
    (z_min : PySem.W.nsIn K mainGlobals "min" = some none)
    (z_range : PySem.W.nsIn K mainGlobals "range" = some none)
    (z_tuple : PySem.W.nsIn K mainGlobals "tuple" = some none)
    (g_LEAST_LIVE : PySem.W.nsIn K mainGlobals "LEAST_LIVE" = some (some (.int 3 tk_LEAST_LIVE)))
    (g_MARKS : PySem.W.nsIn K mainGlobals "MARKS" = some (some (.int 2 tk_MARKS)))
    (cc_StowError : PySem.W.nsIn K mainGlobals "StowError" = some (some (.ref C_StowError)))
    (cc_NoName : PySem.W.nsIn K mainGlobals "NoName" = some (some (.ref C_NoName)))
    (cc_NoSize : PySem.W.nsIn K mainGlobals "NoSize" = some (some (.ref C_NoSize)))
    (cc_Broken : PySem.W.nsIn K mainGlobals "Broken" = some (some (.ref C_Broken)))
    (cc_NoGive : PySem.W.nsIn K mainGlobals "NoGive" = some (some (.ref C_NoGive)))
    (cc_NoHandle : PySem.W.nsIn K mainGlobals "NoHandle" = some (some (.ref C_NoHandle)))
    (cc_NoPiece : PySem.W.nsIn K mainGlobals "NoPiece" = some (some (.ref C_NoPiece)))
    (cc_NoCell : PySem.W.nsIn K mainGlobals "NoCell" = some (some (.ref C_NoCell)))
    (cc_NoAsk : PySem.W.nsIn K mainGlobals "NoAsk" = some (some (.ref C_NoAsk)))
    (cc_NoBound : PySem.W.nsIn K mainGlobals "NoBound" = some (some (.ref C_NoBound)))
    (cc_NoRoom : PySem.W.nsIn K mainGlobals "NoRoom" = some (some (.ref C_NoRoom)))
    (cc_BadLine : PySem.W.nsIn K mainGlobals "BadLine" = some (some (.ref C_BadLine)))
    (cc_NoLine : PySem.W.nsIn K mainGlobals "NoLine" = some (some (.ref C_NoLine)))
    (cc_NoTurn : PySem.W.nsIn K mainGlobals "NoTurn" = some (some (.ref C_NoTurn)))
    (cc_Keeper : PySem.W.nsIn K mainGlobals "Keeper" = some (some (.ref C_Keeper)))
    (cc_Shelves : PySem.W.nsIn K mainGlobals "Shelves" = some (some (.ref C_Shelves)))
    (s1_Broken : PySem.W.findIn K (.ref C_Broken) "__setattr__" = some (some (.builtin "object.__setattr__")))
    {cd_Broken : ClassData}
    (s2_Broken : PySem.W.clsIn K C_Broken = some cd_Broken)
    (s5_Broken : excTail cd_Broken.mro = true)
    (s6_Broken : cd_Broken.hasDict = true)
    (s3_Broken : PySem.W.mroIn K C_Broken (.type "object") = some true)
    (s4_Broken : PySem.W.findIn K (.ref C_Broken) "cell" = some none)
    (xx_NoSize : PySem.W.excIn K C_NoSize [.type "ValueError", .type "Exception", .type "BaseException", .type "object"] "ValueError.__new__" = true)
    (xx_NoPiece : PySem.W.excIn K C_NoPiece [.type "ValueError", .type "Exception", .type "BaseException", .type "object"] "ValueError.__new__" = true)
    (xx_NoRoom : PySem.W.excIn K C_NoRoom [.type "ValueError", .type "Exception", .type "BaseException", .type "object"] "ValueError.__new__" = true)
    (pg_Shelves : PySem.W.plainGet K C_Shelves Str.empty = true)
    (hd_Shelves : PySem.W.hasDictIn K C_Shelves = true)
    (po_Shelves : PySem.W.plainOver K C_Shelves = true)
    (sa_Shelves : PySem.W.findIn K (.ref C_Shelves) "__setattr__" = some (some (.builtin "object.__setattr__")))
    (na_Shelves_room_cells : PySem.W.findIn K (.ref C_Shelves) "room_cells" = some none)
    (na_Shelves_shelf : PySem.W.findIn K (.ref C_Shelves) "shelf" = some none)
    {nm_NoSize qn_NoSize : Str} {N_NoSize : Addr} {bs_NoSize bm_NoSize : List Value} {hd_NoSize : Bool} {sn_NoSize : List Str} {sub_NoSize : List Value} {ab_NoSize : Bool} {col_NoSize : Option Bool} {dd_NoSize : Option Addr} {k0_NoSize k1_NoSize k2_NoSize k3_NoSize k5_NoSize : Option Value} {ni_NoSize : String}
    (lc_NoSize : K.lookup C_NoSize = some (excClassObj nm_NoSize qn_NoSize C_NoSize N_NoSize bs_NoSize bm_NoSize hd_NoSize sn_NoSize sub_NoSize ab_NoSize col_NoSize dd_NoSize k0_NoSize k1_NoSize k2_NoSize k3_NoSize k5_NoSize ni_NoSize))
    {nm_StowError qn_StowError : Str} {N_StowError : Addr} {bs_StowError bm_StowError : List Value} {hd_StowError : Bool} {sn_StowError : List Str} {sub_StowError : List Value} {ab_StowError : Bool} {col_StowError : Option Bool} {dd_StowError : Option Addr} {k0_StowError k1_StowError k2_StowError k3_StowError k5_StowError : Option Value} {ni_StowError : String}
    (lc_StowError : K.lookup C_StowError = some (excClassObj nm_StowError qn_StowError C_StowError N_StowError bs_StowError bm_StowError hd_StowError sn_StowError sub_StowError ab_StowError col_StowError dd_StowError k0_StowError k1_StowError k2_StowError k3_StowError k5_StowError ni_StowError))
    (fb_StowError : (Value.ref C_StowError :: bm_StowError).contains (.type "BaseException") = true)
    (fm_NoSize_StowError : (Value.ref C_NoSize :: bm_NoSize).contains (.ref C_StowError) = true)
    {nm_NoRoom qn_NoRoom : Str} {N_NoRoom : Addr} {bs_NoRoom bm_NoRoom : List Value} {hd_NoRoom : Bool} {sn_NoRoom : List Str} {sub_NoRoom : List Value} {ab_NoRoom : Bool} {col_NoRoom : Option Bool} {dd_NoRoom : Option Addr} {k0_NoRoom k1_NoRoom k2_NoRoom k3_NoRoom k5_NoRoom : Option Value} {ni_NoRoom : String}
    (lc_NoRoom : K.lookup C_NoRoom = some (excClassObj nm_NoRoom qn_NoRoom C_NoRoom N_NoRoom bs_NoRoom bm_NoRoom hd_NoRoom sn_NoRoom sub_NoRoom ab_NoRoom col_NoRoom dd_NoRoom k0_NoRoom k1_NoRoom k2_NoRoom k3_NoRoom k5_NoRoom ni_NoRoom))
    (fm_NoRoom_StowError : (Value.ref C_NoRoom :: bm_NoRoom).contains (.ref C_StowError) = true)
    (g1_NoSize : PySem.W.findIn K (.ref C_NoSize) "__getattribute__" = some (some (.builtin "BaseException.__getattribute__")))
    (g2_NoSize : PySem.W.findIn K (.ref C_NoSize) "__getattr__" = some none)
    (g3_NoSize : PySem.W.findIn K (.ref C_NoSize) "__class__" = some (some (.builtin "object.__class__")))
    (g4_NoSize : PySem.W.mroIn K C_NoSize (.type "object") = some true)
    (g5_NoSize : PySem.W.mroIn K C_NoSize (.type "BaseException") = some true)
    (g1_NoRoom : PySem.W.findIn K (.ref C_NoRoom) "__getattribute__" = some (some (.builtin "BaseException.__getattribute__")))
    (g2_NoRoom : PySem.W.findIn K (.ref C_NoRoom) "__getattr__" = some none)
    (g3_NoRoom : PySem.W.findIn K (.ref C_NoRoom) "__class__" = some (some (.builtin "object.__class__")))
    (g4_NoRoom : PySem.W.mroIn K C_NoRoom (.type "object") = some true)
    (g5_NoRoom : PySem.W.mroIn K C_NoRoom (.type "BaseException") = some true)
    (i_NoSize_NoSize : PySem.W.kitOne K (.ref C_NoSize) (.ref C_NoSize) = some true)
    (i_NoSize_ValueError : PySem.W.kitOne K (.ref C_NoSize) (.type "ValueError") = some true)
    (i_NoSize_NoName : PySem.W.kitOne K (.ref C_NoSize) (.ref C_NoName) = some false)
    (i_NoRoom_NoRoom : PySem.W.kitOne K (.ref C_NoRoom) (.ref C_NoRoom) = some true)
    (i_NoRoom_ValueError : PySem.W.kitOne K (.ref C_NoRoom) (.type "ValueError") = some true)
    (i_NoRoom_NoAsk : PySem.W.kitOne K (.ref C_NoRoom) (.ref C_NoAsk) = some false)
    (i_NoRoom_NoBound : PySem.W.kitOne K (.ref C_NoRoom) (.ref C_NoBound) = some false)
    (i_NoRoom_NoCell : PySem.W.kitOne K (.ref C_NoRoom) (.ref C_NoCell) = some false)
    (i_NoRoom_NoGive : PySem.W.kitOne K (.ref C_NoRoom) (.ref C_NoGive) = some false)
    (i_NoRoom_NoHandle : PySem.W.kitOne K (.ref C_NoRoom) (.ref C_NoHandle) = some false)
    (i_NoRoom_NoName : PySem.W.kitOne K (.ref C_NoRoom) (.ref C_NoName) = some false)
    (i_NoRoom_NoPiece : PySem.W.kitOne K (.ref C_NoRoom) (.ref C_NoPiece) = some false)
    (i_NoRoom_NoSize : PySem.W.kitOne K (.ref C_NoRoom) (.ref C_NoSize) = some false)
    (i_NoRoom_Broken : PySem.W.kitOne K (.ref C_NoRoom) (.ref C_Broken) = some false)
    (i_NoRoom_BadLine : PySem.W.kitOne K (.ref C_NoRoom) (.ref C_BadLine) = some false)
    (i_NoRoom_NoLine : PySem.W.kitOne K (.ref C_NoRoom) (.ref C_NoLine) = some false)
    (i_NoRoom_NoTurn : PySem.W.kitOne K (.ref C_NoRoom) (.ref C_NoTurn) = some false)
    {nm_Broken qn_Broken : Str} {N_Broken : Addr} {bs_Broken bm_Broken : List Value} {hd_Broken : Bool} {sn_Broken : List Str} {sub_Broken : List Value} {ab_Broken : Bool} {col_Broken : Option Bool} {dd_Broken : Option Addr} {k0_Broken k1_Broken k2_Broken k3_Broken k5_Broken : Option Value} {ni_Broken : String}
    (lc_Broken : K.lookup C_Broken = some (excClassObj nm_Broken qn_Broken C_Broken N_Broken bs_Broken bm_Broken hd_Broken sn_Broken sub_Broken ab_Broken col_Broken dd_Broken k0_Broken k1_Broken k2_Broken k3_Broken k5_Broken ni_Broken))
    (xx_StowError : PySem.W.excIn K C_StowError [.type "ValueError", .type "Exception", .type "BaseException", .type "object"] "ValueError.__new__" = true)
    (kp_Broken : PySem.W.keepIn K (.ref C_Broken) = true)
    {f_Broken_init : Addr} {oc_Broken_init kV_Broken_init dc_Broken_init pm_Broken_init cd_Broken_init ct_Broken_init : Value} {od_Broken_init an_Broken_init : Option Addr} {sl_Broken_init : Array (Option Value)}
    (a_Broken_init : PySem.W.findIn K (.ref C_Broken) "__init__" = some (some (.ref f_Broken_init)))
    (l_Broken_init : K.lookup f_Broken_init = some ⟨oc_Broken_init, od_Broken_init, .func (PySem.W.fnOf "__init__" "Broken.__init__" (defArgs s_Broken_init) (defBody s_Broken_init) (defScope s_Broken_init) .none kV_Broken_init dc_Broken_init pm_Broken_init an_Broken_init cd_Broken_init ct_Broken_init), sl_Broken_init⟩)
    (c_Broken_init : PySem.W.codeIn K cd_Broken_init "Broken.__init__" = true)
    (k_Broken_init : PySem.W.keepIn K (.ref f_Broken_init) = true)
    (eb_Broken : bm_Broken = .ref C_StowError :: [.type "ValueError", .type "Exception", .type "BaseException", .type "object"])
    (en_Broken : ni_Broken = "ValueError.__new__")
    (eo_Broken : oc_Broken_init = .type "function")
    {f_Keeper_init : Addr} {oc_Keeper_init kV_Keeper_init dc_Keeper_init pm_Keeper_init cd_Keeper_init ct_Keeper_init : Value} {od_Keeper_init an_Keeper_init : Option Addr} {sl_Keeper_init : Array (Option Value)}
    (a_Keeper_init : PySem.W.findCls K (.ref C_Keeper) (.type "type") "__init__" = some (.val (.ref f_Keeper_init)))
    (l_Keeper_init : K.lookup f_Keeper_init = some ⟨oc_Keeper_init, od_Keeper_init, .func (PySem.W.fnOf "__init__" "Keeper.__init__" (defArgs s_Keeper_init) (defBody s_Keeper_init) (defScope s_Keeper_init) .none kV_Keeper_init dc_Keeper_init pm_Keeper_init an_Keeper_init cd_Keeper_init ct_Keeper_init), sl_Keeper_init⟩)
    (c_Keeper_init : PySem.W.codeIn K cd_Keeper_init "Keeper.__init__" = true)
    (k_Keeper_init : PySem.W.keepIn K (.ref f_Keeper_init) = true)
    (bs_Keeper : PySem.W.specialIn K (.ref C_Keeper) "__getattribute__" = some (some (.builtin "type.__getattribute__")))
    (br_Keeper : PySem.W.readsIn K C_Keeper (.type "type") = true)
    {f_Keeper_room_begin : Addr} {oc_Keeper_room_begin kV_Keeper_room_begin dc_Keeper_room_begin pm_Keeper_room_begin cd_Keeper_room_begin ct_Keeper_room_begin : Value} {od_Keeper_room_begin an_Keeper_room_begin : Option Addr} {sl_Keeper_room_begin : Array (Option Value)}
    (a_Keeper_room_begin : PySem.W.findIn K (.ref C_Shelves) "room_begin" = some (some (.ref f_Keeper_room_begin)))
    (l_Keeper_room_begin : K.lookup f_Keeper_room_begin = some ⟨oc_Keeper_room_begin, od_Keeper_room_begin, .func (PySem.W.fnOf "room_begin" "Keeper.room_begin" (defArgs s_Keeper_room_begin) (defBody s_Keeper_room_begin) (defScope s_Keeper_room_begin) .none kV_Keeper_room_begin dc_Keeper_room_begin pm_Keeper_room_begin an_Keeper_room_begin cd_Keeper_room_begin ct_Keeper_room_begin), sl_Keeper_room_begin⟩)
    (c_Keeper_room_begin : PySem.W.codeIn K cd_Keeper_room_begin "Keeper.room_begin" = true)
    (k_Keeper_room_begin : PySem.W.keepIn K (.ref f_Keeper_room_begin) = true)
    (if_Keeper_room_begin : PySem.W.isFn K (.ref f_Keeper_room_begin) = true)
    {f_Keeper_lay : Addr} {oc_Keeper_lay kV_Keeper_lay dc_Keeper_lay pm_Keeper_lay cd_Keeper_lay ct_Keeper_lay : Value} {od_Keeper_lay an_Keeper_lay : Option Addr} {sl_Keeper_lay : Array (Option Value)}
    (a_Keeper_lay : PySem.W.findIn K (.ref C_Shelves) "lay" = some (some (.ref f_Keeper_lay)))
    (l_Keeper_lay : K.lookup f_Keeper_lay = some ⟨oc_Keeper_lay, od_Keeper_lay, .func (PySem.W.fnOf "lay" "Keeper.lay" (defArgs s_Keeper_lay) (defBody s_Keeper_lay) (defScope s_Keeper_lay) .none kV_Keeper_lay dc_Keeper_lay pm_Keeper_lay an_Keeper_lay cd_Keeper_lay ct_Keeper_lay), sl_Keeper_lay⟩)
    (c_Keeper_lay : PySem.W.codeIn K cd_Keeper_lay "Keeper.lay" = true)
    (k_Keeper_lay : PySem.W.keepIn K (.ref f_Keeper_lay) = true)
    (if_Keeper_lay : PySem.W.isFn K (.ref f_Keeper_lay) = true)
    {f_Keeper_pieces : Addr} {oc_Keeper_pieces kV_Keeper_pieces dc_Keeper_pieces pm_Keeper_pieces cd_Keeper_pieces ct_Keeper_pieces : Value} {od_Keeper_pieces an_Keeper_pieces : Option Addr} {sl_Keeper_pieces : Array (Option Value)}
    (a_Keeper_pieces : PySem.W.findIn K (.ref C_Shelves) "pieces" = some (some (.ref f_Keeper_pieces)))
    (l_Keeper_pieces : K.lookup f_Keeper_pieces = some ⟨oc_Keeper_pieces, od_Keeper_pieces, .func (PySem.W.fnOf "pieces" "Keeper.pieces" (defArgs s_Keeper_pieces) (defBody s_Keeper_pieces) (defScope s_Keeper_pieces) .none kV_Keeper_pieces dc_Keeper_pieces pm_Keeper_pieces an_Keeper_pieces cd_Keeper_pieces ct_Keeper_pieces), sl_Keeper_pieces⟩)
    (c_Keeper_pieces : PySem.W.codeIn K cd_Keeper_pieces "Keeper.pieces" = true)
    (k_Keeper_pieces : PySem.W.keepIn K (.ref f_Keeper_pieces) = true)
    (if_Keeper_pieces : PySem.W.isFn K (.ref f_Keeper_pieces) = true)
    {f_Keeper_cells : Addr} {oc_Keeper_cells kV_Keeper_cells dc_Keeper_cells pm_Keeper_cells cd_Keeper_cells ct_Keeper_cells : Value} {od_Keeper_cells an_Keeper_cells : Option Addr} {sl_Keeper_cells : Array (Option Value)}
    (a_Keeper_cells : PySem.W.findIn K (.ref C_Shelves) "cells" = some (some (.ref f_Keeper_cells)))
    (l_Keeper_cells : K.lookup f_Keeper_cells = some ⟨oc_Keeper_cells, od_Keeper_cells, .func (PySem.W.fnOf "cells" "Keeper.cells" (defArgs s_Keeper_cells) (defBody s_Keeper_cells) (defScope s_Keeper_cells) .none kV_Keeper_cells dc_Keeper_cells pm_Keeper_cells an_Keeper_cells cd_Keeper_cells ct_Keeper_cells), sl_Keeper_cells⟩)
    (c_Keeper_cells : PySem.W.codeIn K cd_Keeper_cells "Keeper.cells" = true)
    (k_Keeper_cells : PySem.W.keepIn K (.ref f_Keeper_cells) = true)
    (if_Keeper_cells : PySem.W.isFn K (.ref f_Keeper_cells) = true)
    {f_Keeper_many : Addr} {oc_Keeper_many kV_Keeper_many dc_Keeper_many pm_Keeper_many cd_Keeper_many ct_Keeper_many : Value} {od_Keeper_many an_Keeper_many : Option Addr} {sl_Keeper_many : Array (Option Value)}
    (a_Keeper_many : PySem.W.findIn K (.ref C_Shelves) "many" = some (some (.ref f_Keeper_many)))
    (l_Keeper_many : K.lookup f_Keeper_many = some ⟨oc_Keeper_many, od_Keeper_many, .func (PySem.W.fnOf "many" "Keeper.many" (defArgs s_Keeper_many) (defBody s_Keeper_many) (defScope s_Keeper_many) .none kV_Keeper_many dc_Keeper_many pm_Keeper_many an_Keeper_many cd_Keeper_many ct_Keeper_many), sl_Keeper_many⟩)
    (c_Keeper_many : PySem.W.codeIn K cd_Keeper_many "Keeper.many" = true)
    (k_Keeper_many : PySem.W.keepIn K (.ref f_Keeper_many) = true)
    (if_Keeper_many : PySem.W.isFn K (.ref f_Keeper_many) = true)
    {f_Shelves_init : Addr} {oc_Shelves_init kV_Shelves_init dc_Shelves_init pm_Shelves_init cd_Shelves_init ct_Shelves_init : Value} {od_Shelves_init an_Shelves_init : Option Addr} {sl_Shelves_init : Array (Option Value)}
    (a_Shelves_init : PySem.W.findIn K (.ref C_Shelves) "__init__" = some (some (.ref f_Shelves_init)))
    (l_Shelves_init : K.lookup f_Shelves_init = some ⟨oc_Shelves_init, od_Shelves_init, .func (PySem.W.fnOf "__init__" "Shelves.__init__" (defArgs s_Shelves_init) (defBody s_Shelves_init) (defScope s_Shelves_init) .none kV_Shelves_init dc_Shelves_init pm_Shelves_init an_Shelves_init cd_Shelves_init ct_Shelves_init), sl_Shelves_init⟩)
    (c_Shelves_init : PySem.W.codeIn K cd_Shelves_init "Shelves.__init__" = true)
    (k_Shelves_init : PySem.W.keepIn K (.ref f_Shelves_init) = true)
    (if_Shelves_init : PySem.W.isFn K (.ref f_Shelves_init) = true)
    (mk_Shelves : PySem.W.makesIn K C_Shelves = true)
    (kp_Shelves : PySem.W.keepIn K (.ref C_Shelves) = true)
    {dt_Shelves_ask : Addr} {dk_Shelves_ask : Tok} {dtc_Shelves_ask : Value} {dtd_Shelves_ask : Option Addr} {dtn_Shelves_ask : Nat} {dts_Shelves_ask : Array (Option Value)}
    {f_Shelves_ask : Addr} {oc_Shelves_ask kV_Shelves_ask dc_Shelves_ask pm_Shelves_ask cd_Shelves_ask ct_Shelves_ask : Value} {od_Shelves_ask an_Shelves_ask : Option Addr} {sl_Shelves_ask : Array (Option Value)}
    (a_Shelves_ask : PySem.W.findIn K (.ref C_Shelves) "ask" = some (some (.ref f_Shelves_ask)))
    (l_Shelves_ask : K.lookup f_Shelves_ask = some ⟨oc_Shelves_ask, od_Shelves_ask, .func (PySem.W.fnOf "ask" "Shelves.ask" (defArgs s_Shelves_ask) (defBody s_Shelves_ask) (defScope s_Shelves_ask) (.ref dt_Shelves_ask) kV_Shelves_ask dc_Shelves_ask pm_Shelves_ask an_Shelves_ask cd_Shelves_ask ct_Shelves_ask), sl_Shelves_ask⟩)
    (ld_Shelves_ask : K.lookup dt_Shelves_ask = some ⟨dtc_Shelves_ask, dtd_Shelves_ask, .seq [.int 1 dk_Shelves_ask].toArray dtn_Shelves_ask, dts_Shelves_ask⟩)
    (c_Shelves_ask : PySem.W.codeIn K cd_Shelves_ask "Shelves.ask" = true)
    (k_Shelves_ask : PySem.W.keepIn K (.ref f_Shelves_ask) = true)
    (if_Shelves_ask : PySem.W.isFn K (.ref f_Shelves_ask) = true)
    {f_Shelves_give : Addr} {oc_Shelves_give kV_Shelves_give dc_Shelves_give pm_Shelves_give cd_Shelves_give ct_Shelves_give : Value} {od_Shelves_give an_Shelves_give : Option Addr} {sl_Shelves_give : Array (Option Value)}
    (a_Shelves_give : PySem.W.findIn K (.ref C_Shelves) "give" = some (some (.ref f_Shelves_give)))
    (l_Shelves_give : K.lookup f_Shelves_give = some ⟨oc_Shelves_give, od_Shelves_give, .func (PySem.W.fnOf "give" "Shelves.give" (defArgs s_Shelves_give) (defBody s_Shelves_give) (defScope s_Shelves_give) .none kV_Shelves_give dc_Shelves_give pm_Shelves_give an_Shelves_give cd_Shelves_give ct_Shelves_give), sl_Shelves_give⟩)
    (c_Shelves_give : PySem.W.codeIn K cd_Shelves_give "Shelves.give" = true)
    (k_Shelves_give : PySem.W.keepIn K (.ref f_Shelves_give) = true)
    (if_Shelves_give : PySem.W.isFn K (.ref f_Shelves_give) = true) :
    ∃ fd : FuncData, (∀ (s : Shared) (v : Value), BindsTo s fd ⟨[v], []⟩ [("_law_script", v)]) ∧ ∀ base : Heap, K.In base → base.Ns mainGlobals mg → FnOk l.prog w K mg base (CXe l.prog w) 9 fa fd ["_law_script"] (spLaw K) := by
  have e := hfa.symm.trans (PySem.W.mg_of X G a_law)
  cases e
  have T : Txt K mg C_StowError C_NoName C_NoSize C_Broken C_NoGive C_NoHandle C_NoPiece C_NoCell C_NoAsk C_NoBound C_NoRoom C_BadLine C_NoLine C_NoTurn C_Keeper C_Shelves tk_LEAST_LIVE tk_MARKS := ⟨PySem.W.mg_none_of X G z_ValueError, PySem.W.mg_none_of X G z_any, PySem.W.mg_none_of X G z_bool, PySem.W.mg_none_of X G z_int, PySem.W.mg_none_of X G z_isinstance, PySem.W.mg_none_of X G z_len, PySem.W.mg_none_of X G z_list, PySem.W.mg_none_of X G z_min, PySem.W.mg_none_of X G z_range, PySem.W.mg_none_of X G z_tuple, PySem.W.mg_of X G g_LEAST_LIVE, PySem.W.mg_of X G g_MARKS, PySem.W.mg_of X G cc_StowError, PySem.W.mg_of X G cc_NoName, PySem.W.mg_of X G cc_NoSize, PySem.W.mg_of X G cc_Broken, PySem.W.mg_of X G cc_NoGive, PySem.W.mg_of X G cc_NoHandle, PySem.W.mg_of X G cc_NoPiece, PySem.W.mg_of X G cc_NoCell, PySem.W.mg_of X G cc_NoAsk, PySem.W.mg_of X G cc_NoBound, PySem.W.mg_of X G cc_NoRoom, PySem.W.mg_of X G cc_BadLine, PySem.W.mg_of X G cc_NoLine, PySem.W.mg_of X G cc_NoTurn, PySem.W.mg_of X G cc_Keeper, PySem.W.mg_of X G cc_Shelves, ⟨s1_Broken, ⟨_, s2_Broken, s5_Broken, s6_Broken⟩, s3_Broken, s4_Broken⟩, ⟨PySem.W.mg_of X G cc_NoSize, _, _, _, _, xx_NoSize, PySem.F.excBase_ValueError, PySem.F.excBase_ValueError.hasBase⟩, ⟨PySem.W.mg_of X G cc_NoPiece, _, _, _, _, xx_NoPiece, PySem.F.excBase_ValueError, PySem.F.excBase_ValueError.hasBase⟩, ⟨PySem.W.mg_of X G cc_NoRoom, _, _, _, _, xx_NoRoom, PySem.F.excBase_ValueError, PySem.F.excBase_ValueError.hasBase⟩, ⟨pg_Shelves, hd_Shelves, po_Shelves, sa_Shelves⟩, na_Shelves_room_cells, na_Shelves_shelf, ⟨_, _, ⟨_, _, _, _, _, _, _, _, _, _, _, _, _, _, _, _, lc_NoSize⟩, ⟨_, _, _, _, _, _, _, _, _, _, _, _, _, _, _, _, lc_StowError⟩, fb_StowError, fm_NoSize_StowError⟩, ⟨_, _, ⟨_, _, _, _, _, _, _, _, _, _, _, _, _, _, _, _, lc_NoRoom⟩, ⟨_, _, _, _, _, _, _, _, _, _, _, _, _, _, _, _, lc_StowError⟩, fb_StowError, fm_NoRoom_StowError⟩, ⟨g1_NoSize, g2_NoSize, g3_NoSize, g4_NoSize, g5_NoSize⟩, ⟨g1_NoRoom, g2_NoRoom, g3_NoRoom, g4_NoRoom, g5_NoRoom⟩, i_NoSize_NoSize, i_NoSize_ValueError, i_NoSize_NoName, i_NoRoom_NoRoom, i_NoRoom_ValueError, i_NoRoom_NoAsk, i_NoRoom_NoBound, i_NoRoom_NoCell, i_NoRoom_NoGive, i_NoRoom_NoHandle, i_NoRoom_NoName, i_NoRoom_NoPiece, i_NoRoom_NoSize, i_NoRoom_Broken, i_NoRoom_BadLine, i_NoRoom_NoLine, i_NoRoom_NoTurn⟩
  have S__wall := src_mk (st := s__wall) X G a__wall l__wall c__wall k__wall
  have S_check_ask := src_mk (st := s_check_ask) X G a_check_ask l_check_ask c_check_ask k_check_ask
  have S_check_plain_ask := src_mk (st := s_check_plain_ask) X G a_check_plain_ask l_check_plain_ask c_check_plain_ask k_check_plain_ask
  have S_mark_of := src_mk (st := s_mark_of) X G a_mark_of l_mark_of c_mark_of k_mark_of
  have S_long_of := src_mk (st := s_long_of) X G a_long_of l_long_of c_long_of k_long_of
  have S_live_of := src_mk (st := s_live_of) X G a_live_of l_live_of c_live_of k_live_of
  have S_can_begin := src_mk (st := s_can_begin) X G a_can_begin l_can_begin c_can_begin k_can_begin
  have S_bad_of_piece := src_mk (st := s_bad_of_piece) X G a_bad_of_piece l_bad_of_piece c_bad_of_piece k_bad_of_piece
  have S_looked := src_mk (st := s_looked) X G a_looked l_looked c_looked k_looked
  have S_fresh_room := src_mk (st := s_fresh_room) X G a_fresh_room l_fresh_room c_fresh_room k_fresh_room
  have S_laid := src_mk (st := s_laid) X G a_laid l_laid c_laid k_laid
  have S_piece_at := src_mk (st := s_piece_at) X G a_piece_at l_piece_at c_piece_at k_piece_at
  have S_live_at := src_mk (st := s_live_at) X G a_live_at l_live_at c_live_at k_live_at
  have S_all_whole := src_mk (st := s_all_whole) X G a_all_whole l_all_whole c_all_whole k_all_whole
  have S_begin_of := src_mk (st := s_begin_of) X G a_begin_of l_begin_of c_begin_of k_begin_of
  have S_whole_ones := src_mk (st := s_whole_ones) X G a_whole_ones l_whole_ones c_whole_ones k_whole_ones
  have S_free_slots := src_mk (st := s_free_slots) X G a_free_slots l_free_slots c_free_slots k_free_slots
  have S_cut_for := src_mk (st := s_cut_for) X G a_cut_for l_cut_for c_cut_for k_cut_for
  have S_with_slot := src_mk (st := s_with_slot) X G a_with_slot l_with_slot c_with_slot k_with_slot
  have S_has_live := src_mk (st := s_has_live) X G a_has_live l_has_live c_has_live k_has_live
  have S_L_cell_at := src_mk (st := s_L_cell_at) X G a_L_cell_at l_L_cell_at c_L_cell_at k_L_cell_at
  have S_L_whole := src_mk (st := s_L_whole) X G a_L_whole l_L_whole c_L_whole k_L_whole
  have S_L_alike := src_mk (st := s_L_alike) X G a_L_alike l_L_alike c_L_alike k_L_alike
  have S_L_asked := src_mk (st := s_L_asked) X G a_L_asked l_L_asked c_L_asked k_L_asked
  have S_L_no_room_of := src_mk (st := s_L_no_room_of) X G a_L_no_room_of l_L_no_room_of c_L_no_room_of k_L_no_room_of
  subst eb_Broken en_Broken eo_Broken
  have XI_Broken : XIni K mg "Broken" C_Broken C_StowError f_Broken_init := ⟨PySem.W.mg_of X G cc_Broken, ⟨_, _, _, _, _, _, _, _, _, _, _, _, _, _, _, lc_Broken⟩, xx_StowError, a_Broken_init, kp_Broken, ⟨_, _, _, _, l_Broken_init, rfl⟩⟩
  refine ⟨PySem.W.fnOf "law" "law" (defArgs s_law) (defBody s_law) (defScope s_law) .none kV_law dc_law pm_law an_law cd_law ct_law, fun s v => .of_eq rfl, fun base _ _ => ?_⟩
  have D_mark_of := d_mark_of (P := l.prog) (w := w) (base := base) S_mark_of T 
  have D_long_of := d_long_of (P := l.prog) (w := w) (base := base) S_long_of T 
  have D_live_of := d_live_of (P := l.prog) (w := w) (base := base) S_live_of T 
  have D_can_begin := d_can_begin (P := l.prog) (w := w) (base := base) S_can_begin T D_long_of D_live_of
  have D_bad_of_piece := d_bad_of_piece (P := l.prog) (w := w) (base := base) S_bad_of_piece T D_long_of D_can_begin
  have D_Broken := d_Broken (P := l.prog) (w := w) (base := base) (fun_mk l_Broken_init c_Broken_init k_Broken_init) XI_Broken T.s_Broken
  have D_looked := d_looked (P := l.prog) (w := w) (base := base) S_looked T D_long_of D_live_of D_bad_of_piece D_Broken
  have D_fresh_room := d_fresh_room (P := l.prog) (w := w) (base := base) S_fresh_room T D_mark_of
  have D_laid := d_laid (P := l.prog) (w := w) (base := base) S_laid T D_mark_of
  have D_piece_at := d_piece_at (P := l.prog) (w := w) (base := base) S_piece_at T D_looked
  have D_live_at := d_live_at (P := l.prog) (w := w) (base := base) S_live_at T D_piece_at
  have D_Keeper0 := d_Keeper0 (P := l.prog) (w := w) (base := base) (fun_mk l_Keeper_init c_Keeper_init k_Keeper_init) ⟨bs_Keeper, br_Keeper, a_Keeper_init, k_Keeper_init⟩ T D_fresh_room
  have D_room_begin := d_room_begin (P := l.prog) (w := w) (base := base) (fun_mk l_Keeper_room_begin c_Keeper_room_begin k_Keeper_room_begin) ⟨a_Keeper_room_begin, if_Keeper_room_begin, k_Keeper_room_begin⟩ T 
  have D_lay := d_lay (P := l.prog) (w := w) (base := base) (fun_mk l_Keeper_lay c_Keeper_lay k_Keeper_lay) ⟨a_Keeper_lay, if_Keeper_lay, k_Keeper_lay⟩ T D_looked D_room_begin
  have D_pieces := d_pieces (P := l.prog) (w := w) (base := base) (fun_mk l_Keeper_pieces c_Keeper_pieces k_Keeper_pieces) ⟨a_Keeper_pieces, if_Keeper_pieces, k_Keeper_pieces⟩ T D_looked
  have D_cells := d_cells (P := l.prog) (w := w) (base := base) (fun_mk l_Keeper_cells c_Keeper_cells k_Keeper_cells) ⟨a_Keeper_cells, if_Keeper_cells, k_Keeper_cells⟩ T 
  have D_many := d_many (P := l.prog) (w := w) (base := base) (fun_mk l_Keeper_many c_Keeper_many k_Keeper_many) ⟨a_Keeper_many, if_Keeper_many, k_Keeper_many⟩ T D_live_at
  have D_check_ask := d_check_ask (P := l.prog) (w := w) (base := base) S_check_ask T 
  have D_check_plain_ask := d_check_plain_ask (P := l.prog) (w := w) (base := base) S_check_plain_ask T D_check_ask
  have D_all_whole := d_all_whole (P := l.prog) (w := w) (base := base) S_all_whole T D_fresh_room
  have D_begin_of := d_begin_of (P := l.prog) (w := w) (base := base) S_begin_of T 
  have D_whole_ones := d_whole_ones (P := l.prog) (w := w) (base := base) S_whole_ones T D_looked
  have D_free_slots := d_free_slots (P := l.prog) (w := w) (base := base) S_free_slots T D_looked D_begin_of D_long_of
  have D_cut_for := d_cut_for (P := l.prog) (w := w) (base := base) S_cut_for T D_laid
  have D_with_slot := d_with_slot (P := l.prog) (w := w) (base := base) S_with_slot T D_free_slots D_whole_ones D_cut_for
  have D_has_live := d_has_live (P := l.prog) (w := w) (base := base) S_has_live T D_looked D_begin_of
  have D_Shelves := d_Shelves (P := l.prog) (w := w) (base := base) (fun_mk l_Shelves_init c_Shelves_init k_Shelves_init) ⟨mk_Shelves, a_Shelves_init, if_Shelves_init, kp_Shelves⟩ T D_all_whole D_Keeper0 D_lay
  have D_ask := d_ask (P := l.prog) (w := w) (base := base) (funD_mk l_Shelves_ask c_Shelves_ask k_Shelves_ask) ld_Shelves_ask ⟨a_Shelves_ask, if_Shelves_ask, k_Shelves_ask⟩ T D_check_plain_ask D_cells D_with_slot D_free_slots D_laid D_lay
  have D_give := d_give (P := l.prog) (w := w) (base := base) (fun_mk l_Shelves_give c_Shelves_give k_Shelves_give) ⟨a_Shelves_give, if_Shelves_give, k_Shelves_give⟩ T D_laid D_cells D_many D_begin_of D_has_live D_lay
  have D_L_cell_at := d_L_cell_at (P := l.prog) (w := w) (base := base) S_L_cell_at T 
  have D_L_whole := d_L_whole (P := l.prog) (w := w) (base := base) S_L_whole T 
  have D_L_alike := d_L_alike (P := l.prog) (w := w) (base := base) S_L_alike T D_L_whole
  have D_L_no_room_of := d_L_no_room_of (P := l.prog) (w := w) (base := base) S_L_no_room_of T D_Shelves
  have D_L_asked := d_L_asked (P := l.prog) (w := w) (base := base) S_L_asked T D_ask
  exact ok_law (fun_mk l_law c_law k_law) T D_L_cell_at D_L_no_room_of D_Shelves D_pieces D_L_alike D_L_asked D_many D_L_whole D_give
theorem walk {l : PySem.W.OpenLaw} {q : Program} {loose : List Str} {XP : (Str → Option Value) → Heap → Prop} {YP : World → Heap → Prop} {d : DefRec} {K : Params → PySem.W.Frag} (hn : l.most = some 63) (hdf : d.params.defaults = [])
    (hY : ∀ (w : World) (h : Heap), YP w h → (K w.params).In h)
    (F : ∀ (w : World) (mg : Str → Option Value) (fa : Addr) (h : Heap), (K w.params).In h → h.Ns mainGlobals mg → mg d.name = some (.ref fa) →
      ∃ fd : FuncData, (∀ (s : Shared) (u : Value), BindsTo s fd ⟨[u], []⟩ [("_law_script", u)]) ∧ ∀ base : Heap, (K w.params).In base → base.Ns mainGlobals mg → FnOk l.prog w (K w.params) mg base (CXe l.prog w) 9 fa fd ["_law_script"] (spLaw (K w.params))) :
    PySem.W.WalkO q loose XP YP l.row.toRowW d [] (fun f vs => PySem.call f vs) :=
  L2.walk_of (n := 63) (k := 9) (x := "_law_script") (CX := fun w => (CXe l.prog w)) (sp := fun w => spLaw (K w.params)) hn (by decide) hdf ⟨rfl, by decide, by decide⟩ hY F (fun _ _ a ns hl _ hS => ⟨a, ns, rfl, hS, hl, fun _ => rfl⟩) (fun _ _ _ _ _ ⟨_, _, _, _, _, _, _, _, _, _, _, _, _, _, _, z⟩ => z)
end Stow
open PySem PySem.W PyProof.Rows
set_option maxRecDepth 100000 in
set_option maxHeartbeats 0 in
theorem PySem.Challenge.cw_stow_k33_a_shelf_holds : PySem.Challenge.rw_stow_k33_a_shelf.Holds := by
  w_on; o_law
  refine holds_open (XP := fun _ _ => True) (YP := InK Stow.heap0) Stow.left0 ?y (InK.keeps (K := Stow.heap0)) (fun _ _ => trivial) (fun _ _ _ h _ => h) rfl rfl rfl (fun _ e => recFacts_of e) rfl
    (by assumption) (by decide +kernel) ⟨rfl, rfl, rfl, rfl, rfl, by decide +kernel⟩ ?hw ?hc
  case y => exact InK.of Stow.at0_eq
  case hw => w_witness2
  k_fill
  refine Stow.walk (l := PySem.Challenge.rw_stow_k33_a_shelf) rfl rfl (fun w h Y => Y) ?F
  case F =>
    intro w mg fa h KX G hmg
    refine' Stow.all_mk KX G hmg ?a__wall ?l__wall ?c__wall ?k__wall ?a_check_ask ?l_check_ask ?c_check_ask ?k_check_ask ?a_check_plain_ask ?l_check_plain_ask ?c_check_plain_ask ?k_check_plain_ask ?a_mark_of ?l_mark_of ?c_mark_of ?k_mark_of ?a_long_of ?l_long_of ?c_long_of ?k_long_of ?a_live_of ?l_live_of ?c_live_of ?k_live_of ?a_can_begin ?l_can_begin ?c_can_begin ?k_can_begin ?a_bad_of_piece ?l_bad_of_piece ?c_bad_of_piece ?k_bad_of_piece ?a_looked ?l_looked ?c_looked ?k_looked ?a_fresh_room ?l_fresh_room ?c_fresh_room ?k_fresh_room ?a_laid ?l_laid ?c_laid ?k_laid ?a_piece_at ?l_piece_at ?c_piece_at ?k_piece_at ?a_live_at ?l_live_at ?c_live_at ?k_live_at ?a_all_whole ?l_all_whole ?c_all_whole ?k_all_whole ?a_begin_of ?l_begin_of ?c_begin_of ?k_begin_of ?a_whole_ones ?l_whole_ones ?c_whole_ones ?k_whole_ones ?a_free_slots ?l_free_slots ?c_free_slots ?k_free_slots ?a_cut_for ?l_cut_for ?c_cut_for ?k_cut_for ?a_with_slot ?l_with_slot ?c_with_slot ?k_with_slot ?a_has_live ?l_has_live ?c_has_live ?k_has_live ?a_L_cell_at ?l_L_cell_at ?c_L_cell_at ?k_L_cell_at ?a_L_whole ?l_L_whole ?c_L_whole ?k_L_whole ?a_L_alike ?l_L_alike ?c_L_alike ?k_L_alike ?a_L_asked ?l_L_asked ?c_L_asked ?k_L_asked ?a_L_no_room_of ?l_L_no_room_of ?c_L_no_room_of ?k_L_no_room_of ?a_law ?l_law ?c_law ?k_law ?z_ValueError ?z_any ?z_bool ?z_int ?z_isinstance ?z_len ?z_list ?z_min ?z_range ?z_tuple ?g_LEAST_LIVE ?g_MARKS ?cc_StowError ?cc_NoName ?cc_NoSize ?cc_Broken ?cc_NoGive ?cc_NoHandle ?cc_NoPiece ?cc_NoCell ?cc_NoAsk ?cc_NoBound ?cc_NoRoom ?cc_BadLine ?cc_NoLine ?cc_NoTurn ?cc_Keeper ?cc_Shelves ?s1_Broken ?s2_Broken ?s5_Broken ?s6_Broken ?s3_Broken ?s4_Broken ?xx_NoSize ?xx_NoPiece ?xx_NoRoom ?pg_Shelves ?hd_Shelves ?po_Shelves ?sa_Shelves ?na_Shelves_room_cells ?na_Shelves_shelf ?lc_NoSize ?lc_StowError ?fb_StowError ?fm_NoSize_StowError ?lc_NoRoom ?fm_NoRoom_StowError ?g1_NoSize ?g2_NoSize ?g3_NoSize ?g4_NoSize ?g5_NoSize ?g1_NoRoom ?g2_NoRoom ?g3_NoRoom ?g4_NoRoom ?g5_NoRoom ?i_NoSize_NoSize ?i_NoSize_ValueError ?i_NoSize_NoName ?i_NoRoom_NoRoom ?i_NoRoom_ValueError ?i_NoRoom_NoAsk ?i_NoRoom_NoBound ?i_NoRoom_NoCell ?i_NoRoom_NoGive ?i_NoRoom_NoHandle ?i_NoRoom_NoName ?i_NoRoom_NoPiece ?i_NoRoom_NoSize ?i_NoRoom_Broken ?i_NoRoom_BadLine ?i_NoRoom_NoLine ?i_NoRoom_NoTurn ?lc_Broken ?xx_StowError ?kp_Broken ?a_Broken_init ?l_Broken_init ?c_Broken_init ?k_Broken_init ?eb_Broken ?en_Broken ?eo_Broken ?a_Keeper_init ?l_Keeper_init ?c_Keeper_init ?k_Keeper_init ?bs_Keeper ?br_Keeper ?a_Keeper_room_begin ?l_Keeper_room_begin ?c_Keeper_room_begin ?k_Keeper_room_begin ?if_Keeper_room_begin ?a_Keeper_lay ?l_Keeper_lay ?c_Keeper_lay ?k_Keeper_lay ?if_Keeper_lay ?a_Keeper_pieces ?l_Keeper_pieces ?c_Keeper_pieces ?k_Keeper_pieces ?if_Keeper_pieces ?a_Keeper_cells ?l_Keeper_cells ?c_Keeper_cells ?k_Keeper_cells ?if_Keeper_cells ?a_Keeper_many ?l_Keeper_many ?c_Keeper_many ?k_Keeper_many ?if_Keeper_many ?a_Shelves_init ?l_Shelves_init ?c_Shelves_init ?k_Shelves_init ?if_Shelves_init ?mk_Shelves ?kp_Shelves ?a_Shelves_ask ?l_Shelves_ask ?ld_Shelves_ask ?c_Shelves_ask ?k_Shelves_ask ?if_Shelves_ask ?a_Shelves_give ?l_Shelves_give ?c_Shelves_give ?k_Shelves_give ?if_Shelves_give
    (case a__wall => k_is)
    (case l__wall => k_is)
    (case c__wall => k_is)
    (case k__wall => k_is)
    (case a_check_ask => k_is)
    (case l_check_ask => k_is)
    (case c_check_ask => k_is)
    (case k_check_ask => k_is)
    (case a_check_plain_ask => k_is)
    (case l_check_plain_ask => k_is)
    (case c_check_plain_ask => k_is)
    (case k_check_plain_ask => k_is)
    (case a_mark_of => k_is)
    (case l_mark_of => k_is)
    (case c_mark_of => k_is)
    (case k_mark_of => k_is)
    (case a_long_of => k_is)
    (case l_long_of => k_is)
    (case c_long_of => k_is)
    (case k_long_of => k_is)
    (case a_live_of => k_is)
    (case l_live_of => k_is)
    (case c_live_of => k_is)
    (case k_live_of => k_is)
    (case a_can_begin => k_is)
    (case l_can_begin => k_is)
    (case c_can_begin => k_is)
    (case k_can_begin => k_is)
    (case a_bad_of_piece => k_is)
    (case l_bad_of_piece => k_is)
    (case c_bad_of_piece => k_is)
    (case k_bad_of_piece => k_is)
    (case a_looked => k_is)
    (case l_looked => k_is)
    (case c_looked => k_is)
    (case k_looked => k_is)
    (case a_fresh_room => k_is)
    (case l_fresh_room => k_is)
    (case c_fresh_room => k_is)
    (case k_fresh_room => k_is)
    (case a_laid => k_is)
    (case l_laid => k_is)
    (case c_laid => k_is)
    (case k_laid => k_is)
    (case a_piece_at => k_is)
    (case l_piece_at => k_is)
    (case c_piece_at => k_is)
    (case k_piece_at => k_is)
    (case a_live_at => k_is)
    (case l_live_at => k_is)
    (case c_live_at => k_is)
    (case k_live_at => k_is)
    (case a_all_whole => k_is)
    (case l_all_whole => k_is)
    (case c_all_whole => k_is)
    (case k_all_whole => k_is)
    (case a_begin_of => k_is)
    (case l_begin_of => k_is)
    (case c_begin_of => k_is)
    (case k_begin_of => k_is)
    (case a_whole_ones => k_is)
    (case l_whole_ones => k_is)
    (case c_whole_ones => k_is)
    (case k_whole_ones => k_is)
    (case a_free_slots => k_is)
    (case l_free_slots => k_is)
    (case c_free_slots => k_is)
    (case k_free_slots => k_is)
    (case a_cut_for => k_is)
    (case l_cut_for => k_is)
    (case c_cut_for => k_is)
    (case k_cut_for => k_is)
    (case a_with_slot => k_is)
    (case l_with_slot => k_is)
    (case c_with_slot => k_is)
    (case k_with_slot => k_is)
    (case a_has_live => k_is)
    (case l_has_live => k_is)
    (case c_has_live => k_is)
    (case k_has_live => k_is)
    (case a_L_cell_at => k_is)
    (case l_L_cell_at => k_is)
    (case c_L_cell_at => k_is)
    (case k_L_cell_at => k_is)
    (case a_L_whole => k_is)
    (case l_L_whole => k_is)
    (case c_L_whole => k_is)
    (case k_L_whole => k_is)
    (case a_L_alike => k_is)
    (case l_L_alike => k_is)
    (case c_L_alike => k_is)
    (case k_L_alike => k_is)
    (case a_L_asked => k_is)
    (case l_L_asked => k_is)
    (case c_L_asked => k_is)
    (case k_L_asked => k_is)
    (case a_L_no_room_of => k_is)
    (case l_L_no_room_of => k_is)
    (case c_L_no_room_of => k_is)
    (case k_L_no_room_of => k_is)
    (case a_law => k_is)
    (case l_law => k_is)
    (case c_law => k_is)
    (case k_law => k_is)
    (case z_ValueError => k_is)
    (case z_any => k_is)
    (case z_bool => k_is)
    (case z_int => k_is)
    (case z_isinstance => k_is)
    (case z_len => k_is)
    (case z_list => k_is)
    (case z_min => k_is)
    (case z_range => k_is)
    (case z_tuple => k_is)
    (case g_LEAST_LIVE => k_is)
    (case g_MARKS => k_is)
    (case cc_StowError => k_is)
    (case cc_NoName => k_is)
    (case cc_NoSize => k_is)
    (case cc_Broken => k_is)
    (case cc_NoGive => k_is)
    (case cc_NoHandle => k_is)
    (case cc_NoPiece => k_is)
    (case cc_NoCell => k_is)
    (case cc_NoAsk => k_is)
    (case cc_NoBound => k_is)
    (case cc_NoRoom => k_is)
    (case cc_BadLine => k_is)
    (case cc_NoLine => k_is)
    (case cc_NoTurn => k_is)
    (case cc_Keeper => k_is)
    (case cc_Shelves => k_is)
    (case s1_Broken => k_is)
    (case s2_Broken => k_is)
    (case s5_Broken => decide +kernel)
    (case s6_Broken => rfl)
    (case s3_Broken => k_is)
    (case s4_Broken => k_is)
    (case xx_NoSize => k_exc)
    (case xx_NoPiece => k_exc)
    (case xx_NoRoom => k_exc)
    (case pg_Shelves => k_is)
    (case hd_Shelves => k_is)
    (case po_Shelves => k_is)
    (case sa_Shelves => k_is)
    (case na_Shelves_room_cells => k_is)
    (case na_Shelves_shelf => k_is)
    (case lc_NoSize => k_is)
    (case lc_StowError => k_is)
    (case fb_StowError => decide +kernel)
    (case fm_NoSize_StowError => decide +kernel)
    (case lc_NoRoom => k_is)
    (case fm_NoRoom_StowError => decide +kernel)
    (case g1_NoSize => k_is)
    (case g2_NoSize => k_is)
    (case g3_NoSize => k_is)
    (case g4_NoSize => k_is)
    (case g5_NoSize => k_is)
    (case g1_NoRoom => k_is)
    (case g2_NoRoom => k_is)
    (case g3_NoRoom => k_is)
    (case g4_NoRoom => k_is)
    (case g5_NoRoom => k_is)
    (case i_NoSize_NoSize => kit_is)
    (case i_NoSize_ValueError => kit_is)
    (case i_NoSize_NoName => kit_is)
    (case i_NoRoom_NoRoom => kit_is)
    (case i_NoRoom_ValueError => kit_is)
    (case i_NoRoom_NoAsk => kit_is)
    (case i_NoRoom_NoBound => kit_is)
    (case i_NoRoom_NoCell => kit_is)
    (case i_NoRoom_NoGive => kit_is)
    (case i_NoRoom_NoHandle => kit_is)
    (case i_NoRoom_NoName => kit_is)
    (case i_NoRoom_NoPiece => kit_is)
    (case i_NoRoom_NoSize => kit_is)
    (case i_NoRoom_Broken => kit_is)
    (case i_NoRoom_BadLine => kit_is)
    (case i_NoRoom_NoLine => kit_is)
    (case i_NoRoom_NoTurn => kit_is)
    (case lc_Broken => k_is)
    (case xx_StowError => k_exc)
    (case kp_Broken => k_is)
    (case a_Broken_init => k_is)
    (case l_Broken_init => k_is)
    (case c_Broken_init => k_is)
    (case k_Broken_init => k_is)
    (case eb_Broken => rfl)
    (case en_Broken => rfl)
    (case eo_Broken => rfl)
    (case a_Keeper_init => k_is)
    (case l_Keeper_init => k_is)
    (case c_Keeper_init => k_is)
    (case k_Keeper_init => k_is)
    (case bs_Keeper => k_is)
    (case br_Keeper => k_is)
    (case a_Keeper_room_begin => k_is)
    (case l_Keeper_room_begin => k_is)
    (case c_Keeper_room_begin => k_is)
    (case k_Keeper_room_begin => k_is)
    (case if_Keeper_room_begin => k_is)
    (case a_Keeper_lay => k_is)
    (case l_Keeper_lay => k_is)
    (case c_Keeper_lay => k_is)
    (case k_Keeper_lay => k_is)
    (case if_Keeper_lay => k_is)
    (case a_Keeper_pieces => k_is)
    (case l_Keeper_pieces => k_is)
    (case c_Keeper_pieces => k_is)
    (case k_Keeper_pieces => k_is)
    (case if_Keeper_pieces => k_is)
    (case a_Keeper_cells => k_is)
    (case l_Keeper_cells => k_is)
    (case c_Keeper_cells => k_is)
    (case k_Keeper_cells => k_is)
    (case if_Keeper_cells => k_is)
    (case a_Keeper_many => k_is)
    (case l_Keeper_many => k_is)
    (case c_Keeper_many => k_is)
    (case k_Keeper_many => k_is)
    (case if_Keeper_many => k_is)
    (case a_Shelves_init => k_is)
    (case l_Shelves_init => k_is)
    (case c_Shelves_init => k_is)
    (case k_Shelves_init => k_is)
    (case if_Shelves_init => k_is)
    (case mk_Shelves => k_is)
    (case kp_Shelves => k_is)
    (case a_Shelves_ask => k_is)
    (case l_Shelves_ask => k_is)
    (case ld_Shelves_ask => k_is)
    (case c_Shelves_ask => k_is)
    (case k_Shelves_ask => k_is)
    (case if_Shelves_ask => k_is)
    (case a_Shelves_give => k_is)
    (case l_Shelves_give => k_is)
    (case c_Shelves_give => k_is)
    (case k_Shelves_give => k_is)
    (case if_Shelves_give => k_is)

