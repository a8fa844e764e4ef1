import PyProof.Rows.All
import Wide.All
import OpenK.AllK
import Wide.FinOn
import Lean
import PyProof.EqAt
import PyProof.EqKinds
import PyProof.TupleCall
import PyProof.NeKinds
import PyProof.StationsW
import PyProof.RulesAs
import PyProof.ExcClass3
import PyProof.ExcInit
import PyProof.ExcArgsOwn
import PyProof.IsiH_set
import PyProof.NsDelKeeps
import PyProof.CompFree
import PySem.Challenge.RW_stow_k64_a_piece_more_or_less
set_option Elab.async false
set_option linter.all false
set_option maxRecDepth 100000
/-! THE HAND LAYER, for ints, bools, texts, own classes, LISTS and tuples (index, slices, in, append, pop ..), calls, loops. Paste it whole ahead of your own text; what your proof does not reach may be deleted. -/
namespace L2
open PySem PySem.Spec PyProof.Rows

/-- a key: an int or a str -/
abbrev Key := Sum Int Str
def keyIs : Key → Value → Bool
  | .inl k, v => Value.isInt k v
  | .inr x, v => Value.isStrOf x v
def keyH (w : World) : Key → Int
  | .inl k => hashInt k
  | .inr x => hashStr w x
theorem keyIs_shape : ∀ {k : Key} {v : Value}, keyIs k v = true → (∃ i t, k = Sum.inl i ∧ v = Value.int i t) ∨ (∃ x t, k = Sum.inr x ∧ v = Value.str x t)
  | .inl i, v, h => by
    obtain ⟨t, e⟩ := Value.isInt_shape (k := i) (v := v) h
    exact .inl ⟨i, t, rfl, e⟩
  | .inr x, v, h => by
    obtain ⟨t, e⟩ := Value.isStrOf_shape (x := x) (v := v) h
    exact .inr ⟨x, t, rfl, e⟩
theorem key_ll (a b : Int) : decide ((Sum.inl a : Key) = Sum.inl b) = (a == b) := by
  by_cases e : a = b
  · subst e; simp
  · have h : ¬ (Sum.inl a : Key) = Sum.inl b := fun q => e (Sum.inl.inj q)
    rw [decide_eq_false h]
    exact (beq_eq_false_iff_ne.mpr e).symm
theorem key_rr (a b : Str) : decide ((Sum.inr a : Key) = Sum.inr b) = decide (a = b) := by
  by_cases e : a = b
  · subst e; simp
  · have h : ¬ (Sum.inr a : Key) = Sum.inr b := fun q => e (Sum.inr.inj q)
    rw [decide_eq_false h, decide_eq_false e]
theorem key_lr (a : Int) (b : Str) : decide ((Sum.inl a : Key) = Sum.inr b) = false := decide_eq_false (fun q => nomatch q)
theorem key_rl (a : Str) (b : Int) : decide ((Sum.inr a : Key) = Sum.inl b) = false := decide_eq_false (fun q => nomatch q)

def mixKind (prog : Program) (w : World) : PySem.KeyKind prog w Key where
  is := keyIs
  hash := keyH w
  inj := fun v a b ha hb => by
    rcases keyIs_shape ha with ⟨i, t, rfl, rfl⟩ | ⟨x, t, rfl, rfl⟩
    · rcases keyIs_shape hb with ⟨j, u, rfl, e⟩ | ⟨y, u, rfl, e⟩
      · injection e with e1 _; rw [e1]
      · exact nomatch e
    · rcases keyIs_shape hb with ⟨j, u, rfl, e⟩ | ⟨y, u, rfl, e⟩
      · exact nomatch e
      · injection e with e1 _; rw [e1]
  byValue := fun k v h => by
    rcases keyIs_shape h with ⟨i, t, rfl, rfl⟩ | ⟨x, t, rfl, rfl⟩ <;> rfl
  pyHash := fun hv h => by
    rcases keyIs_shape hv with ⟨i, t, rfl, rfl⟩ | ⟨x, t, rfl, rfl⟩
    · exact wpAny_pyHash_int h
    · exact wpAny_pyHash_str h
  eqBool := fun hu hv h => by
    rcases keyIs_shape hu with ⟨i, t, rfl, rfl⟩ | ⟨x, t, rfl, rfl⟩
    · rcases keyIs_shape hv with ⟨j, u, rfl, rfl⟩ | ⟨y, u, rfl, rfl⟩
      · rw [key_ll] at h; exact wpAny_eqBool_int h
      · rw [key_lr] at h; exact SeqAt.EqAt.int_str i t y u _ _ _ _ h
    · rcases keyIs_shape hv with ⟨j, u, rfl, rfl⟩ | ⟨y, u, rfl, rfl⟩
      · rw [key_rl] at h; exact SeqAt.EqAt.str_int x t j u _ _ _ _ h
      · rw [key_rr] at h; exact wpAny_eqBool_str h
  «strs» := fun k x t v h => by
    rcases keyIs_shape h with ⟨i, u, rfl, e⟩ | ⟨y, u, rfl, e⟩
    · exact nomatch e
    · injection e with e1 _
      subst e1
      cases v <;> rfl

end L2

namespace L2
open PySem PySem.Spec PyProof.Rows

/-- a value, without the heap -/
inductive V where
  | non | bl (b : Bool) | int (i : Int) | str (x : Str) | byt (b : Array UInt8) | flt (b : UInt64) | ref (a : Addr) | ty (n : String)
  deriving DecidableEq

def RelV : V → Value → Prop
  | .non, u => u = Value.none
  | .bl b, u => u = Value.bool b
  | .int i, u => ∃ t, u = Value.int i t
  | .str x, u => ∃ t, u = Value.str x t
  | .byt b, u => ∃ t, u = Value.bytes b t
  | .flt b, u => ∃ t, u = Value.float b t
  | .ref a, u => u = Value.ref a
  | .ty n, u => u = Value.type n

abbrev Vals : List V → List Value → Prop := Paired RelV
theorem Vals.length {xs : List V} {us : List Value} (r : Vals xs us) : xs.length = us.length := Paired.length r
theorem Vals.get : ∀ {xs : List V} {us : List Value} {i : Nat} {x : V}, Vals xs us → xs[i]? = some x → ∃ u, us[i]? = some u ∧ RelV x u
  | _, _, _, _, .nil, e => by simp at e
  | _, _, 0, _, .cons r _, e => by simp at e; subst e; exact ⟨_, rfl, r⟩
  | _, _, i + 1, x, .cons _ t, e => by
    obtain ⟨u, h1, h2⟩ := Vals.get (i := i) (x := x) t (by simpa using e)
    exact ⟨u, by simpa using h1, h2⟩
theorem Vals.set {x : V} {u : Value} (r : RelV x u) : ∀ {xs : List V} {us : List Value} (i : Nat), Vals xs us → Vals (xs.set i x) (us.set i u)
  | _, _, _, .nil => .nil
  | _, _, 0, .cons _ t => .cons r t
  | _, _, i + 1, .cons q t => .cons q (Vals.set r i t)
theorem Vals.append : ∀ {xs ys : List V} {us ws : List Value}, Vals xs us → Vals ys ws → Vals (xs ++ ys) (us ++ ws)
  | _, _, _, _, .nil, s => s
  | _, _, _, _, .cons r t, s => .cons r (Vals.append t s)
theorem Vals.take : ∀ {xs : List V} {us : List Value} (n : Nat), Vals xs us → Vals (xs.take n) (us.take n)
  | _, _, 0, _ => .nil
  | _, _, _ + 1, .nil => .nil
  | _, _, n + 1, .cons r t => .cons r (Vals.take n t)
theorem Vals.drop : ∀ {xs : List V} {us : List Value} (n : Nat), Vals xs us → Vals (xs.drop n) (us.drop n)
  | _, _, 0, r => r
  | _, _, _ + 1, .nil => .nil
  | _, _, n + 1, .cons _ t => Vals.drop n t
def RelO : Option V → Option Value → Prop
  | some v, some u => RelV v u
  | none, none => True
  | _, _ => False
def KV {κ : Type} : List (κ × V) → List (κ × Value) → Prop := Paired fun (p : κ × V) (q : κ × Value) => p.1 = q.1 ∧ RelV p.2 q.2

/-- a key of a dict (00_mix): an int or a text -/
def kV : Key → V
  | .inl i => .int i
  | .inr x => .str x

/-- what stands at a tracked address -/
inductive HO where
  /-- a list -/
  | lst (xs : List V)
  /-- a tuple (never changes) -/
  | tup (xs : List V)
  /-- a dict whose keys are ints and texts; one whose keys are tuples of ints and texts (the empty one is both) -/
  | dK (kvs : List (Key × V)) | dT (kvs : List (List Key × V))
  /-- a set of ints: its members, its size -/
  | set (S : Int → Bool) (n : Nat)
  /-- an instance of the class at C, its dict at dx, its attributes -/
  | ins (C dx : Addr) (fs : List (Str × V))
  /-- the dict of the instance at x -/
  | own (x : Addr)
  /-- the dict of an exception -/
  | xd (fs : List (Str × V))
  /-- a bound method, f of x -/
  | met (f x : Addr)
  /-- a range object lo, lo + 1, .. below hi -/
  | rng (lo hi : Int)
  /-- a thing that is known to the object (the script; a dict while a loop walks it): read, never written while it is so -/
  | frz (o : Obj) (u : HO)
  /-- a code object's table -/
  | tbl (ps : Array Value)
  /-- any other thing, by what is true of its one object (a def of one's own: SetO a S n := HO.ext fun h => ..) -/
  | ext (φ : Heap → Prop)

abbrev Hp := Addr → Option HO
def upd (H : Hp) (a : Addr) (o : HO) : Hp := fun b => if b = a then some o else H b
theorem upd_same {H : Hp} {a : Addr} {o : HO} : upd H a o a = some o := by unfold upd; rw [if_pos rfl]
theorem upd_ne {H : Hp} {a b : Addr} {o : HO} (h : b ≠ a) : upd H a o b = H b := by unfold upd; rw [if_neg h]
theorem ne_of_none {H : Hp} {a b : Addr} {o : HO} (h : H a = some o) (h' : H b = none) : a ≠ b := by
  intro e; subst e; rw [h] at h'; cases h'

section
variable (P : Program) (w : World)
def ObjOk (H : Hp) (h : Heap) (a : Addr) : HO → Prop
  | .lst xs => xs.length ≤ sizeLine ∧ ∃ (its : List Value) (n : Nat), Vals xs its ∧ h.get? a = some { cls := .type "list", data := .seq its.toArray n }
  | .tup xs => xs.length ≤ sizeLine ∧ ∃ its : List Value, Vals xs its ∧ IsTup h a its.toArray
  | .dK kvs => kvs.length ≤ sizeLine ∧ (a == sysModules) = false ∧ ∃ vs, KV kvs vs ∧ h.DictOf (mixKind P w) a vs
  | .dT kvs => kvs.length ≤ sizeLine ∧ (a == sysModules) = false ∧ ∃ xs : List (List Key × Addr × Value),
      Paired (fun (p : List Key × V) (q : List Key × Addr × Value) => p.1 = q.1 ∧ H q.2.1 = some (.tup (p.1.map kV)) ∧ RelV p.2 q.2.2) kvs xs ∧
      ∃ o es ep, h.get? a = some o ∧ o.ExactDict ∧ o.data = .dict es ep ∧ es.toList = xs.map (entryOfKey (tupleKind (mixKind P w))) ∧ (xs.map (·.1)).Nodup
  | .set S n => h.SetOf (intKind P w) a S n
  | .ins C dx fs => H dx = some (.own a) ∧ fs.length ≤ 1000 ∧ dx ≠ a ∧ h.get? a = some (PySem.W.instObj C dx) ∧
      ∃ mA, h.Ns1 dx mA ∧ (∀ f, RelO (fs.lookup f) (mA f)) ∧ PySem.Within mA (fs.map (·.1))
  | .own _ => ∃ o, h.get? a = some o
  | .xd fs => ∃ mA, h.Ns1 a mA ∧ ∀ f, RelO (fs.lookup f) (mA f)
  | .rng lo hi => ∃ t u v, h.get? a = some { cls := .type "range", data := .fields #[.int lo t, .int hi u, .int 1 v] }
  | .frz o u => h.get? a = some o ∧ ObjOk H h a u
  | .tbl ps => h.get? a = some { cls := .none, data := .fields ps }
  | .met f x => h.get? a = some (PySem.W.methodObj (.ref f) (.ref x))
  | .ext φ => φ h ∧ (∃ o, h.get? a = some o) ∧ ∀ h1 h2 : Heap, φ h1 → (∀ o, h1.get? a = some o → h2.get? a = some o) → φ h2
/-- the abstract heap is held -/
def HOk (H : Hp) (h : Heap) : Prop := ∀ a o, H a = some o → ObjOk P w H h a o
end

section
variable {P : Program} {w : World} {H H' : Hp} {h h' : Heap} {a : Addr} {o : HO}
theorem ObjOk.lt (x : ObjOk P w H h a o) : a < h.objs.size := by
  cases o with
  | lst xs => obtain ⟨_, _, _, _, e⟩ := x; exact Heap.lt_size e
  | tup xs => obtain ⟨_, _, _, p⟩ := x; exact p.lt
  | dK kvs => obtain ⟨_, _, _, _, o, _, _, e, _⟩ := x; exact Heap.lt_size e
  | dT kvs => obtain ⟨_, _, _, _, o, _, _, e, _⟩ := x; exact Heap.lt_size e
  | set S n => obtain ⟨o, _, _, _, e, _⟩ := x; exact Heap.lt_size e
  | ins C dx fs => obtain ⟨_, _, _, e, _⟩ := x; exact Heap.lt_size e
  | own y => obtain ⟨_, e⟩ := x; exact Heap.lt_size e
  | xd fs => obtain ⟨_, ⟨_, _, _, e, _⟩, _⟩ := x; exact Heap.lt_size e
  | rng lo hi => obtain ⟨_, _, _, e⟩ := x; exact Heap.lt_size e
  | frz ob u => obtain ⟨e, _⟩ := x; exact Heap.lt_size e
  | tbl ps => exact Heap.lt_size (show h.get? a = some _ from x)
  | met f y => exact Heap.lt_size (show h.get? a = some _ from x)
  | ext φ => obtain ⟨_, ⟨_, e⟩, _⟩ := x; exact Heap.lt_size e
theorem Paired.mapP {α β : Type} {F G : α → β → Prop} : ∀ {l₁ : List α} {l₂ : List β}, Paired F l₁ l₂ → (∀ a b, F a b → G a b) → Paired G l₁ l₂
  | _, _, .nil, _ => .nil
  | _, _, .cons r t, f => .cons (f _ _ r) (Paired.mapP t f)
/-- what an object's description leans on: its own object, its own dict, the tuples -/
theorem ObjOk.stay (x : ObjOk P w H h a o) (k : ∀ b u, (b = a ∨ H b = some (.own a)) → h.get? b = some u → h'.get? b = some u)
    (ho : ∀ b, H b = some (.own a) → H' b = some (.own a)) (ht : ∀ b xs, H b = some (.tup xs) → H' b = some (.tup xs)) : ObjOk P w H' h' a o := by
  induction o with
  | lst xs => obtain ⟨z, its, n, r, e⟩ := x; exact ⟨z, its, n, r, k _ _ (.inl rfl) e⟩
  | tup xs => obtain ⟨z, its, r, ob, e, c⟩ := x; exact ⟨z, its, r, ob, k _ _ (.inl rfl) e, c⟩
  | dK kvs => obtain ⟨z, y, vs, r, ob, es, ep, e, c⟩ := x; exact ⟨z, y, vs, r, ob, es, ep, k _ _ (.inl rfl) e, c⟩
  | dT kvs =>
    obtain ⟨z, y, xs, r, ob, es, ep, e, c⟩ := x
    exact ⟨z, y, xs, Paired.mapP r fun p q z => ⟨z.1, ht _ _ z.2.1, z.2.2⟩, ob, es, ep, k _ _ (.inl rfl) e, c⟩
  | set S n => obtain ⟨ob, es, ep, t, e, c⟩ := x; exact ⟨ob, es, ep, t, k _ _ (.inl rfl) e, c⟩
  | ins C dx fs =>
    obtain ⟨d, z, ne, e, mA, ⟨od, es, ep, e2, c⟩, r⟩ := x
    exact ⟨ho _ d, z, ne, k _ _ (.inl rfl) e, mA, ⟨od, es, ep, k _ _ (.inr d) e2, c⟩, r⟩
  | own y => obtain ⟨ob, e⟩ := x; exact ⟨ob, k _ _ (.inl rfl) e⟩
  | xd fs => obtain ⟨mA, ⟨od, es, ep, e, c⟩, r⟩ := x; exact ⟨mA, ⟨od, es, ep, k _ _ (.inl rfl) e, c⟩, r⟩
  | rng lo hi => obtain ⟨t, u, v, e⟩ := x; exact ⟨t, u, v, k _ _ (.inl rfl) e⟩
  | frz ob u ih => obtain ⟨e, q⟩ := x; exact ⟨k _ _ (.inl rfl) e, ih q⟩
  | tbl ps =>
    have e : h.get? a = some { cls := .none, data := .fields ps } := x
    show h'.get? a = some { cls := .none, data := .fields ps }
    exact k a _ (.inl rfl) e
  | met f y =>
    have e : h.get? a = some (PySem.W.methodObj (.ref f) (.ref y)) := x
    show h'.get? a = some (PySem.W.methodObj (.ref f) (.ref y))
    exact k a _ (.inl rfl) e
  | ext φ => obtain ⟨p, ⟨o, e⟩, st⟩ := x; exact ⟨st _ _ p fun o q => k _ _ (.inl rfl) q, ⟨o, k _ _ (.inl rfl) e⟩, st⟩
theorem HOk.lt (x : HOk P w H h) (e : H a = some o) : a < h.objs.size := (x a o e).lt
theorem HOk.fresh (x : HOk P w H h) (e : h.objs.size ≤ a) : H a = none := by
  cases q : H a with
  | none => rfl
  | some u => exact absurd (Nat.lt_of_lt_of_le (x.lt q) e) (Nat.lt_irrefl _)
/-- every object of the heap is kept -/
theorem HOk.kept (x : HOk P w H h) (k : ∀ b u, h.get? b = some u → h'.get? b = some u) : HOk P w H h' := fun a o e =>
  (x a o e).stay (fun b u _ q => k b u q) (fun _ q => q) fun _ _ q => q
/-- a new object is laid and tracked -/
theorem HOk.laid (x : HOk P w H h) (k : ∀ b u, h.get? b = some u → h'.get? b = some u) (hp : h.objs.size ≤ a) (new : ObjOk P w (upd H a o) h' a o) : HOk P w (upd H a o) h' := fun b u e => by
  have hn := x.fresh hp
  by_cases hb : b = a
  · subst hb; rw [upd_same] at e; cases e; exact new
  · rw [upd_ne hb] at e
    exact (x b u e).stay (fun c v _ q => k c v q) (fun c q => by rw [upd_ne (ne_of_none q hn)]; exact q) fun c xs q => by rw [upd_ne (ne_of_none q hn)]; exact q
end

/-- what may be read as u: it is u, or a known u -/
def Rd (H : Hp) (a : Addr) (u : HO) : Prop := H a = some u ∨ ∃ o, H a = some (.frz o u)
theorem Rd.of {H : Hp} {a : Addr} {u : HO} (h : H a = some u) : Rd H a u := .inl h
theorem Rd.ok {P : Program} {w : World} {H : Hp} {h : Heap} {a : Addr} {u : HO} (r : Rd H a u) (x : HOk P w H h) : ObjOk P w H h a u := by
  rcases r with r | ⟨o, r⟩
  · exact x a u r
  · obtain ⟨_, q⟩ := x a _ r
    exact q
/-- what may be written -/
def Mut : Option HO → Prop
  | some (.lst _) => True
  | some (.dK _) => True
  | some (.dT _) => True
  | some (.set _ _) => True
  | some (.ins _ _ _) => True
  | some (.ext _) => True
  | _ => False
section
variable {P : Program} {w : World} {H : Hp} {h h' : Heap} {x e : Addr} {o' : HO}
/-- the object at e is changed: x itself, or the dict of the instance x -/
theorem HOk.write (ok : HOk P w H h) (mu : Mut (H x)) (he : e = x ∨ H e = some (.own x)) (k : ∀ b u, b ≠ e → h.get? b = some u → h'.get? b = some u) (heo : ∃ u, h'.get? e = some u)
    (new : ObjOk P w (upd H x o') h' x o') : HOk P w (upd H x o') h' := fun b u q => by
  have nown : ∀ c y, H c = some (.own y) → c ≠ x := fun c y r z => by subst z; rw [r] at mu; exact mu
  have ntup : ∀ c xs, H c = some (.tup xs) → c ≠ x := fun c xs r z => by subst z; rw [r] at mu; exact mu
  by_cases hb : b = x
  · subst hb; rw [upd_same] at q; cases q; exact new
  · rw [upd_ne hb] at q
    by_cases hbe : b = e
    · have q' : H b = some (.own x) := by
        rcases he with z | z
        · exact absurd (hbe.trans z) hb
        · rw [hbe]; exact z
      rw [q] at q'; cases q'
      obtain ⟨v, hv⟩ := heo
      exact ⟨v, by rw [hbe]; exact hv⟩
    · refine (ok b u q).stay (fun c v hc r => k c v ?_ r) (fun c r => by rw [upd_ne (nown c b r)]; exact r) fun c xs r => by rw [upd_ne (ntup c xs r)]; exact r
      rcases hc with rfl | hc
      · exact hbe
      · rintro rfl
        rcases he with z | z
        · exact nown c b hc z
        · rw [hc] at z; cases z; exact hb rfl
end

/-! ### kept unless tracked; of the frames at fs (the callers') the slots may change (an exception that passes writes there); of the records at ex (iterators) nothing is said -/
structure Un (fs ex : List Addr) (H H' : Hp) (h h' : Heap) : Prop where
  keep : ∀ b o, h.get? b = some o → H b = none → b ∉ fs → b ∉ ex → h'.get? b = some o
  slot : ∀ b o, h.get? b = some o → H b = none → b ∈ fs → b ∉ ex → ∃ sl, h'.get? b = some { o with slots := sl }
  free : ∀ b o, h.get? b = some o → H b = none → b ∉ ex → H' b = none
  there : ∀ b o, h.get? b = some o → b ∉ ex → ∃ o', h'.get? b = some o'
  tups : ∀ b xs, H b = some (.tup xs) → H' b = some (.tup xs)
  frzs : ∀ b o u, H b = some (.frz o u) → H' b = some (.frz o u)
  tbls : ∀ b ps, H b = some (.tbl ps) → ∃ more, H' b = some (.tbl (ps ++ more))
section
variable {fs fs' ex ex' : List Addr} {H H1 H2 : Hp} {h h1 h2 h' : Heap} {a x e : Addr} {o : HO}
theorem Un.any (u : Un fs ex H H1 h h1) {b : Addr} {ob : Obj} (q : h.get? b = some ob) (n : H b = none) (hx : b ∉ ex) : ∃ sl, h1.get? b = some { ob with slots := sl } := by
  by_cases hb : b ∈ fs
  · exact u.slot b ob q n hb hx
  · exact ⟨ob.slots, u.keep b ob q n hb hx⟩
theorem Un.trans (a : Un fs ex H H1 h h1) (b : Un fs ex H1 H2 h1 h2) : Un fs ex H H2 h h2 where
  keep := fun c ob q n hc hx => b.keep c ob (a.keep c ob q n hc hx) (a.free c ob q n hx) hc hx
  slot := fun c ob q n hc hx => by
    obtain ⟨sl, e1⟩ := a.slot c ob q n hc hx
    obtain ⟨sl', e2⟩ := b.slot c _ e1 (a.free c ob q n hx) hc hx
    exact ⟨sl', e2⟩
  free := fun c ob q n hx => by
    obtain ⟨o', e1⟩ := a.there c ob q hx
    exact b.free c o' e1 (a.free c ob q n hx) hx
  there := fun c ob q hx => by
    obtain ⟨o', e1⟩ := a.there c ob q hx
    exact b.there c o' e1 hx
  tups := fun c xs q => b.tups c xs (a.tups c xs q)
  frzs := fun c ob xs q => b.frzs c ob xs (a.frzs c ob xs q)
  tbls := fun c ps q => by
    obtain ⟨m1, e1⟩ := a.tbls c ps q
    obtain ⟨m2, e2⟩ := b.tbls c _ e1
    exact ⟨m1 ++ m2, by rw [e2, Array.append_assoc]⟩
theorem Un.kept (k : ∀ b u, h.get? b = some u → h'.get? b = some u) : Un fs ex H H h h' :=
  ⟨fun b ob q _ _ _ => k b ob q, fun b ob q _ _ _ => ⟨ob.slots, k b ob q⟩, fun _ _ _ n _ => n, fun b ob q _ => ⟨ob, k b ob q⟩, fun _ _ q => q, fun _ _ _ q => q, fun _ ps q => ⟨#[], by rw [q]; simp⟩⟩
theorem Un.refl : Un fs ex H H h h := Un.kept fun _ _ q => q
theorem Un.laid (k : ∀ b u, h.get? b = some u → h'.get? b = some u) (hp : h.objs.size ≤ a) (hn : H a = none) : Un fs ex H (upd H a o) h h' where
  keep := fun b u q _ _ _ => k b u q
  slot := fun b u q _ _ _ => ⟨u.slots, k b u q⟩
  free := fun b u q n _ => by rw [upd_ne (Nat.ne_of_lt (Nat.lt_of_lt_of_le (Heap.lt_size q) hp))]; exact n
  there := fun b u q _ => ⟨u, k b u q⟩
  tups := fun b xs q => by rw [upd_ne (ne_of_none q hn)]; exact q
  frzs := fun b u xs q => by rw [upd_ne (ne_of_none q hn)]; exact q
  tbls := fun b ps q => ⟨#[], by rw [upd_ne (ne_of_none q hn), q]; simp⟩
theorem Un.write (mu : Mut (H x)) (he : e = x ∨ H e = some (.own x)) (k : ∀ b u, b ≠ e → h.get? b = some u → h'.get? b = some u) (heo : ∃ u, h'.get? e = some u) : Un fs ex H (upd H x o) h h' := by
  have hx : ∀ b, H b = none → b ≠ x := fun b n z => by subst z; rw [n] at mu; exact mu
  have hb : ∀ b, H b = none → b ≠ e := fun b n z => by
    subst z
    rcases he with r | r
    · exact hx b n r
    · rw [n] at r; cases r
  have hm : ∀ b u, H b = some u → ¬ Mut (some u) → b ≠ x := fun b u q nm z => by subst z; rw [q] at mu; exact nm mu
  refine ⟨fun b u q n _ _ => k b u (hb b n) q, fun b u q n _ _ => ⟨u.slots, k b u (hb b n) q⟩, fun b u q n _ => by rw [upd_ne (hx b n)]; exact n, fun b u q _ => ?_,
    fun b xs q => by rw [upd_ne (hm b _ q fun z => z)]; exact q, fun b u xs q => by rw [upd_ne (hm b _ q fun z => z)]; exact q, fun b ps q => ⟨#[], by rw [upd_ne (hm b _ q fun z => z), q]; simp⟩⟩
  by_cases hbe : b = e
  · subst hbe; exact heo
  · exact ⟨u, k b u hbe q⟩
theorem Un.mono (u : Un fs ex H H1 h h1) (hs : ∀ b ∈ fs, b ∈ fs') (hx : ∀ b ∈ ex, b ∈ ex') : Un fs' ex' H H1 h h1 :=
  ⟨fun b ob q n hb he => u.keep b ob q n (fun z => hb (hs b z)) fun z => he (hx b z), fun _ _ q n _ he => u.any q n fun z => he (hx _ z), fun b ob q n he => u.free b ob q n fun z => he (hx b z), fun b ob q he => u.there b ob q fun z => he (hx b z), u.tups, u.frzs, u.tbls⟩
end

/-! ### the heap without what is tracked -/
def trk (h : Heap) (H : Hp) : List Addr := (List.range h.objs.size).filter fun a => (H a).isSome
def hidT (h : Heap) (H : Hp) : Heap := PySem.W.hideAll h (trk h H)
theorem hidT_size (h : Heap) (H : Hp) : (hidT h H).objs.size = h.objs.size := PySem.W.hideAll_size _ _
theorem hidT_get {h : Heap} {H : Hp} {b : Addr} {o : Obj} (e : h.get? b = some o) (n : H b = none) : (hidT h H).get? b = some o :=
  PySem.W.hideAll_get _ e fun hm => by
    have q : (H b).isSome = true := (List.mem_filter.mp hm).2
    rw [n] at q; simp at q
theorem of_hidT {h : Heap} {H : Hp} {b : Addr} {o : Obj} (e : (hidT h H).get? b = some o) : h.get? b = some o ∧ H b = none := by
  have e' : h.get? b = some o := PySem.W.of_hideAll (trk h H) e
  refine ⟨e', ?_⟩
  cases q : H b with
  | none => rfl
  | some x =>
    have hm : b ∈ trk h H := List.mem_filter.mpr ⟨List.mem_range.mpr (Heap.lt_size e'), by simp [q]⟩
    have z : (hidT h H).get? b = none := PySem.W.hideAll_none (trk h H) hm
    rw [z] at e; cases e

/-! ### OpenK's ledger, filled with every new object but one -/
def allNews (g h : Heap) (L : Addr) : List (Addr × Obj) := (List.range h.objs.size).filterMap fun a => if a = L ∨ (g.get? a).isSome = true then none else (h.get? a).map fun o => (a, o)
def rest (g h : Heap) (L d : Addr) : List (Addr × Obj) := (allNews g h L).filter fun p => decide (p.1 ≠ d)
end L2

namespace L2
open PySem PySem.Spec PyProof.Rows

/-- the module's facts, over the base: the heap at the law's entry without what is tracked there -/
structure Mod (K : PySem.W.Frag) (mg : Str → Option Value) (base : Heap) : Prop where
  kin : K.In base
  glob : base.Ns mainGlobals mg
  blt : ∃ mb, base.Ns builtinsNs mb ∧ ∀ x : Str, x ≠ "__name__" → mb x = bootBuiltins x
  nolimit : base.NoLimit

/-- the context: a def's body (or a comprehension's block) running. base: fixed through the whole law; s₀, H₀: the entry; outer: the frames whose slots others may change (a def's callers); stack: all frames that run;
   ex: iterators that were made ahead of the entry and are walked here (a comprehension's); fn: the names whose cells were made at the entry (a def: all; a comprehension's block: its own); calm: not within an except suite; pn: pins that every state bears; xe: what is wanted of an exception that leaves the code -/
structure Cx where
  prog : Program
  w : World
  K : PySem.W.Frag
  mg : Str → Option Value
  base : Heap
  A : Around
  N : List Str
  s₀ : Shared
  H₀ : Hp
  env : Env
  outer : List Env
  stack : List Env
  ex : List Addr
  fn : Str → Bool
  calm : Bool
  pn : List (Addr × Obj)
  xe : Value → Shared → Prop
/-- the callers' frames -/
def frs (l : List Env) : List Addr := l.filterMap (·.frame)
abbrev Cx.fs (X : Cx) : List Addr := frs X.outer

def Vis (sc : Scope) (x : Str) : Prop := sc.names.lookup x = some .local ∨ sc.names.lookup x = some .cell ∨ sc.names.lookup x = some .free
def Loc (sc : Scope) (x : Str) : Prop := sc.names.lookup x = some .local ∨ sc.names.lookup x = some .cell
def Look (env : Env) (h : Heap) (m : Str → Option Value) (x : Str) (u : Value) : Prop :=
  (env.kindOf x = some .local ∧ m x = some u) ∨ ((env.kindOf x = some .cell ∨ env.kindOf x = some .free) ∧ ∃ c, env.cells.lookup x = some c ∧ h.IsCell c (some u))

structure Cx.Ok (X : Cx) : Prop where
  mod : Mod X.K X.mg X.base
  kind : X.env.scope.kind = .function
  glob : X.env.globals = mainGlobals
  blt : X.env.builtins = builtinsNs
  above : X.s₀.heap.objs.size ≤ X.env.locals
  inj : ∀ x y c, X.env.cells.lookup x = some c → X.env.cells.lookup y = some c → x = y
  has : ∀ x, (X.env.kindOf x = some .cell ∨ X.env.kindOf x = some .free) → ∃ c, X.env.cells.lookup x = some c
  cab : ∀ x c, X.fn x = true → X.env.cells.lookup x = some c → X.s₀.heap.objs.size ≤ c
  hd : X.calm = true → X.A.handled = none
  frames : X.A.frames = some X.stack
  stk : X.stack = X.outer ∨ (X.stack = X.env :: X.outer ∧ X.env.frame = some X.env.locals)
  exf : ∀ b ∈ X.ex, b ≠ X.env.locals ∧ ∀ x c, X.env.cells.lookup x = some c → c ≠ b
  bs : ∀ b o, X.base.get? b = some o → X.s₀.heap.get? b = some o ∧ X.H₀ b = none
  bsz : X.base.objs.size ≤ X.s₀.heap.objs.size
  noex : ∀ b o, X.base.get? b = some o → b ∉ X.ex
  exfs : ∀ b ∈ X.ex, b ∉ X.fs
  funs : X.s₀.heap.FunFrames X.base X.outer
  frf : ∀ b ∈ X.fs, X.H₀ b = none

structure Inv (X : Cx) (pins : List (Addr × Obj)) (σ : List (Option V)) (H : Hp) (s : Shared) : Prop where
  ok : X.Ok
  os : s.os = X.s₀.os
  bare : AllBare s.gens
  base : Un X.fs X.ex X.H₀ H X.s₀.heap s.heap
  loc : ∃ m, s.heap.Ns X.env.locals m ∧ ∀ (i : Nat) (x : Str) (v : V), X.N[i]? = some x → σ[i]? = some (some v) → Vis X.env.scope x → ∃ u, RelV v u ∧ Look X.env s.heap m x u
  cell : ∀ x c, X.env.cells.lookup x = some c → ∃ v, s.heap.IsCell c v
  free : H X.env.locals = none
  freeC : ∀ x c, X.env.cells.lookup x = some c → H c = none
  pin : ∀ p ∈ X.pn ++ pins, s.heap.get? p.1 = some p.2 ∧ H p.1 = none ∧ p.1 ≠ X.env.locals ∧ p.1 ∉ X.fs ∧ ∀ v, p.2.data ≠ .cell v
  hok : HOk X.prog X.w H s.heap
  len : σ.length = X.N.length

section
variable {X : Cx} {pins : List (Addr × Obj)} {σ : List (Option V)} {H H' : Hp} {s : Shared} {h' : Heap}

theorem Cx.Ok.nofr (ok : X.Ok) {b : Addr} {o : Obj} (e : X.base.get? b = some o) : b ∉ X.fs := fun hb => by
  have := (ok.funs.mem hb).1
  rw [e] at this; cases this
theorem Inv.bs (I : Inv X pins σ H s) : ∀ b o, X.base.get? b = some o → s.heap.get? b = some o ∧ H b = none := fun b o e =>
  ⟨I.base.keep b o (I.ok.bs b o e).1 (I.ok.bs b o e).2 (I.ok.nofr e) (I.ok.noex b o e), I.base.free b o (I.ok.bs b o e).1 (I.ok.bs b o e).2 (I.ok.noex b o e)⟩
theorem Inv.bk (I : Inv X pins σ H s) : ∀ b o, X.base.get? b = some o → s.heap.get? b = some o := fun b o e => (I.bs b o e).1
theorem Inv.mod (I : Inv X pins σ H s) : Mod X.K X.mg X.base := I.ok.mod
theorem Inv.kIn (I : Inv X pins σ H s) : X.K.In s.heap := I.ok.mod.kin.keeps I.bk
theorem Inv.nolimit (I : Inv X pins σ H s) : s.heap.NoLimit := I.ok.mod.nolimit.keeps I.bk
/-- the frame over the base: for OpenK's rules (K.In X.base is I.mod.kin) -/
theorem Inv.fr (I : Inv X pins σ H s) : ∃ m, Fr X.base X.env.locals s.heap m :=
  let ⟨m, hn, _⟩ := I.loc
  ⟨m, hn, I.bk, Nat.le_trans I.ok.bsz I.ok.above⟩
theorem Inv.lt (I : Inv X pins σ H s) : X.env.locals < s.heap.objs.size := let ⟨_, hn, _⟩ := I.loc; hn.lt
theorem Inv.sz (I : Inv X pins σ H s) : X.s₀.heap.objs.size ≤ s.heap.objs.size := Nat.le_trans I.ok.above (Nat.le_of_lt I.lt)
theorem Inv.nofs (I : Inv X pins σ H s) {a : Addr} (h : s.heap.objs.size ≤ a) : a ∉ X.fs := fun hb => by
  obtain ⟨_, o, ho, _⟩ := I.ok.funs.mem hb
  exact absurd (Nat.lt_of_lt_of_le (Heap.lt_size ho) (Nat.le_trans I.sz h)) (Nat.lt_irrefl _)
theorem Inv.cne (I : Inv X pins σ H s) : ∀ x c, X.env.cells.lookup x = some c → c ≠ X.env.locals := fun x c e z => by
  obtain ⟨v, o, ho, hd⟩ := I.cell x c e
  obtain ⟨m, ⟨o', es, ep, ho', hd', _⟩, _⟩ := I.loc
  rw [z, ho'] at ho; cases ho; rw [hd'] at hd; cases hd
theorem Inv.funs (I : Inv X pins σ H s) : s.heap.FunFrames X.base X.outer := by
  have all : ∀ (l : List Env), (∀ b ∈ frs l, b ∈ X.fs) → X.s₀.heap.FunFrames X.base l → s.heap.FunFrames X.base l := by
    intro l
    induction l with
    | nil => intro _ _; trivial
    | cons env r ih =>
      intro hs hl
      obtain ⟨hk, ⟨L, o, hf, hn, ho, hd⟩, hr⟩ := hl
      have hL : L ∈ X.fs := hs L (by unfold frs; rw [List.filterMap_cons, hf]; exact List.mem_cons_self)
      obtain ⟨sl, e⟩ := I.base.slot L o ho (I.ok.frf L hL) hL fun z => I.ok.exfs L z hL
      exact ⟨hk, ⟨L, _, hf, hn, e, hd⟩, ih (fun b hb => hs b (by unfold frs; rw [List.filterMap_cons, hf]; exact List.mem_cons_of_mem _ hb)) hr⟩
  exact all X.outer (fun _ hb => hb) I.ok.funs

/-- the frames that run, for a call -/
theorem Inv.stack (I : Inv X pins σ H s) : s.heap.FunFrames X.base X.stack := by
  rcases I.ok.stk with e | ⟨e, hf⟩
  · rw [e]; exact I.funs
  · rw [e]
    obtain ⟨m, hn, _⟩ := I.loc
    refine .cons (by rw [I.ok.kind]; decide) hf hn ?_ I.funs
    exact Heap.get?_none_of_le (Nat.le_trans I.ok.bsz I.ok.above)
theorem Inv.stkSub (I : Inv X pins σ H s) : ∀ b ∈ frs X.stack, b ∈ X.env.locals :: X.fs := fun b hb => by
  rcases I.ok.stk with e | ⟨e, hf⟩
  · rw [e] at hb; exact List.mem_cons_of_mem _ hb
  · rw [e] at hb
    unfold frs at hb
    rw [List.filterMap_cons, hf] at hb
    exact hb
theorem Inv.stkFree (I : Inv X pins σ H s) : ∀ b ∈ frs X.stack, H b = none := fun b hb => by
  rcases List.mem_cons.mp (I.stkSub b hb) with e | hb
  · rw [e]; exact I.free
  · obtain ⟨_, o, ho, _⟩ := I.ok.funs.mem hb
    exact I.base.free b o ho (I.ok.frf b hb) fun z => I.ok.exfs b z hb

/-- THE STEP: the untracked objects but the frame and the records at ch are kept (the callers' frames up to slots), the frame's map is kept, the new abstract heap is held -/
theorem Inv.step {g' : Array GenState} {t' : Nat} {d' : Drawn} {ch : List Addr} (I : Inv X pins σ H s)
    (hch : ∀ b ∈ ch, (b ∈ X.ex ∨ X.s₀.heap.objs.size ≤ b) ∧ b ≠ X.env.locals ∧ (∀ x c, X.env.cells.lookup x = some c → c ≠ b) ∧ ∀ p ∈ X.pn ++ pins, p.1 ≠ b)
    (keep : ∀ b o, b ≠ X.env.locals → b ∉ X.fs → b ∉ ch → s.heap.get? b = some o → H b = none → h'.get? b = some o)
    (slot : ∀ b o, b ≠ X.env.locals → b ∈ X.fs → b ∉ ch → s.heap.get? b = some o → H b = none → ∃ sl, h'.get? b = some { o with slots := sl }) (free : ∀ b o, b ∉ ch → s.heap.get? b = some o → H b = none → H' b = none)
    (there : ∀ b o, b ∉ ch → s.heap.get? b = some o → ∃ o', h'.get? b = some o')
    (tups : ∀ b xs, H b = some (.tup xs) → H' b = some (.tup xs)) (frzs : ∀ b o u, H b = some (.frz o u) → H' b = some (.frz o u)) (tbls : ∀ b ps, H b = some (.tbl ps) → ∃ more, H' b = some (.tbl (ps ++ more)))
    (ns : ∀ m, s.heap.Ns X.env.locals m → h'.Ns X.env.locals m) (hok : HOk X.prog X.w H' h') (hg : AllBare g') :
    Inv X pins σ H' { s with heap := h', gens := g', drawn := d', toks := t' } := by
  have neL : ∀ b o, X.s₀.heap.get? b = some o → b ≠ X.env.locals := fun b o e => Nat.ne_of_lt (Nat.lt_of_lt_of_le (Heap.lt_size e) I.ok.above)
  have neC : ∀ b o, X.s₀.heap.get? b = some o → b ∉ X.ex → b ∉ ch := fun b o e hx hb => by
    rcases (hch b hb).1 with z | z
    · exact hx z
    · exact absurd (Nat.lt_of_lt_of_le (Heap.lt_size e) z) (Nat.lt_irrefl _)
  have cellK : ∀ x c, X.env.cells.lookup x = some c → ∀ v, s.heap.IsCell c v → h'.IsCell c v := fun x c e v ⟨o, ho, hd⟩ => by
    have nch : c ∉ ch := fun z => (hch c z).2.2.1 x c e rfl
    by_cases hc : c ∈ X.fs
    · obtain ⟨sl, q⟩ := slot c o (I.cne x c e) hc nch ho (I.freeC x c e)
      exact ⟨_, q, hd⟩
    · exact ⟨o, keep c o (I.cne x c e) hc nch ho (I.freeC x c e), hd⟩
  refine ⟨I.ok, I.os, hg, ⟨fun b o e n hb hx => ?_, fun b o e n hb hx => ?_, fun b o e n hx => ?_, fun b o e hx => ?_, fun b xs e => tups b xs (I.base.tups b xs e), fun b o xs e => frzs b o xs (I.base.frzs b o xs e), fun b ps e => ?_⟩, ?_, fun x c e => ?_, ?_, fun x c e => ?_, fun p hp => ?_, hok, I.len⟩
  · exact keep b o (neL b o e) hb (neC b o e hx) (I.base.keep b o e n hb hx) (I.base.free b o e n hx)
  · obtain ⟨sl, e1⟩ := I.base.slot b o e n hb hx
    obtain ⟨sl', e2⟩ := slot b _ (neL b o e) hb (neC b o e hx) e1 (I.base.free b o e n hx)
    exact ⟨sl', e2⟩
  · obtain ⟨o', e1⟩ := I.base.there b o e hx
    exact free b o' (neC b o e hx) e1 (I.base.free b o e n hx)
  · obtain ⟨o', e1⟩ := I.base.there b o e hx
    exact there b o' (neC b o e hx) e1
  · obtain ⟨m1, e1⟩ := I.base.tbls b ps e
    obtain ⟨m2, e2⟩ := tbls b _ e1
    exact ⟨m1 ++ m2, by rw [e2, Array.append_assoc]⟩
  · obtain ⟨m, hn, hl⟩ := I.loc
    refine ⟨m, ns m hn, fun i x v e1 e2 e3 => ?_⟩
    obtain ⟨u, r, l⟩ := hl i x v e1 e2 e3
    refine ⟨u, r, ?_⟩
    rcases l with l | ⟨k, c, e, z⟩
    · exact .inl l
    · exact .inr ⟨k, c, e, cellK x c e _ z⟩
  · obtain ⟨v, z⟩ := I.cell x c e
    exact ⟨v, cellK x c e v z⟩
  · obtain ⟨m, ⟨o, _, _, ho, _⟩, _⟩ := I.loc
    exact free _ o (fun z => (hch _ z).2.1 rfl) ho I.free
  · obtain ⟨v, o, ho, hd⟩ := I.cell x c e
    exact free c o (fun z => (hch c z).2.2.1 x c e rfl) ho (I.freeC x c e)
  · obtain ⟨e, n, ne, nf, d⟩ := I.pin p hp
    have nch : p.1 ∉ ch := fun z => (hch p.1 z).2.2.2 p hp rfl
    exact ⟨keep p.1 p.2 ne nf nch e n, free p.1 p.2 nch e n, ne, nf, d⟩
/-- .. where the frame's own object is kept too -/
theorem Inv.un {t' : Nat} (I : Inv X pins σ H s) (u : Un X.fs [] H H' s.heap h') (hok : HOk X.prog X.w H' h') : Inv X pins σ H' { s with heap := h', toks := t' } := by
  obtain ⟨m, ⟨o, es, ep, ho, r⟩, _⟩ := id I.loc
  obtain ⟨sl, hL⟩ := u.any ho I.free (by simp)
  exact I.step (g' := s.gens) (d' := s.drawn) (ch := []) (fun _ z => nomatch z) (fun b o _ hb _ e n => u.keep b o e n hb (by simp)) (fun b o _ hb _ e n => u.slot b o e n hb (by simp)) (fun b o _ e n => u.free b o e n (by simp)) (fun b o _ e => u.there b o e (by simp)) u.tups u.frzs u.tbls (fun m' hm => by
    obtain ⟨o', es', ep', ho', r'⟩ := hm
    rw [ho] at ho'; cases ho'
    exact ⟨_, es', ep', hL, r'⟩) hok I.bare
/-- behind a call (or a comprehension's block): the slots of this frame may have changed too, the records at ch may have turned -/
theorem Inv.call {g' : Array GenState} {t' : Nat} {d' : Drawn} {ch : List Addr} (I : Inv X pins σ H s) (u : Un (frs X.stack) ch H H' s.heap h') (hok : HOk X.prog X.w H' h') (hg : AllBare g')
    (hch : ∀ b ∈ ch, (b ∈ X.ex ∨ X.s₀.heap.objs.size ≤ b) ∧ b ≠ X.env.locals ∧ (∀ x c, X.env.cells.lookup x = some c → c ≠ b) ∧ ∀ p ∈ X.pn ++ pins, p.1 ≠ b) :
    Inv X pins σ H' { s with heap := h', gens := g', drawn := d', toks := t' } := by
  obtain ⟨m, ⟨o, es, ep, ho, r⟩, _⟩ := id I.loc
  obtain ⟨sl, hL⟩ := u.any ho I.free fun z => (hch _ z).2.1 rfl
  exact I.step (ch := ch) hch (fun b o hL hb hc e n => u.keep b o e n (fun z => (List.mem_cons.mp (I.stkSub b z)).elim hL hb) hc) (fun b o _ _ hc e n => u.any e n hc) (fun b o hc e n => u.free b o e n hc) (fun b o hc e => u.there b o e hc) u.tups u.frzs u.tbls (fun m' hm => by
    obtain ⟨o', es', ep', ho', r'⟩ := hm
    rw [ho] at ho'; cases ho'
    exact ⟨_, es', ep', hL, r'⟩) hok hg
/-- an untracked record of ours (an iterator) has turned -/
theorem Inv.turned {t' : Nat} {it : Addr} (I : Inv X pins σ H s) (k : ∀ b o, b ≠ it → s.heap.get? b = some o → h'.get? b = some o) (hn : H it = none) (hL : it ≠ X.env.locals)
    (h1 : it ∈ X.ex ∨ X.s₀.heap.objs.size ≤ it) (h2 : ∀ x c, X.env.cells.lookup x = some c → c ≠ it) (h3 : ∀ p ∈ X.pn ++ pins, p.1 ≠ it) : Inv X pins σ H { s with heap := h', toks := t' } := by
  have nit : ∀ b u, H b = some u → b ≠ it := fun b u e z => by rw [z, hn] at e; cases e
  refine I.step (g' := s.gens) (d' := s.drawn) (ch := [it]) (fun b hb => ?_) (fun b o _ _ hc e _ => k b o (fun z => hc (by simp [z])) e) (fun b o _ _ hc e _ => ⟨o.slots, k b o (fun z => hc (by simp [z])) e⟩) (fun _ _ _ _ n => n)
    (fun b o hc e => ⟨o, k b o (fun z => hc (by simp [z])) e⟩) (fun _ _ e => e) (fun _ _ _ e => e) (fun b ps e => ⟨#[], by rw [e]; simp⟩) (fun m hm => ?_) (fun b u e => ?_) I.bare
  · have e : b = it := by simpa using hb
    subst e
    exact ⟨h1, hL, h2, h3⟩
  · obtain ⟨o, es, ep, ho, r⟩ := hm
    exact ⟨o, es, ep, k _ o (Ne.symm hL) ho, r⟩
  · refine (I.hok b u e).stay (fun c v hc q => k c v ?_ q) (fun _ q => q) fun _ _ q => q
    rcases hc with z | z
    · rw [z]; exact nit b u e
    · exact nit c _ z
theorem Inv.tok (I : Inv X pins σ H s) (t : Nat) : Inv X pins σ H { s with toks := t } := I.un (h' := s.heap) (t' := t) Un.refl I.hok
/-- all objects kept -/
theorem Inv.kept {t' : Nat} (I : Inv X pins σ H s) (k : ∀ b u, s.heap.get? b = some u → h'.get? b = some u) : Inv X pins σ H { s with heap := h', toks := t' } := I.un (Un.kept k) (I.hok.kept k)
/-- a new object laid and tracked -/
theorem Inv.laid {a : Addr} {o : HO} {t' : Nat} (I : Inv X pins σ H s) (k : ∀ b u, s.heap.get? b = some u → h'.get? b = some u) (hp : s.heap.objs.size ≤ a) (new : ObjOk X.prog X.w (upd H a o) h' a o) :
    Inv X pins σ (upd H a o) { s with heap := h', toks := t' } := I.un (Un.laid k hp (I.hok.fresh hp)) (I.hok.laid k hp new)
/-- an object written -/
theorem Inv.write {x e : Addr} {o : HO} {t' : Nat} (I : Inv X pins σ H s) (mu : Mut (H x)) (he : e = x ∨ H e = some (.own x)) (k : ∀ b u, b ≠ e → s.heap.get? b = some u → h'.get? b = some u) (heo : ∃ u, h'.get? e = some u)
    (new : ObjOk X.prog X.w (upd H x o) h' x o) : Inv X pins σ (upd H x o) { s with heap := h', toks := t' } := I.un (Un.write mu he k heo) (I.hok.write mu he k heo new)
theorem Inv.pins_of {pins' : List (Addr × Obj)} (I : Inv X pins σ H s) (h : ∀ p ∈ pins', s.heap.get? p.1 = some p.2 ∧ H p.1 = none ∧ p.1 ≠ X.env.locals ∧ p.1 ∉ X.fs ∧ ∀ v, p.2.data ≠ .cell v) : Inv X pins' σ H s :=
  ⟨I.ok, I.os, I.bare, I.base, I.loc, I.cell, I.free, I.freeC, fun p hp => (List.mem_append.mp hp).elim (fun z => I.pin p (List.mem_append_left _ z)) (h p), I.hok, I.len⟩

theorem nodup_ix {N : List Str} (hN : N.Nodup) {i j : Nat} {x : Str} (a : N[i]? = some x) (b : N[j]? = some x) : i = j := by
  obtain ⟨h1, e1⟩ := List.getElem?_eq_some_iff.mp a
  obtain ⟨h2, e2⟩ := List.getElem?_eq_some_iff.mp b
  exact (List.getElem_inj hN).mp (e1.trans e2.symm)

/-- a name is stored; what changed -/
theorem store_ok2 {M : Model} {A : Around} {E : Value → Shared → Prop} {i : Nat} {x : Str} {v : V} {u : Value} {Q : Unit → Shared → Prop} (I : Inv X pins σ H s) (hN : X.N.Nodup) (hi : X.N[i]? = some x) (hx : Loc X.env.scope x) (r : RelV v u)
    (h : ∀ s', Inv X pins (σ.set i (some v)) H s' → (∃ a, Heap.SameBut a s.heap s'.heap ∧ (a = X.env.locals ∨ X.env.cells.lookup x = some a)) → Q () s') (hf : X.fn x = true ∨ X.env.scope.names.lookup x = some .local := by first | exact .inl rfl | exact .inr rfl | assumption) : wpAny M A (storeName X.env x u) Q E s := by
  obtain ⟨m, hn, hl⟩ := id I.loc
  have hcls : (X.env.scope.kind == .class || (X.env.scope.kind == .module && X.env.locals != X.env.globals)) = false := by rw [I.ok.kind]; rfl
  have hiσ : i < σ.length := by rw [I.len]; exact (List.getElem?_eq_some_iff.mp hi).1
  have cne := I.cne
  have tracked : ∀ {a : Addr} {h' : Heap}, (∃ o, s.heap.get? a = some o ∧ H a = none) → Heap.SameBut a s.heap h' → HOk X.prog X.w H h' := fun {a h'} ha hs b ob e => by
    obtain ⟨_, _, hfree⟩ := ha
    refine (I.hok b ob e).stay (fun c w' hc q => (hs.2 c ?_).trans q) (fun _ q => q) fun _ _ q => q
    rintro rfl
    rcases hc with rfl | hc
    · rw [hfree] at e; cases e
    · rw [hfree] at hc; cases hc
  rcases hx with hk | hk
  · refine wpAny_storeName_local hk hn (fun h' hn' hs => ?_) hcls
    obtain ⟨oL, _, _, hoL, _⟩ := id hn
    refine h _ ⟨I.ok, I.os, I.bare, ⟨fun b o e n hb hx => ?_, fun b o e n hb hx => ?_, I.base.free, fun b o e hx => ?_, I.base.tups, I.base.frzs, I.base.tbls⟩, ⟨_, hn', fun j y v' e1 e2 e3 => ?_⟩, fun y c e => ?_, I.free, I.freeC, fun p hp => ?_, tracked ⟨oL, hoL, I.free⟩ hs, by simpa using I.len⟩ ⟨_, hs, .inl rfl⟩
    · exact (hs.2 b (Nat.ne_of_lt (Nat.lt_of_lt_of_le (Heap.lt_size e) I.ok.above))).trans (I.base.keep b o e n hb hx)
    · obtain ⟨sl, e1⟩ := I.base.slot b o e n hb hx
      exact ⟨sl, (hs.2 b (Nat.ne_of_lt (Nat.lt_of_lt_of_le (Heap.lt_size e) I.ok.above))).trans e1⟩
    · obtain ⟨o', e1⟩ := I.base.there b o e hx
      exact ⟨o', (hs.2 b (Nat.ne_of_lt (Nat.lt_of_lt_of_le (Heap.lt_size e) I.ok.above))).trans e1⟩
    · by_cases hj : j = i
      · subst hj
        rw [hi] at e1; cases e1
        rw [List.getElem?_set_self hiσ] at e2
        cases e2
        exact ⟨u, r, .inl ⟨hk, by simp⟩⟩
      · rw [List.getElem?_set_ne (Ne.symm hj)] at e2
        obtain ⟨u', r', q⟩ := hl j y v' e1 e2 e3
        refine ⟨u', r', ?_⟩
        rcases q with ⟨k, e⟩ | ⟨k, c, e, z⟩
        · refine .inl ⟨k, ?_⟩
          have : y ≠ x := fun e => hj (nodup_ix hN e1 (e ▸ hi))
          simp [this, e]
        · exact .inr ⟨k, c, e, z.sameBut hs (cne y c e)⟩
    · obtain ⟨w', z⟩ := I.cell y c e
      exact ⟨w', z.sameBut hs (cne y c e)⟩
    · obtain ⟨e, n, ne, nf, d⟩ := I.pin p hp
      exact ⟨(hs.2 p.1 ne).trans e, n, ne, nf, d⟩
  · have hfn : X.fn x = true := by
      rcases hf with z | z
      · exact z
      · rw [z] at hk; cases hk
    obtain ⟨c, hc⟩ := I.ok.has x (.inl hk)
    obtain ⟨w', z⟩ := I.cell x c hc
    refine wpAny_storeName_cell I.ok.kind hk hc z (fun h' hc' hs => ?_)
    obtain ⟨oc, hoc, hocd⟩ := id z
    refine h { s with heap := h' } ⟨I.ok, I.os, I.bare, ⟨fun b o e n hb hx => ?_, fun b o e n hb hx => ?_, I.base.free, fun b o e hx => ?_, I.base.tups, I.base.frzs, I.base.tbls⟩, ⟨m, hn.sameBut hs (Ne.symm (cne x c hc)), fun j y v' e1 e2 e3 => ?_⟩, fun y c' e => ?_, I.free, I.freeC, fun p hp => ?_, tracked ⟨oc, hoc, I.freeC x c hc⟩ hs, by simpa using I.len⟩ ⟨c, hs, .inr hc⟩
    · exact (hs.2 b (Nat.ne_of_lt (Nat.lt_of_lt_of_le (Heap.lt_size e) (I.ok.cab x c hfn hc)))).trans (I.base.keep b o e n hb hx)
    · obtain ⟨sl, e1⟩ := I.base.slot b o e n hb hx
      exact ⟨sl, (hs.2 b (Nat.ne_of_lt (Nat.lt_of_lt_of_le (Heap.lt_size e) (I.ok.cab x c hfn hc)))).trans e1⟩
    · obtain ⟨o', e1⟩ := I.base.there b o e hx
      exact ⟨o', (hs.2 b (Nat.ne_of_lt (Nat.lt_of_lt_of_le (Heap.lt_size e) (I.ok.cab x c hfn hc)))).trans e1⟩
    · by_cases hj : j = i
      · subst hj
        rw [hi] at e1; cases e1
        rw [List.getElem?_set_self hiσ] at e2
        cases e2
        exact ⟨u, r, .inr ⟨.inl hk, c, hc, hc'⟩⟩
      · rw [List.getElem?_set_ne (Ne.symm hj)] at e2
        obtain ⟨u', r', q⟩ := hl j y v' e1 e2 e3
        refine ⟨u', r', ?_⟩
        rcases q with q | ⟨k, c', e, z'⟩
        · exact .inl q
        · refine .inr ⟨k, c', e, z'.sameBut hs ?_⟩
          rintro rfl
          exact hj (nodup_ix hN e1 (I.ok.inj _ _ _ e hc ▸ hi))
    · by_cases hcc : c' = c
      · subst hcc; exact ⟨_, hc'⟩
      · obtain ⟨w2, z2⟩ := I.cell y c' e
        exact ⟨w2, z2.sameBut hs hcc⟩
    · obtain ⟨e, n, ne, nf, d⟩ := I.pin p hp
      refine ⟨(hs.2 p.1 ?_).trans e, n, ne, nf, d⟩
      intro q
      rw [q, hoc] at e
      have q' : oc = p.2 := Option.some.inj e
      exact d w' (by rw [← q']; exact hocd)
theorem store_ok {M : Model} {A : Around} {E : Value → Shared → Prop} {i : Nat} {x : Str} {v : V} {u : Value} {Q : Unit → Shared → Prop} (I : Inv X pins σ H s) (hN : X.N.Nodup) (hi : X.N[i]? = some x) (hx : Loc X.env.scope x) (r : RelV v u)
    (h : ∀ s', Inv X pins (σ.set i (some v)) H s' → Q () s') (hf : X.fn x = true ∨ X.env.scope.names.lookup x = some .local := by first | exact .inl rfl | exact .inr rfl | assumption) : wpAny M A (storeName X.env x u) Q E s :=
  store_ok2 I hN hi hx r (fun s' I' _ => h s' I') hf
/-- behind a call or a block, the state as it is -/
theorem Inv.call' {s' : Shared} {ch : List Addr} (I : Inv X pins σ H s) (ho : s'.os = s.os) (u : Un (frs X.stack) ch H H' s.heap s'.heap) (hok : HOk X.prog X.w H' s'.heap) (hg : AllBare s'.gens)
    (hch : ∀ b ∈ ch, (b ∈ X.ex ∨ X.s₀.heap.objs.size ≤ b) ∧ b ≠ X.env.locals ∧ (∀ x c, X.env.cells.lookup x = some c → c ≠ b) ∧ ∀ p ∈ X.pn ++ pins, p.1 ≠ b) : Inv X pins σ H' s' := by
  obtain ⟨h', g', d', t', o'⟩ := s'
  have e : o' = s.os := ho
  subst e
  exact I.call (g' := g') (t' := t') (d' := d') u hok hg hch
end

/-! ### the judgements -/
/-- an exception: its class, its own dict's address (where it has one), the abstract heap behind it -/
abbrev XK := Value → Option Addr → Hp → Prop
abbrev St := List (Option V)
abbrev VK := V → Hp → Prop
/-- an expression's reading; a test's; an argument list's -/
abbrev TE := St → Hp → VK → Prop
abbrev TT := St → Hp → (Bool → Hp → Prop) → Prop
abbrev TA := St → Hp → (List V → Hp → Prop) → Prop
/-- what is wanted behind a statement -/
structure Ends where
  nx : St → Hp → Prop
  rt : VK
  bk : St → Hp → Prop := fun _ _ => False
  ct : St → Hp → Prop := fun _ _ => False
abbrev TS := Ends → St → Hp → Prop

def EP (X : Cx) (pins : List (Addr × Obj)) (σ : St) (Q : VK) (u : Value) (s' : Shared) : Prop := ∃ v H', Inv X pins σ H' s' ∧ RelV v u ∧ Q v H'
def TP (X : Cx) (pins : List (Addr × Obj)) (σ : St) (Q : Bool → Hp → Prop) (b : Bool) (s' : Shared) : Prop := ∃ H', Inv X pins σ H' s' ∧ Q b H'
def AP (X : Cx) (pins : List (Addr × Obj)) (σ : St) (Q : List V → Hp → Prop) (us : List Value) (s' : Shared) : Prop := ∃ vs H', Inv X pins σ H' s' ∧ Vals vs us ∧ Q vs H'
def SP (X : Cx) (pins : List (Addr × Obj)) (D : Ends) (f : Flow) (s' : Shared) : Prop :=
  match f with
  | .next => ∃ σ' H', Inv X pins σ' H' s' ∧ D.nx σ' H'
  | .brk => ∃ σ' H', Inv X pins σ' H' s' ∧ D.bk σ' H'
  | .cont => ∃ σ' H', Inv X pins σ' H' s' ∧ D.ct σ' H'
  | .ret u => ∃ v σ' H', Inv X pins σ' H' s' ∧ RelV v u ∧ D.rt v H'

def PE (X : Cx) (e : Expr) (t : TE) : Prop :=
  ∀ (pins : List (Addr × Obj)) (s : Shared) (σ : St) (H : Hp) (Q : VK), Inv X pins σ H s → t σ H Q → wpAny (model X.prog X.w) X.A (eval e X.env) (EP X pins σ Q) X.xe s
def PT (X : Cx) (e : Expr) (t : TT) : Prop :=
  ∀ (pins : List (Addr × Obj)) (s : Shared) (σ : St) (H : Hp) (Q : Bool → Hp → Prop), Inv X pins σ H s → t σ H Q → wpAny (model X.prog X.w) X.A (isTrue e X.env (eval e X.env)) (TP X pins σ Q) X.xe s
/-- a test whatever its 'whole' is (and, or) -/
def PW (X : Cx) (e : Expr) (t : TT) : Prop :=
  ∀ (whole : Sem Value) (pins : List (Addr × Obj)) (s : Shared) (σ : St) (H : Hp) (Q : Bool → Hp → Prop), Inv X pins σ H s → t σ H Q → wpAny (model X.prog X.w) X.A (isTrue e X.env whole) (TP X pins σ Q) X.xe s
theorem PW.pt {X : Cx} {e : Expr} {t : TT} (h : PW X e t) : PT X e t := h _
/-- an argument list (no star), from the left -/
def PA (X : Cx) (es : List Expr) (t : TA) : Prop :=
  ∀ (pos : Pos) (pins : List (Addr × Obj)) (s : Shared) (σ : St) (H : Hp) (Q : List V → Hp → Prop), Inv X pins σ H s → t σ H Q → wpAny (model X.prog X.w) X.A (spliced (backTo pos (starEach es X.env))) (AP X pins σ Q) X.xe s
def PS (X : Cx) (st : Stmt) (t : TS) : Prop :=
  ∀ (pins : List (Addr × Obj)) (s : Shared) (σ : St) (H : Hp) (D : Ends), Inv X pins σ H s → t D σ H → wpAny (model X.prog X.w) X.A (exec st X.env) (SP X pins D) X.xe s
def PSs (X : Cx) (st : List Stmt) (t : TS) : Prop :=
  ∀ (pins : List (Addr × Obj)) (s : Shared) (σ : St) (H : Hp) (D : Ends), Inv X pins σ H s → t D σ H → wpAny (model X.prog X.w) X.A (execs st X.env) (SP X pins D) X.xe s
/-- weaken the end -/
theorem thn {α : Type} {t : Sem α} {Q Q' : α → Shared → Prop} {M : Model} {A : Around} {E : Value → Shared → Prop} {s : Shared} (h : wpAny M A t Q E s) (hQ : ∀ a s, Q a s → Q' a s) : wpAny M A t Q' E s := wpAny_mono h hQ fun _ _ x => x
end L2

namespace L2
open PySem PySem.Spec PyProof.Rows
section
variable {X : Cx}

/-! ### names and constants -/
def tVar (i : Nat) : TE := fun σ H Q => ∃ v, σ[i]? = some (some v) ∧ Q v H
def tC (v : V) : TE := fun _ H Q => Q v H
theorem pe_var {i : Nat} {x : Str} {pos : Pos} (hN : X.N[i]? = some x) (hv : Vis X.env.scope x) (hd : (x == ("__debug__" : Str)) = false := by decide) (hcd : (x == ("__classdict__" : Str)) = false := by decide) : PE X (.Name x pos) (tVar i) := by
  intro pins s σ H Q I h
  obtain ⟨v, e, h⟩ := h
  obtain ⟨m, hn, hl⟩ := I.loc
  obtain ⟨u, r, l⟩ := hl i x v hN e hv
  have fin : EP X pins σ Q u s := ⟨v, H, I, r, h⟩
  rcases l with ⟨hk, hm⟩ | ⟨hk, c, hc, hcell⟩
  · exact wpAny_Name (wpAny_loadName_local I.ok.kind hk hn hm fin) hd
  · rcases hk with hk | hk
    · exact wpAny_Name (wpAny_loadName_cell I.ok.kind hk hc hcell fin) hd
    · exact wpAny_Name (wpAny_loadName_free I.ok.kind hk hc hcell fin hcd) hd
theorem pe_int {i j pos} : PE X (.Constant (.int i) j pos) (tC (.int i)) := fun _ _ _ H _ I h => wpAny_Constant_int ⟨.int i, H, I.tok _, ⟨_, rfl⟩, h⟩
theorem pe_bl {b j pos} : PE X (.Constant (.bool b) j pos) (tC (.bl b)) := fun _ _ _ H _ I h => Constant_bool ⟨.bl b, H, I, rfl, h⟩
/-- a global name of the def -/
def Gl (X : Cx) (x : Str) : Prop := X.env.kindOf x = some .globalImplicit
theorem ld_glob {E : Value → Shared → Prop} {pins : List (Addr × Obj)} {s : Shared} {σ : St} {H : Hp} {x : Str} {u : Value} {pos : Pos} {Q : Value → Shared → Prop} (I : Inv X pins σ H s) (hg : Gl X x) (hm : X.mg x = some u) (h : Q u s)
    (hd : (x == ("__debug__" : Str)) = false := by decide) : wpAny (model X.prog X.w) X.A (eval (.Name x pos) X.env) Q E s :=
  Calls.Name_function_global I.ok.kind hg (Calls.loadGlobal_global (by rw [I.ok.glob]; exact I.mod.glob.keeps I.bk) hm h) hd
theorem ld_blt {E : Value → Shared → Prop} {pins : List (Addr × Obj)} {s : Shared} {σ : St} {H : Hp} {x : Str} {u : Value} {pos : Pos} {Q : Value → Shared → Prop} (I : Inv X pins σ H s) (hg : Gl X x) (hm : X.mg x = none) (hv : bootBuiltins x = some u) (h : Q u s)
    (hn : x ≠ "__name__" := by decide) (hd : (x == ("__debug__" : Str)) = false := by decide) : wpAny (model X.prog X.w) X.A (eval (.Name x pos) X.env) Q E s := by
  obtain ⟨mb, h1, h2⟩ := I.mod.blt
  exact Calls.Name_function_global I.ok.kind hg (Calls.loadGlobal_builtin (by rw [I.ok.glob]; exact I.mod.glob.keeps I.bk) hm (by rw [I.ok.blt]; exact h1.keeps I.bk) ((h2 x hn).trans hv) h) hd
theorem pe_bltn {x : Str} {v : V} {u : Value} {pos : Pos} (hg : Gl X x) (hm : X.mg x = none) (hv : bootBuiltins x = some u) (r : RelV v u) (hn : x ≠ "__name__" := by decide) (hd : (x == ("__debug__" : Str)) = false := by decide) : PE X (.Name x pos) (tC v) :=
  fun _ _ _ H _ I h => ld_blt I hg hm hv ⟨v, H, I, r, h⟩ hn hd

/-! ### arithmetic -/
variable {a b : Expr} {ta tb : TE} {pos : Pos}
/-! ### comparisons -/
/-- a comparison as a value, as a test -/
def tB (t : TE) : TT := fun σ H Q => t σ H fun x H1 => ∃ c, x = .bl c ∧ Q c H1
/-- an expression whose value is a bool, as a test -/
theorem pt_val {e : Expr} {t : TE} (h : PE X e t) (he : ∀ whole, isTrue e X.env whole = (do let v ← whole; standAt e.pos; holding [v] (truthy v)) := by intro _; rfl) : PT X e (tB t) := by
  intro pins s σ H Q I hw
  refine isTrue_plain (thn (h pins s σ H _ I hw) fun v s1 ⟨x, H1, I1, r1, q1⟩ => ?_) (he _)
  obtain ⟨d, rfl, q⟩ := q1
  cases r1
  exact wpAny_truthy_bool ⟨H1, I1, q⟩

/-! ### and, or, not -/
variable {tA tB' : TT} {rest : List Expr}
def tAnd (t u : TT) : TT := fun σ H Q => t σ H fun c H1 => if c = true then u σ H1 Q else Q false H1
def tOr (t u : TT) : TT := fun σ H Q => t σ H fun c H1 => if c = true then Q true H1 else u σ H1 Q
def tNot (t : TT) : TT := fun σ H Q => t σ H fun c H1 => Q (!c) H1
theorem pw_and1 (ha : PT X a tA) : PW X (.BoolOp .And [a] pos) tA := by
  intro wh pins s σ H Q I h
  refine isTrue_and (thn (ha pins s σ H Q I h) fun c s1 e => ?_)
  cases c with
  | true => exact isTrue_and_nil e
  | false => exact e
theorem pw_or1 (ha : PT X a tA) : PW X (.BoolOp .Or [a] pos) tA := by
  intro wh pins s σ H Q I h
  refine isTrue_or (thn (ha pins s σ H Q I h) fun c s1 e => ?_)
  cases c with
  | false => exact isTrue_or_nil e
  | true => exact e
theorem pw_and (ha : PT X a tA) (hb : PW X (.BoolOp .And (b :: rest) pos) tB') : PW X (.BoolOp .And (a :: b :: rest) pos) (tAnd tA tB') := by
  intro wh pins s σ H Q I h
  refine isTrue_and (thn (ha pins s σ H _ I h) fun c s1 ⟨H1, I1, q1⟩ => ?_)
  cases c with
  | true => exact hb wh pins s1 σ H1 Q I1 q1
  | false => exact ⟨H1, I1, q1⟩
theorem pw_or (ha : PT X a tA) (hb : PW X (.BoolOp .Or (b :: rest) pos) tB') : PW X (.BoolOp .Or (a :: b :: rest) pos) (tOr tA tB') := by
  intro wh pins s σ H Q I h
  refine isTrue_or (thn (ha pins s σ H _ I h) fun c s1 ⟨H1, I1, q1⟩ => ?_)
  cases c with
  | true => exact ⟨H1, I1, q1⟩
  | false => exact hb wh pins s1 σ H1 Q I1 q1
theorem pt_not (ha : PT X a tA) : PT X (.UnaryOp .Not a pos) (tNot tA) := by
  intro pins s σ H Q I h
  exact isTrue_not (ha pins s σ H (fun c H1 => Q (!c) H1) I h)
/-- .. as values (bools) -/
def tAndV (ta tb : TE) : TE := fun σ H Q => ta σ H fun x H1 => ∃ c, x = .bl c ∧ if c = true then tb σ H1 Q else Q (.bl false) H1
def tOrV (ta tb : TE) : TE := fun σ H Q => ta σ H fun x H1 => ∃ c, x = .bl c ∧ if c = true then Q (.bl true) H1 else tb σ H1 Q
def tNotV (ta : TE) : TE := fun σ H Q => ta σ H fun x H1 => ∃ c, x = .bl c ∧ Q (.bl (!c)) H1
theorem pe_one {op} {t : TE} (h : PE X a t) : PE X (.BoolOp op [a] pos) t := fun pins s σ H Q I hw => BoolOp_one (h pins s σ H Q I hw)
theorem pe_and (ha : PE X a ta) (hb : PE X (.BoolOp .And (b :: rest) pos) tb) : PE X (.BoolOp .And (a :: b :: rest) pos) (tAndV ta tb) := by
  intro pins s σ H Q I h
  refine BoolOp_and (thn (ha pins s σ H _ I h) fun v s1 ⟨x, H1, I1, r1, q1⟩ => ?_)
  obtain ⟨c, rfl, q1⟩ := q1
  cases r1
  refine wpAny_truthy_bool ?_
  cases c with
  | true => exact hb pins s1 σ H1 Q I1 q1
  | false => exact ⟨.bl false, H1, I1, rfl, q1⟩
theorem pe_or (ha : PE X a ta) (hb : PE X (.BoolOp .Or (b :: rest) pos) tb) : PE X (.BoolOp .Or (a :: b :: rest) pos) (tOrV ta tb) := by
  intro pins s σ H Q I h
  refine BoolOp_or (thn (ha pins s σ H _ I h) fun v s1 ⟨x, H1, I1, r1, q1⟩ => ?_)
  obtain ⟨c, rfl, q1⟩ := q1
  cases r1
  refine wpAny_truthy_bool ?_
  cases c with
  | false => exact hb pins s1 σ H1 Q I1 q1
  | true => exact ⟨.bl true, H1, I1, rfl, q1⟩
theorem pe_not (ha : PE X a ta) : PE X (.UnaryOp .Not a pos) (tNotV ta) := by
  intro pins s σ H Q I h
  refine UnaryOp_ (thn (ha pins s σ H _ I h) fun v s1 ⟨x, H1, I1, r1, q1⟩ => ?_)
  obtain ⟨c, rfl, q1⟩ := q1
  cases r1
  exact not_of (wpAny_truthy_bool ⟨.bl (!c), H1, I1, rfl, q1⟩)
/-- a if t else b -/
def tIf (t : TT) (ta tb : TE) : TE := fun σ H Q => t σ H fun c H1 => if c = true then ta σ H1 Q else tb σ H1 Q
end
end L2

namespace L2
open PySem PySem.Spec PyProof.Rows

/-! ### a list, a tuple that is read: tracked, frozen, or an object of the module -/
def SqL (K : PySem.W.Frag) (H : Hp) (a : Addr) (xs : List V) : Prop :=
  Rd H a (.lst xs) ∨
    ∃ (o : Obj) (its : Array Value) (n : Nat), K.lookup a = some o ∧ o.cls = .type "list" ∧ o.dict = none ∧ o.data = .seq its n ∧ its.size ≤ sizeLine ∧ Vals xs its.toList
def SqT (K : PySem.W.Frag) (H : Hp) (a : Addr) (xs : List V) : Prop :=
  Rd H a (.tup xs) ∨
    ∃ (o : Obj) (its : Array Value) (n : Nat), K.lookup a = some o ∧ o.cls = .type "tuple" ∧ o.data = .seq its n ∧ its.size ≤ sizeLine ∧ Vals xs its.toList
def absV : Value → Option V
  | .none => some .non
  | .bool b => some (.bl b)
  | .int i _ => some (.int i)
  | .str x _ => some (.str x)
  | .bytes b _ => some (.byt b)
  | .float b _ => some (.flt b)
  | .ref a => some (.ref a)
  | .type n => some (.ty n)
  | _ => none
theorem RelV.abs {x : V} {u : Value} (r : RelV x u) : absV u = some x := by
  cases x with
  | non => cases r; rfl
  | bl _ => cases r; rfl
  | int _ => obtain ⟨t, rfl⟩ := r; rfl
  | str _ => obtain ⟨t, rfl⟩ := r; rfl
  | byt _ => obtain ⟨t, rfl⟩ := r; rfl
  | flt _ => obtain ⟨t, rfl⟩ := r; rfl
  | ref _ => cases r; rfl
  | ty _ => cases r; rfl
theorem RelV.inj {x y : V} {u : Value} (r : RelV x u) (q : RelV y u) : x = y := Option.some.inj (r.abs.symm.trans q.abs)
theorem Vals.inj : ∀ {xs ys : List V} {us : List Value}, Vals xs us → Vals ys us → xs = ys
  | _, _, _, .nil, .nil => rfl
  | _, _, _, .cons r t, .cons r' t' => by rw [r.inj r', Vals.inj t t']
section
variable {X : Cx} {pins : List (Addr × Obj)} {σ : St} {H : Hp} {s : Shared} {a : Addr} {xs ys : List V}
theorem SqL.of {K : PySem.W.Frag} (h : H a = some (.lst xs)) : SqL K H a xs := .inl (.inl h)
theorem SqT.of {K : PySem.W.Frag} (h : H a = some (.tup xs)) : SqT K H a xs := .inl (.inl h)
theorem Inv.list (I : Inv X pins σ H s) (h : SqL X.K H a xs) : ∃ its : List Value, Vals xs its ∧ PlainL s.heap a its.toArray ∧ xs.length ≤ sizeLine := by
  rcases h with h | ⟨o, its, n, hk, hc, hd, hs, hz, r⟩
  · obtain ⟨z, its, n, r, e⟩ := h.ok I.hok
    exact ⟨its, r, ⟨_, n, e, rfl, rfl, rfl⟩, z⟩
  · refine ⟨its.toList, r, ⟨o, n, I.kIn a o hk, hc, hd, by simpa using hs⟩, ?_⟩
    have e := r.length
    simp only [Array.length_toList] at e
    omega
theorem Inv.tuple (I : Inv X pins σ H s) (h : SqT X.K H a xs) : ∃ its : List Value, Vals xs its ∧ IsTup s.heap a its.toArray ∧ xs.length ≤ sizeLine := by
  rcases h with h | ⟨o, its, n, hk, hc, hs, hz, r⟩
  · obtain ⟨z, its, r, p⟩ := h.ok I.hok
    exact ⟨its, r, p, z⟩
  · refine ⟨its.toList, r, ⟨o, I.kIn a o hk, hc, n, by simpa using hs⟩, ?_⟩
    have e := r.length
    simp only [Array.length_toList] at e
    omega
theorem Inv.list_inj (I : Inv X pins σ H s) (h : SqL X.K H a xs) (h' : SqL X.K H a ys) : xs = ys := by
  obtain ⟨its, r, ⟨o, n, e, _, _, d⟩, _⟩ := I.list h
  obtain ⟨its', r', ⟨o', n', e', _, _, d'⟩, _⟩ := I.list h'
  rw [e] at e'; cases e'
  rw [d] at d'
  injection d' with d1 _
  have : its = its' := by simpa using congrArg Array.toList d1
  subst this
  exact r.inj r'
theorem Inv.tuple_inj (I : Inv X pins σ H s) (h : SqT X.K H a xs) (h' : SqT X.K H a ys) : xs = ys := by
  obtain ⟨its, r, ⟨o, e, _, n, d⟩, _⟩ := I.tuple h
  obtain ⟨its', r', ⟨o', e', _, n', d'⟩, _⟩ := I.tuple h'
  rw [e] at e'; cases e'
  rw [d] at d'
  injection d' with d1 _
  have : its = its' := by simpa using congrArg Array.toList d1
  subst this
  exact r.inj r'
end

/-! ### another wish about exceptions -/
abbrev Cx.wish (X : Cx) (E : Value → Shared → Prop) : Cx := { X with xe := E }
/-- no exception leaves -/
abbrev Cx.nox (X : Cx) : Cx := X.wish fun _ _ => False
theorem Cx.Ok.wish {X : Cx} (ok : X.Ok) (E : Value → Shared → Prop) : (X.wish E).Ok :=
  ⟨ok.mod, ok.kind, ok.glob, ok.blt, ok.above, ok.inj, ok.has, ok.cab, ok.hd, ok.frames, ok.stk, ok.exf, ok.bs, ok.bsz, ok.noex, ok.exfs, ok.funs, ok.frf⟩
theorem Cx.Ok.unwish {X : Cx} {E : Value → Shared → Prop} (ok : (X.wish E).Ok) : X.Ok :=
  ⟨ok.mod, ok.kind, ok.glob, ok.blt, ok.above, ok.inj, ok.has, ok.cab, ok.hd, ok.frames, ok.stk, ok.exf, ok.bs, ok.bsz, ok.noex, ok.exfs, ok.funs, ok.frf⟩
section
variable {X : Cx} {pins : List (Addr × Obj)} {σ : St} {H : Hp} {s : Shared} {E : Value → Shared → Prop}
theorem Inv.wish (I : Inv X pins σ H s) (E : Value → Shared → Prop) : Inv (X.wish E) pins σ H s := ⟨I.ok.wish E, I.os, I.bare, I.base, I.loc, I.cell, I.free, I.freeC, I.pin, I.hok, I.len⟩
theorem Inv.unwish (I : Inv (X.wish E) pins σ H s) : Inv X pins σ H s := ⟨I.ok.unwish, I.os, I.bare, I.base, I.loc, I.cell, I.free, I.freeC, I.pin, I.hok, I.len⟩
theorem SP.unwish {D : Ends} {f : Flow} {s' : Shared} (h : SP (X.wish E) pins D f s') : SP X pins D f s' := by
  cases f with
  | next => obtain ⟨σ', H', I, q⟩ := h; exact ⟨σ', H', I.unwish, q⟩
  | brk => obtain ⟨σ', H', I, q⟩ := h; exact ⟨σ', H', I.unwish, q⟩
  | cont => obtain ⟨σ', H', I, q⟩ := h; exact ⟨σ', H', I.unwish, q⟩
  | ret u => obtain ⟨v, σ', H', I, r, q⟩ := h; exact ⟨v, σ', H', I.unwish, r, q⟩
theorem PE.nox {e : Expr} {t : TE} (h : PE X.nox e t) : PE X e t := fun pins s σ H Q I hw =>
  wpAny_mono (h pins s σ H Q (I.wish _) hw) (fun _ _ ⟨v, H', I', r, q⟩ => ⟨v, H', I'.unwish, r, q⟩) fun _ _ z => False.elim z
theorem PT.nox {e : Expr} {t : TT} (h : PT X.nox e t) : PT X e t := fun pins s σ H Q I hw =>
  wpAny_mono (h pins s σ H Q (I.wish _) hw) (fun _ _ ⟨H', I', q⟩ => ⟨H', I'.unwish, q⟩) fun _ _ z => False.elim z
theorem PSs.nox {st : List Stmt} {t : TS} (h : PSs X.nox st t) : PSs X st t := fun pins s σ H D I hw =>
  wpAny_mono (h pins s σ H D (I.wish _) hw) (fun _ _ q => q.unwish) fun _ _ z => False.elim z
end

/-! ### blocks and small statements -/
section
variable {X : Cx} {st : Stmt} {rest : List Stmt} {t u : TS} {e : Expr} {te : TE} {pos : Pos}
def tNext : TS := fun D σ H => D.nx σ H
def tSeq (t u : TS) : TS := fun D σ H => t { D with nx := u D } σ H
theorem pss_nil : PSs X [] tNext := fun _ _ σ H _ I h => wpAny_execs_nil ⟨σ, H, I, h⟩
theorem pss_cons (h1 : PS X st t) (h2 : PSs X rest u) : PSs X (st :: rest) (tSeq t u) := by
  intro pins s σ H D I h
  refine wpAny_execs_cons (thn (h1 pins s σ H { D with nx := u D } I h) fun f s1 q => ?_)
  cases f with
  | next =>
    obtain ⟨σ', H', I', q⟩ := q
    exact h2 pins s1 σ' H' D I' q
  | ret v => exact q
  | brk => exact q
  | cont => exact q
theorem pss_one (h1 : PS X st t) : PSs X [st] t := by
  intro pins s σ H D I h
  refine wpAny_execs_cons (thn (h1 pins s σ H D I h) fun f s1 q => ?_)
  cases f with
  | next => exact wpAny_execs_nil q
  | ret v => exact q
  | brk => exact q
  | cont => exact q
def tBreak : TS := fun D σ H => D.bk σ H
def tCont : TS := fun D σ H => D.ct σ H
/-- in a def's body nothing is shown -/
theorem Inv.quiet {pins : List (Addr × Obj)} {σ : St} {H : Hp} {s : Shared} (I : Inv X pins σ H s) : interactive X.env = false := by simp [interactive, I.ok.kind]
/-- an expression whose value is dropped -/
def tDrop (te : TE) : TS := fun D σ H => te σ H fun _ H1 => D.nx σ H1
theorem ps_expr (he : PE X e te) (hs : swapsWith e none pos.line X.env = pure false := by rfl) : PS X (.Expr e pos) (tDrop te) := by
  intro pins s σ H D I h
  exact wpAny_Expr_any (thn (he pins s σ H _ I h) fun v s1 ⟨x, H1, I1, r1, q1⟩ => ⟨σ, H1, I1, q1⟩) I.quiet hs
def tRet (te : TE) : TS := fun D σ H => te σ H D.rt
theorem ps_ret (he : PE X e te) : PS X (.Return (some e) pos) (tRet te) := by
  intro pins s σ H D I h
  exact wpAny_Return_some (thn (he pins s σ H _ I h) fun v s1 ⟨x, H1, I1, r1, q1⟩ => ⟨x, σ, H1, I1, r1, q1⟩)
def tRetN : TS := fun D _ H => D.rt .non H
def tIfS (c : TT) (t u : TS) : TS := fun D σ H => c σ H fun b H1 => if b = true then t D σ H1 else u D σ H1
theorem ps_if {c : Expr} {a b : List Stmt} {tc : TT} (hc : PT X c tc) (ha : PSs X a t) (hb : PSs X b u) : PS X (.If c a b pos) (tIfS tc t u) := by
  intro pins s σ H D I h
  refine wpAny_If (thn (hc pins s σ H _ I h) fun d s1 ⟨H1, I1, q1⟩ => ?_)
  cases d with
  | true => exact ha pins s1 σ H1 D I1 q1
  | false => exact hb pins s1 σ H1 D I1 q1
end

/-! ### targets -/
abbrev TG := V → St → Hp → (St → Hp → Prop) → Prop
abbrev TGs := List V → St → Hp → (St → Hp → Prop) → Prop
def PG (X : Cx) (target : Expr) (t : TG) : Prop :=
  ∀ (pins : List (Addr × Obj)) (s : Shared) (σ : St) (H : Hp) (v : V) (u : Value) (Q : St → Hp → Prop), Inv X pins σ H s → RelV v u → t v σ H Q →
    wpAny (model X.prog X.w) X.A (assign target X.env u) (fun _ s' => ∃ σ' H', Inv X pins σ' H' s' ∧ Q σ' H') X.xe s
/-- several targets, one after another -/
def PGs (X : Cx) (ts : List Expr) (t : TGs) : Prop :=
  ∀ (pins : List (Addr × Obj)) (s : Shared) (σ : St) (H : Hp) (vs : List V) (us : List Value) (Q : St → Hp → Prop), Inv X pins σ H s → Vals vs us → t vs σ H Q →
    wpAny (model X.prog X.w) X.A (assignInOrder ((assignEach ts X.env).map (·.2)) us) (fun _ s' => ∃ σ' H', Inv X pins σ' H' s' ∧ Q σ' H') X.xe s
/-- o[i] = v, by values -/
abbrev TSet := V → V → V → Hp → (Hp → Prop) → Prop
section
variable {X : Cx} {pos : Pos}
def gName (i : Nat) : TG := fun v σ H Q => Q (σ.set i (some v)) H
theorem pg_name {i : Nat} {x : Str} (hN : X.N.Nodup) (hi : X.N[i]? = some x) (hx : Loc X.env.scope x) (hf : X.fn x = true ∨ X.env.scope.names.lookup x = some .local := by first | exact .inl rfl | exact .inr rfl | assumption) : PG X (.Name x pos) (gName i) := by
  intro pins s σ H v u Q I r h
  exact wpAny_assign_Name (store_ok I hN hi hx r (fun s' I' => ⟨_, H, I', h⟩) hf)
def gNil : TGs := fun vs σ H Q => vs = [] ∧ Q σ H
def gCons (t : TG) (u : TGs) : TGs := fun vs σ H Q => ∃ v r, vs = v :: r ∧ t v σ H fun σ' H' => u r σ' H' Q
theorem pgs_nil : PGs X [] gNil := by
  intro pins s σ H vs us Q I r h
  obtain ⟨e, h⟩ := h
  subst e
  cases r
  exact assignInOrder_nil ⟨σ, H, I, h⟩
theorem pgs_cons {e : Expr} {es : List Expr} {t : TG} {u : TGs} (h1 : PG X e t) (h2 : PGs X es u)
    (hs : (assignEach (e :: es) X.env).map (·.2) = assign e X.env :: (assignEach es X.env).map (·.2) := by rfl) : PGs X (e :: es) (gCons t u) := by
  intro pins s σ H vs us Q I r h
  obtain ⟨v, vr, e1, h⟩ := h
  subst e1
  cases r with
  | cons r rr =>
    rw [hs]
    refine assignInOrder_cons (thn (h1 pins s σ H _ _ _ I r h) fun _ s1 ⟨σ1, H1, I1, q1⟩ => ?_)
    exact h2 pins s1 σ1 H1 _ _ Q I1 rr q1
/-- (a, b, ..) = a tuple of that length -/
def gTup (K : PySem.W.Frag) (n : Nat) (t : TGs) : TG := fun v σ H Q => ∃ a xs, v = .ref a ∧ SqT K H a xs ∧ xs.length = n ∧ t xs σ H Q
theorem pg_tup {es : List Expr} {k : Nat} {t : TGs} {n : Nat} (hc : X.calm = true) (h : PGs X es t)
    (hn : (assignEach es X.env).length = n := by rfl) (hst : (assignEach es X.env).findIdx? (·.1) = none := by rfl) : PG X (.Tuple es k pos) (gTup X.K n t) := by
  intro pins s σ H v u Q I r hw
  obtain ⟨a, xs, e1, hq, hl, hw⟩ := hw
  subst e1
  cases r
  obtain ⟨its, rv, ht, hz⟩ := I.tuple hq
  refine assign_Tuple_tuple (I.ok.hd hc) ht (by simp [hn, ← hl, rv.length]) hst fun h' hx => ?_
  have I1 : Inv X pins σ H { s with heap := h' } := I.kept (t' := s.toks) fun b o e => hx b o (Nat.ne_of_lt (Heap.lt_size e)) e
  exact h pins _ σ H xs _ Q I1 (by simpa using rv) hw
/-- o[i] = .. -/
def gSub (to ti : TE) (t : TSet) : TG := fun v σ H Q => to σ H fun o H1 => ti σ H1 fun i H2 => t o i v H2 fun H3 => Q σ H3
/-- target = value -/
def tAsg (te : TE) (g : TG) : TS := fun D σ H => te σ H fun x H1 => g x σ H1 D.nx
/-- name = value -/
theorem ps_set {i : Nat} {x : Str} {e : Expr} {te : TE} {pos' : Pos} (hN : X.N.Nodup) (hi : X.N[i]? = some x) (hx : Loc X.env.scope x) (he : PE X e te) (hs : swapsWith e (some (.Name x pos')) pos.line X.env = pure false := by rfl) (hf : X.fn x = true ∨ X.env.scope.names.lookup x = some .local := by first | exact .inl rfl | exact .inr rfl | assumption) :
    PS X (.Assign [.Name x pos'] e pos) (tAsg te (gName i)) := by
  intro pins s σ H D I h
  refine wpAny_Assign_Name (thn (he pins s σ H _ I h) fun v s1 ⟨y, H1, I1, r1, q1⟩ => ?_) hs
  exact store_ok I1 hN hi hx r1 (fun s2 I2 => ⟨_, H1, I2, q1⟩) hf
end

/-! ### while -/
section
variable {X : Cx} {pos : Pos}
/-- the invariant W with its measure -/
def tWhile (c : TT) (tb : TS) : TS := fun D σ H => ∃ W : Nat → St → Hp → Prop, (∃ m, W m σ H) ∧ ∀ m σ H, W m σ H →
  c σ H fun b H1 => if b = true then ∃ N : St → Hp → Prop, (∀ σ' H', N σ' H' → ∃ m', m' < m ∧ W m' σ' H') ∧ tb { D with nx := N, ct := N, bk := D.nx } σ H1 else D.nx σ H1
theorem ps_while {c : Expr} {body : List Stmt} {tc : TT} {tb : TS} (hp : PassesOwn (model X.prog X.w) X.A X.env X.xe) (hc : PT X c tc) (hb : PSs X body tb) : PS X (.While c body [] pos) (tWhile tc tb) := by
  intro pins s σ H D I h
  obtain ⟨W, ⟨m0, w0⟩, turn⟩ := h
  refine wpAny_While (codeAny_whileLoop (fun n s' => ∃ σ' H', Inv X pins σ' H' s' ∧ W n σ' H') ?_ m0 ⟨σ, H, I, w0⟩)
  rintro n s1 ⟨σ1, H1, I1, w1⟩
  refine wpAny_passesOwn hp (thn (hc pins s1 σ1 H1 _ I1 (turn n σ1 H1 w1)) fun b s2 ⟨H2, I2, q2⟩ => ?_)
  cases b with
  | true =>
    obtain ⟨N, hN, q2⟩ := q2
    rw [if_pos rfl]
    refine wpAny_passesOwn hp (thn (hb pins s2 σ1 H2 _ I2 q2) fun f s3 q3 => ?_)
    cases f with
    | next =>
      obtain ⟨σ3, H3, I3, n3⟩ := q3
      obtain ⟨m', hm, w3⟩ := hN σ3 H3 n3
      exact ⟨m', hm, σ3, H3, I3, w3⟩
    | cont =>
      obtain ⟨σ3, H3, I3, n3⟩ := q3
      obtain ⟨m', hm, w3⟩ := hN σ3 H3 n3
      exact ⟨m', hm, σ3, H3, I3, w3⟩
    | brk => exact q3
    | ret v => exact q3
  | false =>
    rw [if_neg Bool.false_ne_true]
    exact wpAny_execs_nil ⟨σ1, H2, I2, q2⟩
end

/-! ### what a loop or a comprehension walks -/
/-- at turn i: it yields x (the heap may grow), or it stops -/
structure It where
  go : Nat → Hp → Prop
  yld : Nat → Hp → V → Hp → Prop
  stop : Nat → Hp → Prop
/-- the iterator's own objects may turn: they are not the frame's, not pinned, younger than the entry (or a comprehension's own) -/
def FpOk (X : Cx) (pins : List (Addr × Obj)) (H : Hp) (b : Addr) : Prop :=
  H b = none ∧ b ≠ X.env.locals ∧ b ∉ X.fs ∧ (b ∈ X.ex ∨ X.s₀.heap.objs.size ≤ b) ∧ (∀ x c, X.env.cells.lookup x = some c → c ≠ b) ∧ ∀ p ∈ X.pn ++ pins, p.1 ≠ b
theorem Inv.fpOk {X : Cx} {pins : List (Addr × Obj)} {σ : St} {H H' : Hp} {s : Shared} {b : Addr} (I : Inv X pins σ H s) (hb : s.heap.objs.size ≤ b) (hn : H' b = none) : FpOk X pins H' b := by
  refine ⟨hn, Nat.ne_of_gt (Nat.lt_of_lt_of_le I.lt hb), I.nofs hb, .inr (Nat.le_trans I.sz hb), fun x c e z => ?_, fun p hp z => ?_⟩
  · obtain ⟨v, q⟩ := I.cell x c e
    exact absurd (Nat.lt_of_lt_of_le q.lt (by rw [z]; exact hb)) (Nat.lt_irrefl _)
  · exact absurd (Nat.lt_of_lt_of_le (Heap.lt_size (I.pin p hp).1) (by rw [z]; exact hb)) (Nat.lt_irrefl _)
structure Turn (P : Program) (w : World) (K : PySem.W.Frag) (tg : Expr) (J : It) (fp : List Addr) (it : Addr) (tn : Nat → Heap → Prop) : Prop where
  mem : it ∈ fp
  obj : ∀ i h, tn i h → ∀ b ∈ fp, ∃ o, h.get? b = some o ∧ ∀ v, o.data ≠ .cell v
  keep : ∀ i h h', tn i h → (∀ b ∈ fp, ∀ o, h.get? b = some o → h'.get? b = some o) → tn i h'
  item : ∀ (X : Cx), X.prog = P → X.w = w → X.K = K → X.calm = true → ∀ (i : Nat) (pins : List (Addr × Obj)) (s : Shared) (σ : St) (H : Hp) (E : Value → Shared → Prop), Inv X pins σ H s → (∀ b ∈ fp, FpOk X pins H b) → tn i s.heap → J.go i H →
    wpAny (model P w) X.A (pyNext (.ref it)) (fun r s1 => ∃ u, r = some u ∧
      wpAny (model P w) X.A (letOwnedTupleGo tg (.ref it) u) (fun _ s2 => ∃ x H', Inv X pins σ H' s2 ∧ RelV x u ∧ J.yld i H x H' ∧ tn (i + 1) s2.heap ∧ ∀ b ∈ fp, H' b = none) E s1) E s
  done : ∀ (X : Cx), X.prog = P → X.w = w → X.K = K → X.calm = true → ∀ (i : Nat) (pins : List (Addr × Obj)) (s : Shared) (σ : St) (H : Hp) (E : Value → Shared → Prop), Inv X pins σ H s → (∀ b ∈ fp, FpOk X pins H b) → tn i s.heap → J.stop i H →
    wpAny (model P w) X.A (pyNext (.ref it)) (fun r s1 => r = none ∧ Inv X pins σ H s1) E s
  self : ∀ (A : Around) (i : Nat) (s : Shared) (Q : Value → Shared → Prop) (E : Value → Shared → Prop), tn i s.heap → Q (.ref it) s → wpAny (model P w) A (pyIter (.ref it)) Q E s
abbrev TI := St → Hp → (It → Hp → Prop) → Prop
/-- an iterator has come -/
def PIE (X : Cx) (pins : List (Addr × Obj)) (σ : St) (tg : Expr) (R : It → Hp → Prop) (itv : Value) (s2 : Shared) : Prop :=
  ∃ (it : Addr) (fp : List Addr) (tn : Nat → Heap → Prop) (J : It) (H' : Hp), itv = .ref it ∧ Inv X pins σ H' s2 ∧ Turn X.prog X.w X.K tg J fp it tn ∧ tn 0 s2.heap ∧ (∀ b ∈ fp, FpOk X pins H' b) ∧ R J H'
def PI (X : Cx) (tg iter : Expr) (wi : TI) : Prop :=
  ∀ (pins : List (Addr × Obj)) (s : Shared) (σ : St) (H : Hp) (R : It → Hp → Prop), Inv X pins σ H s → wi σ H R →
    wpAny (model X.prog X.w) X.A (eval iter X.env) (fun v s1 => wpAny (model X.prog X.w) X.A (pyIter v) (PIE X pins σ tg R) X.xe s1) X.xe s

/-- the step ahead of the store is nothing for an iterator that keeps no tuple -/
theorem go_of {M : Model} {A : Around} {E : Value → Shared → Prop} {s : Shared} {tg : Expr} {it : Addr} {u : Value} {o : Obj} {n : String} {vs : Array Value} {Q : Unit → Shared → Prop} (ho : s.heap.get? it = some o) (hc : o.cls = .type n) (hd : o.data = .fields vs)
    (hn : ["enumerate", "zip", "dict_itemiterator", "dict_reverseitemiterator", "odict_iterator", "itertools.zip_longest", "itertools.pairwise"].contains n = false) (hQ : Q () s) : wpAny M A (letOwnedTupleGo tg (.ref it) u) Q E s := by
  unfold letOwnedTupleGo
  cases tg <;> first
    | exact wpAny_pure hQ
    | (cases u <;> first
        | exact wpAny_pure hQ
        | (refine wpAny_bind (wpAny_load ho ?_)
           rw [hc, hd]
           show wpAny M A (if (["enumerate", "zip", "dict_itemiterator", "dict_reverseitemiterator", "odict_iterator", "itertools.zip_longest", "itertools.pairwise"].contains n && vs[0]? == some (rawInt _)) = true then _ else _) Q E s
           rw [if_neg (by intro h; rw [hn, Bool.false_and] at h; cases h)]
           exact wpAny_pure hQ))

/-- the list at a, as it stands at each turn (a loop may append to it) -/
def Itl (K : PySem.W.Frag) (a : Addr) : It :=
  ⟨fun i H => ∃ xs x, SqL K H a xs ∧ xs[i]? = some x, fun i H x H' => H' = H ∧ ∀ xs, SqL K H a xs → xs[i]? = some x, fun i H => ∃ xs, SqL K H a xs ∧ xs.length ≤ i⟩
def Itt (K : PySem.W.Frag) (a : Addr) : It :=
  ⟨fun i H => ∃ xs x, SqT K H a xs ∧ xs[i]? = some x, fun i H x H' => H' = H ∧ ∀ xs, SqT K H a xs → xs[i]? = some x, fun i H => ∃ xs, SqT K H a xs ∧ xs.length ≤ i⟩
/-- lo, lo + 1, .. (n of them) -/
def Itr (lo : Int) (n : Nat) : It := ⟨fun i _ => i < n, fun i H x H' => H' = H ∧ x = .int (lo + i), fun i _ => n ≤ i⟩
theorem turn_list {P : Program} {w : World} {K : PySem.W.Frag} {tg : Expr} (a it : Addr) : Turn P w K tg (Itl K a) [it] it (fun i h => h.IsListIter it a i) where
  mem := by simp
  obj := fun i h st b hb => by
    have e : b = it := by simpa using hb
    subst e
    obtain ⟨o, e, c, d⟩ := st
    exact ⟨o, e, fun v z => by rw [d] at z; cases z⟩
  keep := fun i h h' st k => st.at fun o e => k it (by simp) o e
  item := by
    intro X hP hw hK hc i pins s σ H E I hf st hg
    subst hP hw hK
    obtain ⟨xs, x, hq, hx⟩ := hg
    obtain ⟨its, rv, p, hz⟩ := I.list hq
    obtain ⟨u, hu, ru⟩ := rv.get hx
    obtain ⟨f0, f1, f2, f3, f4, f5⟩ := hf it (by simp)
    refine wpAny_pyNext_list_item st p.isList (x := u) (by simpa using hu) fun h' st' sb => ?_
    have I1 : Inv X pins σ H { s with heap := h' } := I.turned (t' := s.toks) (fun b o hb e => (sb.2 b hb).trans e) f0 f1 f3 f4 f5
    obtain ⟨o, e, c, d⟩ := id st'
    exact ⟨u, rfl, go_of (s := { s with heap := h' }) e c d (by decide) ⟨x, H, I1, ru, ⟨rfl, fun ys hy => by rw [I.list_inj hy hq]; exact hx⟩, st', fun b hb => (hf b hb).1⟩⟩
  done := by
    intro X hP hw hK hc i pins s σ H E I hf st hg
    subst hP hw hK
    obtain ⟨xs, hq, hx⟩ := hg
    obtain ⟨its, rv, p, hz⟩ := I.list hq
    obtain ⟨f0, f1, f2, f3, f4, f5⟩ := hf it (by simp)
    have hl := rv.length
    exact wpAny_pyNext_list_end (I.ok.hd hc) st p.isList (by simp; omega) fun h' eb => ⟨rfl, I.turned (t' := s.toks) (fun b o hb e => eb b o hb e) f0 f1 f3 f4 f5⟩
  self := fun _ _ _ _ _ st h => wpAny_pyIter_listiter st h
theorem turn_tuple {P : Program} {w : World} {K : PySem.W.Frag} {tg : Expr} (a it : Addr) : Turn P w K tg (Itt K a) [it] it (fun i h => h.IsTupleIter it a i) where
  mem := by simp
  obj := fun i h st b hb => by
    have e : b = it := by simpa using hb
    subst e
    obtain ⟨o, e, c, d⟩ := st
    exact ⟨o, e, fun v z => by rw [d] at z; cases z⟩
  keep := fun i h h' st k => st.at fun o e => k it (by simp) o e
  item := by
    intro X hP hw hK hc i pins s σ H E I hf st hg
    subst hP hw hK
    obtain ⟨xs, x, hq, hx⟩ := hg
    obtain ⟨its, rv, p, hz⟩ := I.tuple hq
    obtain ⟨u, hu, ru⟩ := rv.get hx
    obtain ⟨f0, f1, f2, f3, f4, f5⟩ := hf it (by simp)
    refine wpAny_pyNext_tuple_item st (show s.heap.IsTuple a its.toArray from p) (x := u) (by simpa using hu) fun h' st' sb => ?_
    have I1 : Inv X pins σ H { s with heap := h' } := I.turned (t' := s.toks) (fun b o hb e => (sb.2 b hb).trans e) f0 f1 f3 f4 f5
    obtain ⟨o, e, c, d⟩ := id st'
    exact ⟨u, rfl, go_of (s := { s with heap := h' }) e c d (by decide) ⟨x, H, I1, ru, ⟨rfl, fun ys hy => by rw [I.tuple_inj hy hq]; exact hx⟩, st', fun b hb => (hf b hb).1⟩⟩
  done := by
    intro X hP hw hK hc i pins s σ H E I hf st hg
    subst hP hw hK
    obtain ⟨xs, hq, hx⟩ := hg
    obtain ⟨its, rv, p, hz⟩ := I.tuple hq
    obtain ⟨f0, f1, f2, f3, f4, f5⟩ := hf it (by simp)
    have hl := rv.length
    exact wpAny_pyNext_tuple_end (I.ok.hd hc) st (show s.heap.IsTuple a its.toArray from p) (by simp; omega) fun h' eb => ⟨rfl, I.turned (t' := s.toks) (fun b o hb e => eb b o hb e) f0 f1 f3 f4 f5⟩
  self := fun _ _ _ _ _ st h => wpAny_pyIter_tupleiter st h
theorem turn_range {P : Program} {w : World} {K : PySem.W.Frag} {tg : Expr} (it : Addr) (lo : Int) (n : Nat) : Turn P w K tg (Itr lo n) [it] it (fun i h => IsRangeIter h it (lo + (i : Nat) * 1) ((n : Int) - (i : Nat)) 1) where
  mem := by simp
  obj := fun i h st b hb => by
    have e : b = it := by simpa using hb
    subst e
    exact ⟨_, st, fun v z => by
      have z' : Data.fields _ = Data.cell v := z
      cases z'⟩
  keep := fun i h h' st k => k it (by simp) _ st
  item := by
    intro X hP hw hK hc i pins s σ H E I hf st hg
    subst hP hw hK
    obtain ⟨f0, f1, f2, f3, f4, f5⟩ := hf it (by simp)
    have W := Walks.range (prog := X.prog) (w := X.w) (I.ok.hd hc) it lo 1 n
    refine W.item i s _ _ hg st fun v h' tk hv st' kk => ?_
    obtain ⟨t, rfl⟩ := hv
    have I1 : Inv X pins σ H { s with heap := h', toks := tk } := I.turned (fun b o hb e => kk b o (by simpa using hb) e) f0 f1 f3 f4 f5
    refine ⟨_, rfl, go_of (s := { s with heap := h', toks := tk }) (n := "range_iterator") st' rfl rfl (by decide) ⟨.int (lo + i), H, I1, ⟨t, ?_⟩, ⟨rfl, rfl⟩, st', fun b hb => (hf b hb).1⟩⟩
    rw [Int.mul_one]
  done := by
    intro X hP hw hK hc i pins s σ H E I hf st hg
    subst hP hw hK
    obtain ⟨f0, f1, f2, f3, f4, f5⟩ := hf it (by simp)
    exact wpAny_pyNext_range_end (I.ok.hd hc) st (by have : n ≤ i := hg; omega) fun h' eb => ⟨rfl, I.turned (t' := s.toks) (fun b o hb e => eb b o hb e) f0 f1 f3 f4 f5⟩
  self := fun _ _ _ _ _ st h => wpAny_pyIter_rangeiter st h
end L2

namespace L2
open PySem PySem.Spec PyProof.Rows
section
variable {X : Cx} {tg : Expr}
def iList (K : PySem.W.Frag) (tl : TE) : TI := fun σ H R => tl σ H fun x H1 => ∃ a, x = .ref a ∧ (∃ xs, SqL K H1 a xs) ∧ R (Itl K a) H1
def iTup (K : PySem.W.Frag) (tl : TE) : TI := fun σ H R => tl σ H fun x H1 => ∃ a, x = .ref a ∧ (∃ xs, SqT K H1 a xs) ∧ R (Itt K a) H1
theorem pi_list {l : Expr} {tl : TE} (hl : PE X l tl) : PI X tg l (iList X.K tl) := by
  intro pins s σ H R I h
  refine thn (hl pins s σ H _ I h) fun v s1 ⟨x, H1, I1, r1, q1⟩ => ?_
  obtain ⟨a, e, ⟨xs, hq⟩, q⟩ := q1
  subst e
  cases r1
  obtain ⟨its, rv, p, hz⟩ := I1.list hq
  refine wpAny_pyIter_list p.isList ?_
  refine ⟨s1.heap.objs.size, [s1.heap.objs.size], _, _, H1, rfl, I1.kept (t' := s1.toks) fun b o e => Heap.get?_push_of_some _ e, turn_list a _, ⟨_, Heap.get?_push_size _ rfl, rfl, rfl⟩, fun b hb => ?_, q⟩
  have e : b = s1.heap.objs.size := by simpa using hb
  subst e
  exact I1.fpOk (Nat.le_refl _) (I1.hok.fresh (Nat.le_refl _))
theorem pi_tup {l : Expr} {tl : TE} (hl : PE X l tl) : PI X tg l (iTup X.K tl) := by
  intro pins s σ H R I h
  refine thn (hl pins s σ H _ I h) fun v s1 ⟨x, H1, I1, r1, q1⟩ => ?_
  obtain ⟨a, e, ⟨xs, hq⟩, q⟩ := q1
  subst e
  cases r1
  obtain ⟨its, rv, p, hz⟩ := I1.tuple hq
  refine wpAny_pyIter_tuple (show s1.heap.IsTuple a its.toArray from p) ?_
  refine ⟨s1.heap.objs.size, [s1.heap.objs.size], _, _, H1, rfl, I1.kept (t' := s1.toks) fun b o e => Heap.get?_push_of_some _ e, turn_tuple a _, ⟨_, Heap.get?_push_size _ rfl, rfl, rfl⟩, fun b hb => ?_, q⟩
  have e : b = s1.heap.objs.size := by simpa using hb
  subst e
  exact I1.fpOk (Nat.le_refl _) (I1.hok.fresh (Nat.le_refl _))
/-- a range object just made, walked -/
theorem range_it {pins : List (Addr × Obj)} {σ : St} {H : Hp} {s : Shared} {R : It → Hp → Prop} {E : Value → Shared → Prop} {lo hi : Int} {t u v : Tok} {tk : Nat} (I : Inv X pins σ H s) (h1 : -(2 ^ 62) ≤ lo) (h2 : lo < 2 ^ 62) (h3 : -(2 ^ 62) ≤ hi) (h4 : hi < 2 ^ 62)
    (q : R (Itr lo (hi - lo).toNat) H) : wpAny (model X.prog X.w) X.A (pyIter (.ref s.heap.objs.size)) (PIE X pins σ tg R) E { s with heap := s.heap.push { cls := .type "range", data := .fields #[.int lo t, .int hi u, .int 1 v] }, toks := tk } := by
  refine wpAny_pyIter_range (IsRange.new ..) (small_one h1 h2 h3 h4) ?_
  have I1 : Inv X pins σ H { s with heap := s.heap.push { cls := .type "range", data := .fields #[.int lo t, .int hi u, .int 1 v] }, toks := tk } := I.kept fun b o e => Heap.get?_push_of_some _ e
  refine ⟨(s.heap.push { cls := .type "range", data := .fields #[.int lo t, .int hi u, .int 1 v] }).objs.size, [(s.heap.push { cls := .type "range", data := .fields #[.int lo t, .int hi u, .int 1 v] }).objs.size], _, _, H, rfl,
    I1.kept (t' := tk) fun b o e => Heap.get?_push_of_some _ e, turn_range _ lo (hi - lo).toNat, ?_, fun b hb => ?_, q⟩
  · have e1 : lo + ((0 : Nat) : Int) * 1 = lo := by simp
    have e2 : (((hi - lo).toNat : Nat) : Int) - ((0 : Nat) : Int) = Builtin.Range.rangeSize lo hi 1 := by rw [rangeSize_one]; split <;> omega
    show IsRangeIter _ _ (lo + ((0 : Nat) : Int) * 1) ((((hi - lo).toNat : Nat) : Int) - ((0 : Nat) : Int)) 1
    rw [e1, e2]
    exact Heap.get?_push_size _ rfl
  · have e : b = (s.heap.push { cls := .type "range", data := .fields #[.int lo t, .int hi u, .int 1 v] }).objs.size := by simpa using hb
    subst e
    exact I1.fpOk (Nat.le_refl _) (I1.hok.fresh (Nat.le_refl _))
def iRng1 (ta : TA) : TI := fun σ H R => ta σ H fun vs H1 => ∃ j : Int, vs = [.int j] ∧ -(2 ^ 62) ≤ j ∧ j < 2 ^ 62 ∧ R (Itr 0 j.toNat) H1
def iRng2 (ta : TA) : TI := fun σ H R => ta σ H fun vs H1 => ∃ i j : Int, vs = [.int i, .int j] ∧ (-(2 ^ 62) ≤ i ∧ i < 2 ^ 62 ∧ -(2 ^ 62) ≤ j ∧ j < 2 ^ 62) ∧ R (Itr i (j - i).toNat) H1
theorem pi_range1 {a : Expr} {ta : TA} {p pos : Pos} (hg : Gl X "range") (hm : X.mg "range" = none) (ha : PA X [a] ta) (hs : starEach [a] X.env = [(false, eval a X.env)] := by rfl) : PI X tg (.Call (.Name "range" p) [a] [] pos) (iRng1 ta) := by
  intro pins s σ H R I h
  refine Call_ (ld_blt I hg hm boot_range (PyProof.Rows.callWith_type1 (thn (ha pos pins s σ H _ I h) fun us s1 ⟨vs, H1, I1, r1, q1⟩ => ?_) hs rfl))
  obtain ⟨j, e, q1, q2, q⟩ := q1
  subst e
  cases r1 with
  | cons r rr =>
    cases rr
    obtain ⟨t, rfl⟩ := r
    exact call_range_1 (range_it I1 (by omega) (by omega) q1 q2 (by simpa using q))
/-! ### for -/
/-- W: the invariant by the turn and a measure; N: what the body is to reach -/
def tFor (wi : TI) (g : TG) (tb : TS) : TS := fun D σ H => wi σ H fun J H1 => ∃ W : Nat → Nat → St → Hp → Prop, (∃ m, W 0 m σ H1) ∧ ∀ i m σ H, W i m σ H →
  (J.stop i H ∧ D.nx σ H) ∨ (J.go i H ∧ ∃ N : St → Hp → Prop, (∀ σ' H', N σ' H' → ∃ m', m' < m ∧ W (i + 1) m' σ' H') ∧ ∀ x H', J.yld i H x H' → g x σ H' fun σ2 H2 => tb { D with nx := N, ct := N, bk := D.nx } σ2 H2)
/-- the records at fp as they stand -/
def pinsAt (fp : List Addr) (h : Heap) : List (Addr × Obj) := fp.filterMap fun b => (h.get? b).map fun o => (b, o)
theorem mem_pinsAt {fp : List Addr} {h : Heap} {b : Addr} {o : Obj} (hb : b ∈ fp) (e : h.get? b = some o) : (b, o) ∈ pinsAt fp h := List.mem_filterMap.mpr ⟨b, hb, by rw [e]; rfl⟩
theorem of_pinsAt {fp : List Addr} {h : Heap} {p : Addr × Obj} (hp : p ∈ pinsAt fp h) : p.1 ∈ fp ∧ h.get? p.1 = some p.2 := by
  obtain ⟨b, hb, e⟩ := List.mem_filterMap.mp hp
  cases q : h.get? b with
  | none => rw [q] at e; cases e
  | some o =>
    rw [q] at e
    have e' : (b, o) = p := Option.some.inj e
    subst e'
    exact ⟨hb, q⟩
theorem Inv.pinned {pins : List (Addr × Obj)} {σ : St} {H : Hp} {s : Shared} {fp : List Addr} (I : Inv X pins σ H s) (hf : ∀ b ∈ fp, FpOk X pins H b) (ho : ∀ b ∈ fp, ∃ o, s.heap.get? b = some o ∧ ∀ v, o.data ≠ .cell v) : Inv X (pins ++ pinsAt fp s.heap) σ H s :=
  I.pins_of fun p hp => (List.mem_append.mp hp).elim (fun z => I.pin p (List.mem_append_right _ z)) fun z => by
    obtain ⟨hb, e⟩ := of_pinsAt z
    obtain ⟨f0, f1, f2, _⟩ := hf p.1 hb
    obtain ⟨o, e', d⟩ := ho p.1 hb
    rw [e] at e'; cases e'
    exact ⟨e, f0, f1, f2, d⟩
theorem Inv.unpinned {pins pl : List (Addr × Obj)} {σ : St} {H : Hp} {s : Shared} (I : Inv X (pins ++ pl) σ H s) : Inv X pins σ H s := I.pins_of fun p hp => I.pin p (List.mem_append_right _ (List.mem_append_left _ hp))
theorem ps_for {iter : Expr} {body : List Stmt} {wi : TI} {g : TG} {tb : TS} {pos : Pos} (hp : PassesOwn (model X.prog X.w) X.A X.env X.xe) (hc : X.calm = true) (hi : PI X tg iter wi) (hg : PG X tg g) (hb : PSs X body tb)
    (hs : ∀ x, foldedSetIterable iter X.env x = pure x := by intro _; rfl) : PS X (.For tg iter body [] pos) (tFor wi g tb) := by
  intro pins s σ H D I h
  refine wpAny_For (thn (hi pins s σ H _ I h) fun v s1 h1 => thn h1 fun itv s2 h2 => ?_) hs
  obtain ⟨it, fp, tn, J, H2, e, I2, T, st2, f2, W, ⟨m0, w0⟩, turn⟩ := h2
  subst e
  -- what stays true of the iterator's objects through the loop
  have stat : ∀ {H' : Hp}, (∀ b ∈ fp, H' b = none) → ∀ b ∈ fp, FpOk X pins H' b := fun hn b hb => ⟨hn b hb, (f2 b hb).2⟩
  refine codeAny_forLoop_any (fun n s' => ∃ i σ' H', Inv X pins σ' H' s' ∧ tn i s'.heap ∧ (∀ b ∈ fp, H' b = none) ∧ W i n σ' H') ?_ m0 ⟨0, σ, H2, I2, st2, fun b hb => (f2 b hb).1, w0⟩
  rintro n s3 ⟨i, σ3, H3, I3, st3, fr3, w3⟩
  rcases turn i n σ3 H3 w3 with ⟨stop, qn⟩ | ⟨go, N, hN, step⟩
  · refine wpAny_passesOwn hp (thn (T.done X rfl rfl rfl hc i pins s3 σ3 H3 X.xe I3 (stat fr3) st3 stop) fun r s4 ⟨hr, I4⟩ => ?_)
    subst hr
    exact wpAny_execs_nil ⟨σ3, H3, I4, qn⟩
  · refine wpAny_passesOwn hp (thn (T.item X rfl rfl rfl hc i pins s3 σ3 H3 X.xe I3 (stat fr3) st3 go) fun r s4 ⟨u, hr, h4⟩ => ?_)
    subst hr
    refine wpAny_passesOwn hp (thn h4 fun _ s5 ⟨x, H5, I5, r5, y5, st5, fr5⟩ => ?_)
    have I5' := I5.pinned (stat fr5) (T.obj _ _ st5)
    refine wpAny_passesOwn hp (thn (hg _ s5 σ3 H5 x u _ I5' r5 (step x H5 y5)) fun _ s6 ⟨σ6, H6, I6, q6⟩ => ?_)
    refine wpAny_passesOwn hp (thn (hb _ s6 σ6 H6 _ I6 q6) fun f s7 q7 => ?_)
    have again : ∀ {σ7 : St} {H7 : Hp}, Inv X (pins ++ pinsAt fp s5.heap) σ7 H7 s7 → N σ7 H7 → ∃ m, m < n ∧ ∃ i σ' H', Inv X pins σ' H' s7 ∧ tn i s7.heap ∧ (∀ b ∈ fp, H' b = none) ∧ W i m σ' H' := fun {σ7 H7} I7 n7 => by
      obtain ⟨m', hm, w7⟩ := hN σ7 H7 n7
      refine ⟨m', hm, i + 1, σ7, H7, I7.unpinned, T.keep _ _ _ st5 fun b hb o e => (I7.pin (b, o) (List.mem_append_right _ (List.mem_append_right _ (mem_pinsAt hb e)))).1, fun b hb => ?_, w7⟩
      obtain ⟨o, e, d⟩ := T.obj _ _ st5 b hb
      exact (I7.pin (b, o) (List.mem_append_right _ (List.mem_append_right _ (mem_pinsAt hb e)))).2.1
    cases f with
    | next => obtain ⟨σ7, H7, I7, n7⟩ := q7; exact again I7 n7
    | cont => obtain ⟨σ7, H7, I7, n7⟩ := q7; exact again I7 n7
    | brk => obtain ⟨σ7, H7, I7, q7⟩ := q7; exact ⟨σ7, H7, I7.unpinned, q7⟩
    | ret v => obtain ⟨x7, σ7, H7, I7, r7, q7⟩ := q7; exact ⟨x7, σ7, H7, I7.unpinned, r7, q7⟩
end

/-! ### the forms one uses -/
/-- over a list that the body leaves as it is -/
theorem for_list {K : PySem.W.Frag} {a : Addr} {xs : List V} {g : TG} {tb : TS} {D : Ends} {σ : St} {H : Hp} (Pv : Nat → St → Hp → Prop) (h0 : Pv 0 σ H) (hl : ∀ i σ H, i ≤ xs.length → Pv i σ H → SqL K H a xs)
    (hs : ∀ i x σ H, xs[i]? = some x → Pv i σ H → g x σ H fun σ2 H2 => tb { D with nx := Pv (i + 1), ct := Pv (i + 1), bk := D.nx } σ2 H2) (hd : ∀ σ H, Pv xs.length σ H → D.nx σ H) :
    ∃ W : Nat → Nat → St → Hp → Prop, (∃ m, W 0 m σ H) ∧ ∀ i m σ H, W i m σ H →
      ((Itl K a).stop i H ∧ D.nx σ H) ∨ ((Itl K a).go i H ∧ ∃ N : St → Hp → Prop, (∀ σ' H', N σ' H' → ∃ m', m' < m ∧ W (i + 1) m' σ' H') ∧ ∀ x H', (Itl K a).yld i H x H' → g x σ H' fun σ2 H2 => tb { D with nx := N, ct := N, bk := D.nx } σ2 H2) := by
  refine ⟨fun i m σ H => m = xs.length - i ∧ i ≤ xs.length ∧ Pv i σ H, ⟨xs.length, by simp, Nat.zero_le _, h0⟩, ?_⟩
  rintro i m σ H ⟨rfl, hi, p⟩
  have q := hl i σ H hi p
  by_cases hlt : i < xs.length
  · refine .inr ⟨⟨xs, xs[i], q, by simp [hlt]⟩, Pv (i + 1), fun σ' H' p' => ⟨xs.length - (i + 1), by omega, rfl, hlt, p'⟩, fun x H' y => ?_⟩
    obtain ⟨e, y⟩ := y
    subst e
    exact hs i x σ _ (y xs q) p
  · have e : i = xs.length := by omega
    subst e
    exact .inl ⟨⟨xs, q, Nat.le_refl _⟩, hd σ H p⟩
theorem for_tup {K : PySem.W.Frag} {a : Addr} {xs : List V} {g : TG} {tb : TS} {D : Ends} {σ : St} {H : Hp} (Pv : Nat → St → Hp → Prop) (h0 : Pv 0 σ H) (hl : ∀ i σ H, i ≤ xs.length → Pv i σ H → SqT K H a xs)
    (hs : ∀ i x σ H, xs[i]? = some x → Pv i σ H → g x σ H fun σ2 H2 => tb { D with nx := Pv (i + 1), ct := Pv (i + 1), bk := D.nx } σ2 H2) (hd : ∀ σ H, Pv xs.length σ H → D.nx σ H) :
    ∃ W : Nat → Nat → St → Hp → Prop, (∃ m, W 0 m σ H) ∧ ∀ i m σ H, W i m σ H →
      ((Itt K a).stop i H ∧ D.nx σ H) ∨ ((Itt K a).go i H ∧ ∃ N : St → Hp → Prop, (∀ σ' H', N σ' H' → ∃ m', m' < m ∧ W (i + 1) m' σ' H') ∧ ∀ x H', (Itt K a).yld i H x H' → g x σ H' fun σ2 H2 => tb { D with nx := N, ct := N, bk := D.nx } σ2 H2) := by
  refine ⟨fun i m σ H => m = xs.length - i ∧ i ≤ xs.length ∧ Pv i σ H, ⟨xs.length, by simp, Nat.zero_le _, h0⟩, ?_⟩
  rintro i m σ H ⟨rfl, hi, p⟩
  have q := hl i σ H hi p
  by_cases hlt : i < xs.length
  · refine .inr ⟨⟨xs, xs[i], q, by simp [hlt]⟩, Pv (i + 1), fun σ' H' p' => ⟨xs.length - (i + 1), by omega, rfl, hlt, p'⟩, fun x H' y => ?_⟩
    obtain ⟨e, y⟩ := y
    subst e
    exact hs i x σ _ (y xs q) p
  · have e : i = xs.length := by omega
    subst e
    exact .inl ⟨⟨xs, q, Nat.le_refl _⟩, hd σ H p⟩
end L2

namespace L2
open PySem PySem.Spec PyProof.Rows

abbrev R2 := V → V → Hp → VK → Prop
/-- a two-place operation on values: f is binaryOp op, inplaceOp op or compareOp op -/
def OpR (X : Cx) (f : Value → Value → Sem Value) (r : R2) : Prop :=
  ∀ (pins : List (Addr × Obj)) (s : Shared) (σ : St) (H : Hp) (x y : V) (v u : Value) (Q : VK), Inv X pins σ H s → RelV x v → RelV y u → r x y H Q →
    wpAny (model X.prog X.w) X.A (f v u) (EP X pins σ Q) X.xe s
/-- a call of a value that is known (a builtin, a type) with values -/
def CallR (X : Cx) (f : Value) (r : List V → Hp → VK → Prop) : Prop :=
  ∀ (pins : List (Addr × Obj)) (s : Shared) (σ : St) (H : Hp) (xs : List V) (us : List Value) (Q : VK), Inv X pins σ H s → Vals xs us → r xs H Q →
    wpAny (model X.prog X.w) X.A (call f us) (EP X pins σ Q) X.xe s
def tOp (r : R2) (ta tb : TE) : TE := fun σ H Q => ta σ H fun x H1 => tb σ H1 fun y H2 => r x y H2 Q
def tUn (r : V → Hp → VK → Prop) (ta : TE) : TE := fun σ H Q => ta σ H fun x H1 => r x H1 Q
/-- ints in, under C, and a value out -/
def rI (C : Int → Int → Prop) (g : Int → Int → V) : R2 := fun x y H Q => ∃ i j, x = .int i ∧ y = .int j ∧ C i j ∧ Q (g i j) H
def rI0 (g : Int → Int → V) : R2 := fun x y H Q => ∃ i j, x = .int i ∧ y = .int j ∧ Q (g i j) H
def rU (g : Int → V) : V → Hp → VK → Prop := fun x H Q => ∃ i, x = .int i ∧ Q (g i) H

section
variable {X : Cx} {a b c : Expr} {ta tb tc : TE} {pos : Pos}

theorem binT (ha : PE X a ta) (hb : PE X b tb) {pins : List (Addr × Obj)} {s : Shared} {σ : St} {H : Hp} {R : V → V → Hp → Prop} (I : Inv X pins σ H s)
    (h : ta σ H fun x H1 => tb σ H1 fun y H2 => R x y H2) {Q : Value → Shared → Prop} {f : Value → Value → Sem Value}
    (hf : ∀ v u s2 x y H2, Inv X pins σ H2 s2 → RelV x v → RelV y u → R x y H2 → wpAny (model X.prog X.w) X.A (f v u) Q X.xe s2) :
    wpAny (model X.prog X.w) X.A (eval a X.env) (fun v s₁ => wpAny (model X.prog X.w) X.A (eval b X.env) (fun u s₂ => wpAny (model X.prog X.w) X.A (f v u) Q X.xe s₂) X.xe s₁) X.xe s := by
  refine thn (ha pins s σ H _ I h) fun v s1 ⟨x, H1, I1, r1, q1⟩ => ?_
  refine thn (hb pins s1 σ H1 _ I1 q1) fun u s2 ⟨y, H2, I2, r2, q2⟩ => ?_
  exact hf v u s2 x y H2 I2 r1 r2 q2

theorem pe_op {op : Operator} {r : R2} (ho : OpR X (binaryOp op) r) (ha : PE X a ta) (hb : PE X b tb) : PE X (.BinOp a op b pos) (tOp r ta tb) := by
  intro pins s σ H Q I h
  exact wpAny_BinOp (binT ha hb I h fun v u s2 x y H2 I2 rx ry q => ho pins s2 σ H2 x y v u Q I2 rx ry q)
/-! ### ints -/
theorem opI {f : Value → Value → Sem Value} {C : Int → Int → Prop} {g : Int → Int → Int}
    (rule : ∀ (i j : Int) (t u : Tok) (s : Shared) (Q : Value → Shared → Prop) (E : Value → Shared → Prop), C i j → Q (.int (g i j) s.toks) { s with toks := s.toks + 1 } → wpAny (model X.prog X.w) X.A (f (.int i t) (.int j u)) Q E s) :
    OpR X f (rI C fun i j => .int (g i j)) := by
  intro pins s σ H x y v u Q I rx ry h
  obtain ⟨i, j, rfl, rfl, hc, q⟩ := h
  obtain ⟨t, rfl⟩ := rx
  obtain ⟨t', rfl⟩ := ry
  exact rule i j t t' s _ _ hc ⟨.int (g i j), H, I.tok _, ⟨_, rfl⟩, q⟩
theorem opI0 {f : Value → Value → Sem Value} {g : Int → Int → Int}
    (rule : ∀ (i j : Int) (t u : Tok) (s : Shared) (Q : Value → Shared → Prop) (E : Value → Shared → Prop), Q (.int (g i j) s.toks) { s with toks := s.toks + 1 } → wpAny (model X.prog X.w) X.A (f (.int i t) (.int j u)) Q E s) :
    OpR X f (rI0 fun i j => .int (g i j)) := by
  intro pins s σ H x y v u Q I rx ry h
  obtain ⟨i, j, rfl, rfl, q⟩ := h
  obtain ⟨t, rfl⟩ := rx
  obtain ⟨t', rfl⟩ := ry
  exact rule i j t t' s _ _ ⟨.int (g i j), H, I.tok _, ⟨_, rfl⟩, q⟩
theorem opB0 {f : Value → Value → Sem Value} {g : Int → Int → Bool}
    (rule : ∀ (i j : Int) (t u : Tok) (s : Shared) (Q : Value → Shared → Prop) (E : Value → Shared → Prop), Q (.bool (g i j)) s → wpAny (model X.prog X.w) X.A (f (.int i t) (.int j u)) Q E s) :
    OpR X f (rI0 fun i j => .bl (g i j)) := by
  intro pins s σ H x y v u Q I rx ry h
  obtain ⟨i, j, rfl, rfl, q⟩ := h
  obtain ⟨t, rfl⟩ := rx
  obtain ⟨t', rfl⟩ := ry
  exact rule i j t t' s _ _ ⟨.bl (g i j), H, I, rfl, q⟩

def CMul (i j : Int) : Prop := (-(2 ^ 64) < i ∧ i < 2 ^ 64) ∨ (-(2 ^ 64) < j ∧ j < 2 ^ 64)
theorem CMul.ok {i j : Int} (h : CMul i j) : IntMulOk i j := by
  rcases h with ⟨h1, h2⟩ | ⟨h1, h2⟩
  · exact .of_left (intBits_le_64 h1 h2)
  · exact .of_right (intBits_le_64 h1 h2)
theorem op_add : OpR X (binaryOp .Add) (rI0 fun i j => .int (i + j)) := opI0 fun _ _ _ _ _ _ _ q => add_int q
theorem op_sub : OpR X (binaryOp .Sub) (rI0 fun i j => .int (i - j)) := opI0 fun _ _ _ _ _ _ _ q => sub_int q
theorem op_mul : OpR X (binaryOp .Mult) (rI CMul fun i j => .int (i * j)) := opI fun _ _ _ _ _ _ _ hc q => mul_int q hc.ok
/-- % by a positive divisor of any size -/
theorem op_mod : OpR X (binaryOp .Mod) (rI (fun _ j => 0 < j) fun i j => .int (i % j)) := opI fun i j _ _ _ _ _ hc q => by
  have h1 : (0 : Int) < j := hc
  exact mod_int' (by omega) (by rw [Int.fmod_eq_emod_of_nonneg i (by omega)]; exact q)
/-! ### bools among ints: n += (a < b) -/
end

/-! ### comparisons -/
/-- the scalars that == tells apart as data does -/
def scal : V → V → Bool
  | .non, .non => true | .non, .int _ => true | .int _, .non => true | .non, .bl _ => true | .bl _, .non => true | .non, .str _ => true | .str _, .non => true
  | .int _, .int _ => true | .bl _, .bl _ => true | .str _, .str _ => true | .byt _, .byt _ => true
  | .int _, .str _ => true | .str _, .int _ => true | .bl _, .str _ => true | .str _, .bl _ => true
  | _, _ => false
def rEq : R2 := fun x y H Q => scal x y = true ∧ Q (.bl (decide (x = y))) H
def rNe : R2 := fun x y H Q => scal x y = true ∧ Q (.bl (!decide (x = y))) H

theorem dec_int {i j : Int} : decide (V.int i = V.int j) = (i == j) := by
  rw [Bool.eq_iff_iff]
  simp
theorem dec_bl {i j : Bool} : decide (V.bl i = V.bl j) = (i == j) := by
  rw [Bool.eq_iff_iff]
  simp
theorem dec_str {i j : Str} : decide (V.str i = V.str j) = (i == j) := by
  rw [Bool.eq_iff_iff]
  simp
theorem dec_byt {i j : Array UInt8} : decide (V.byt i = V.byt j) = (i.toList == j.toList) := by
  rw [Bool.eq_iff_iff]
  cases i
  cases j
  simp

section
variable {X : Cx} {a b c : Expr} {ta tb tc : TE} {pos : Pos}
theorem fin_bl {pins : List (Addr × Obj)} {σ : St} {H : Hp} {s : Shared} {Q : VK} {k k' : Bool} (I : Inv X pins σ H s) (q : Q (.bl k) H) (e : k = k') : EP X pins σ Q (.bool k') s := by
  subst e
  exact ⟨.bl k, H, I, rfl, q⟩
theorem op_ne : OpR X (compareOp .NotEq) rNe := by
  intro pins s σ H x y v u Q I rx ry h
  obtain ⟨hs, q⟩ := h
  cases x with
  | non =>
    cases rx
    cases y with
    | non => cases ry; exact PySem.EqNone.ne_none_none (fin_bl I q (by simp))
    | bl j => cases ry; exact PySem.EqNone.ne_none_bool (fin_bl I q (by simp))
    | int j => obtain ⟨t', rfl⟩ := ry; exact PySem.EqNone.ne_none_int (fin_bl I q (by simp))
    | str j => obtain ⟨t', rfl⟩ := ry; exact PySem.EqNone.ne_none_str (fin_bl I q (by simp))
    | _ => exact absurd (show false = true from hs) Bool.false_ne_true
  | bl i =>
    cases rx
    cases y with
    | non => cases ry; exact PySem.EqNone.ne_bool_none (fin_bl I q (by simp))
    | bl j => cases ry; exact ne_bool (fin_bl I q (congrArg not dec_bl))
    | str j => obtain ⟨t', rfl⟩ := ry; exact PySem.EqMixed.ne_bool_str (fin_bl I q (by simp))
    | _ => exact absurd (show false = true from hs) Bool.false_ne_true
  | int i =>
    obtain ⟨t, rfl⟩ := rx
    cases y with
    | non => cases ry; exact PySem.EqNone.ne_int_none (fin_bl I q (by simp))
    | int j => obtain ⟨t', rfl⟩ := ry; exact ne_int (fin_bl I q (congrArg not dec_int))
    | str j => obtain ⟨t', rfl⟩ := ry; exact PySem.EqMixed.ne_int_str (fin_bl I q (by simp))
    | _ => exact absurd (show false = true from hs) Bool.false_ne_true
  | str i =>
    obtain ⟨t, rfl⟩ := rx
    cases y with
    | non => cases ry; exact PySem.EqNone.ne_str_none (fin_bl I q (by simp))
    | bl j => cases ry; exact PySem.EqMixed.ne_str_bool (fin_bl I q (by simp))
    | int j => obtain ⟨t', rfl⟩ := ry; exact PySem.EqMixed.ne_str_int (fin_bl I q (by simp))
    | str j => obtain ⟨t', rfl⟩ := ry; exact ne_str (fin_bl I q (congrArg not dec_str))
    | _ => exact absurd (show false = true from hs) Bool.false_ne_true
  | byt i =>
    obtain ⟨t, rfl⟩ := rx
    cases y with
    | byt j => obtain ⟨t', rfl⟩ := ry; exact PySem.W.ne_bytes (fin_bl I q (congrArg not dec_byt))
    | _ => exact absurd (show false = true from hs) Bool.false_ne_true
  | _ => cases y <;> exact absurd (show false = true from hs) Bool.false_ne_true

theorem op_lt : OpR X (compareOp .Lt) (rI0 fun i j => .bl (decide (i < j))) := opB0 fun _ _ _ _ _ _ _ q => lt_int q
theorem op_le : OpR X (compareOp .LtE) (rI0 fun i j => .bl (decide (i ≤ j))) := opB0 fun _ _ _ _ _ _ _ q => le_int q
theorem op_gt : OpR X (compareOp .Gt) (rI0 fun i j => .bl (decide (j < i))) := opB0 fun _ _ _ _ _ _ _ q => gt_int q
theorem op_ge : OpR X (compareOp .GtE) (rI0 fun i j => .bl (decide (j ≤ i))) := opB0 fun _ _ _ _ _ _ _ q => ge_int q
theorem nomark (b : Expr) {op : CmpOp} (h : op ≠ .In := by decide) (h2 : op ≠ .NotIn := by decide) : behindInMarks op b = false := by
  have e1 : (op == CmpOp.In) = false := by cases op <;> first | rfl | exact absurd rfl h
  have e2 : (op == CmpOp.NotIn) = false := by cases op <;> first | rfl | exact absurd rfl h2
  cases b <;> simp [behindInMarks, e1, e2]
/-- a comparison as a value; hm: nomark b, or (for in, not in) by with_unfolding_all rfl -/
theorem pe_cmpR {op : CmpOp} {r : R2} (ho : OpR X (compareOp op) r) (ha : PE X a ta) (hb : PE X b tb) (hm : behindInMarks op b = false) : PE X (.Compare a [op] [b] pos) (tOp r ta tb) := by
  intro pins s σ H Q I h
  exact wpAny_Compare1 (binT ha hb I h fun v u s2 x y H2 I2 rx ry q => ho pins s2 σ H2 x y v u Q I2 rx ry q) hm
/-- a reading of a value as a test -/
def tTest (t : TE) : TT := fun σ H Q => t σ H fun x H' => ∃ k, x = .bl k ∧ Q k H'
theorem pt_cmpR {op : CmpOp} {r : R2} (ho : OpR X (compareOp op) r) (ha : PE X a ta) (hb : PE X b tb) (hm : behindInMarks op b = false) : PT X (.Compare a [op] [b] pos) (tTest (tOp r ta tb)) := by
  intro pins s σ H Q I h
  refine wpAny_isTrue_Compare1 (thn (ha pins s σ H _ I h) fun v s1 ⟨x, H1, I1, r1, q1⟩ => thn (hb pins s1 σ H1 _ I1 q1) fun u s2 ⟨y, H2, I2, r2, q2⟩ =>
    thn (ho pins s2 σ H2 x y v u _ I2 r1 r2 q2) fun c s3 ⟨z, H3, I3, r3, k, e, q3⟩ => ?_) hm
  subst e
  cases r3
  exact wpAny_truthy_bool ⟨H3, I3, q3⟩
/-! ### truth -/
/-- a value's truth by the abstract heap -/
def TruV (K : PySem.W.Frag) (x : V) (H : Hp) (k : Bool) : Prop :=
  match x with
  | .non => k = false
  | .bl b => k = b
  | .int i => k = (i != 0)
  | .str y => y.length ≤ sizeLine ∧ k = ((y.length : Int) != 0)
  | .byt y => y.size ≤ sizeLine ∧ k = ((y.size : Int) != 0)
  | .ref p => (∃ xs, SqL K H p xs ∧ k = !xs.isEmpty) ∨ (∃ xs, SqT K H p xs ∧ k = !xs.isEmpty) ∨ ∃ kvs, H p = some (.dK kvs) ∧ k = !kvs.isEmpty
  | _ => False
theorem line63 : (sizeLine : Nat) < 2 ^ 63 := by rw [sizeLine_eq]; decide
/-! ### strs and bytes -/
/-! ### scalar builtins, by CallR -/
theorem vals1 {x : V} {us : List Value} (r : Vals [x] us) : ∃ u, us = [u] ∧ RelV x u := by
  cases r with
  | cons r1 r2 => cases r2; exact ⟨_, rfl, r1⟩
theorem vals2 {x y : V} {us : List Value} (r : Vals [x, y] us) : ∃ u w', us = [u, w'] ∧ RelV x u ∧ RelV y w' := by
  cases r with
  | cons r1 r2 =>
    cases r2 with
    | cons r3 r4 => cases r4; exact ⟨_, _, rfl, r1, r3⟩
theorem call_min2 (hc : X.calm = true) : CallR X (.builtin "min") (fun xs H Q => ∃ i j, xs = [.int i, .int j] ∧ Q (.int (if j < i then j else i)) H) := by
  intro pins s σ H xs us Q I r h
  obtain ⟨i, j, rfl, q⟩ := h
  obtain ⟨u, w', rfl, ⟨t, rfl⟩, ⟨t', rfl⟩⟩ := vals2 r
  refine min_two_ints (I.ok.hd hc) fun h' tk k => ⟨_, H, I.kept k, ?_, q⟩
  by_cases hj : j < i
  · rw [if_pos hj, if_pos hj]; exact ⟨_, rfl⟩
  · rw [if_neg hj, if_neg hj]; exact ⟨_, rfl⟩
end
end L2

namespace L2
open PySem PySem.Spec PyProof.Rows

/-! ### an instance, its attributes a map -/
structure ObjM (h : Heap) (x dx C : Addr) (mA : Str → Option Value) : Prop where
  obj : h.get? x = some (PySem.W.instObj C dx)
  ns : h.Ns1 dx mA
  ne : dx ≠ x

theorem lookIn_ns {h : Heap} {dx : Addr} {mA : Str → Option Value} (n : h.Ns1 dx mA) : ∃ od, h.get? dx = some od ∧ ∀ name, PySem.W.lookIn name od = some (mA name) := by
  obtain ⟨o, es, ep, ho, hd, hk, _, hm⟩ := n
  refine ⟨o, ho, fun name => ?_⟩
  have e := hm name
  unfold nsFind findBy at e
  rw [← Array.find?_toList] at e
  unfold PySem.W.lookIn
  rw [hd]
  dsimp only
  split
  · rename_i y q
    rw [q] at e
    exact congrArg some e
  · rename_i q
    rw [q] at e
    have a : es.toList.any (·.refKey) = false := by
      rw [List.any_eq_false]
      intro y hy
      obtain ⟨z, t, hkey⟩ := hk y (Array.mem_toList_iff.mp hy)
      simp [DictEntry.refKey, hkey]
    have a' : ¬ es.toList.any (·.refKey) = true := by rw [a]; exact Bool.false_ne_true
    rw [if_neg a']
    exact congrArg some e

theorem ObjM.look {h : Heap} {x dx C : Addr} {mA : Str → Option Value} (I : ObjM h x dx C mA) : ∃ od, PySem.W.InstAt h x (PySem.W.instObj C dx) C (some od) ∧ ∀ name, PySem.W.lookIn name od = some (mA name) :=
  let ⟨od, ho, hl⟩ := lookIn_ns I.ns
  ⟨od, ⟨I.obj, rfl, rfl, ho⟩, hl⟩

section
variable {prog : Program} {w : World} {A : Around} {E : Value → Shared → Prop} {s : Shared} {K : PySem.W.Frag} {x dx C f : Addr} {mA : Str → Option Value} {name : Str} {v : Value}

end

/-! ### the attributes as a list of pairs -/
def putF (f : Str) (v : V) : List (Str × V) → List (Str × V)
  | [] => [(f, v)]
  | (g, x) :: r => if g = f then (g, v) :: r else (g, x) :: putF f v r
section
variable {P : Program} {w : World} {H H' : Hp} {h h' : Heap} {a C dx : Addr} {fs fs' : List (Str × V)}
theorem ins_get (hok : HOk P w H h) (e : H a = some (.ins C dx fs)) : ∃ mA, ObjM h a dx C mA ∧ (∀ f, RelO (fs.lookup f) (mA f)) ∧ PySem.Within mA (fs.map (·.1)) ∧ fs.length ≤ 1000 ∧ H dx = some (.own a) := by
  obtain ⟨d, z, ne, ob, mA, n, r, q⟩ := (show ObjOk P w H h a (.ins C dx fs) from hok a _ e)
  exact ⟨mA, ⟨ob, n, ne⟩, r, q, z, d⟩
end

/-! ### what of the text a class must have -/
structure Cls (K : PySem.W.Frag) (C : Addr) : Prop where
  pg : PySem.W.plainGet K C Str.empty = true
  hd : PySem.W.hasDictIn K C = true
  po : PySem.W.plainOver K C = true
  sa : PySem.W.findIn K (.ref C) "__setattr__" = some (some (.builtin "object.__setattr__"))
theorem Cls.get {K : PySem.W.Frag} {C : Addr} (c : Cls K C) (f : Str) : PySem.W.plainGet K C f = true := c.pg
/-- no class of it has the name -/
def NoAttr (K : PySem.W.Frag) (C : Addr) (f : Str) : Prop := PySem.W.findIn K (.ref C) f = some none
/-- a constant of the class -/
structure Con (K : PySem.W.Frag) (C : Addr) (f : Str) (v : V) (u : Value) : Prop where
  at_ : PySem.W.findIn K (.ref C) f = some (some u)
  rel : RelV v u
  get : PySem.W.specialIn K u "__get__" = some none
  cp : PySem.W.copiedNames.contains f = false
/-- a method: a plain def of the class or of one above it -/
structure Meth (K : PySem.W.Frag) (C : Addr) (m : Str) (f : Addr) : Prop where
  at_ : PySem.W.findIn K (.ref C) m = some (some (.ref f))
  fn : PySem.W.isFn K (.ref f) = true
  kp : PySem.W.keepIn K (.ref f) = true

section
variable {X : Cx} {pins : List (Addr × Obj)} {σ : St} {H : Hp} {s : Shared} {a C dx : Addr} {fs : List (Str × V)} {f : Str} {v : V} {A : Around} {E : Value → Shared → Prop}

end

/-! ### readings and rules -/
/-- e.f, an attribute of the instance -/
def tFld (K : PySem.W.Frag) (ta : TE) (f : Str) : TE := fun σ H Q => ta σ H fun x H1 => ∃ a C dx fs v, x = .ref a ∧ H1 a = some (.ins C dx fs) ∧ Cls K C ∧ NoAttr K C f ∧ fs.lookup f = some v ∧ Q v H1
/-- e.f = value -/
def sFld (K : PySem.W.Frag) (ta tv : TE) (f : Str) : TS := fun D σ H => tv σ H fun y H1 => ta σ H1 fun x H2 => ∃ a C dx fs, x = .ref a ∧ H2 a = some (.ins C dx fs) ∧ Cls K C ∧ NoAttr K C f ∧ fs.length < 1000 ∧
  D.nx σ (upd H2 a (.ins C dx (putF f y fs)))
section
variable {X : Cx} {o e value : Expr} {f : Str} {pos pos' tpos : Pos} {ta tv : TE}
end

/-! ### isinstance -/
section
variable {X : Cx} {pins : List (Addr × Obj)} {σ : St} {H : Hp} {s : Shared} {A : Around} {E : Value → Shared → Prop} {Q : Value → Shared → Prop} {c : Value} {b : Bool}
/-- the type of a value, as the fragment's deciders take it; for an instance its class -/
inductive TyOf (K : PySem.W.Frag) (H : Hp) : V → Value → Prop where
  | non : TyOf K H .non (.type "NoneType")
  | bl (x : Bool) : TyOf K H (.bl x) (.type "bool")
  | int (i : Int) : TyOf K H (.int i) (.type "int")
  | str (x : Str) : TyOf K H (.str x) (.type "str")
  | flt (x : UInt64) : TyOf K H (.flt x) (.type "float")
  | lst {a : Addr} {xs : List V} (e : H a = some (.lst xs)) : TyOf K H (.ref a) (.type "list")
  | frz {a : Addr} {o : Obj} {xs : List V} (e : H a = some (.frz o (.lst xs))) : TyOf K H (.ref a) (.type "list")
  | tup {a : Addr} {xs : List V} (e : H a = some (.tup xs)) : TyOf K H (.ref a) (.type "tuple")
  | dK {a : Addr} {kvs : List (Key × V)} (e : H a = some (.dK kvs)) : TyOf K H (.ref a) (.type "dict")
  | dT {a : Addr} {kvs : List (List Key × V)} (e : H a = some (.dT kvs)) : TyOf K H (.ref a) (.type "dict")
  | ins {a C dx : Addr} {fs : List (Str × V)} (e : H a = some (.ins C dx fs)) (cl : Cls K C) (ha : PySem.W.findIn K (.ref C) "__class__" = some (some (.builtin "object.__class__")))
      (hn : PySem.W.specialIn K (.builtin "object.__class__") "__get__" = some (some (.builtin "getset_descriptor.__get__"))) (htk : PySem.W.takesIn K (.builtin "object.__class__") = some true)
      (hm : PySem.W.mroIn K C (.type "object") = some true) : TyOf K H (.ref a) (.ref C)
/-- isinstance(x, c) for one class c, a built-in or an own one: kitOne's answer -/
theorem isinst_ok {x : V} {u t : Value} (I : Inv X pins σ H s) (rx : RelV x u) (ty : TyOf X.K H x t) (e : PySem.W.kitOne X.K t c = some b) (h : ∀ tk, Q (.bool b) { s with toks := tk }) :
    wpAny (model X.prog X.w) A (call (.builtin "isinstance") [u, c]) Q E s := by
  cases ty with
  | non => cases (show u = Value.none from rx); exact PySem.W.kia_one PySem.W.kitx_none I.kIn True.intro e (fun z => nomatch z) h
  | bl y => cases (show u = Value.bool y from rx); exact PySem.W.kia_one PySem.W.kitx_bool I.kIn True.intro e (fun z => nomatch z) h
  | int i => obtain ⟨t, q⟩ := (show ∃ t, u = Value.int i t from rx); cases q; exact PySem.W.kia_one PySem.W.kitx_int I.kIn True.intro e (fun z => nomatch z) h
  | str y => obtain ⟨t, q⟩ := (show ∃ t, u = Value.str y t from rx); cases q; exact PySem.W.kia_one PySem.W.kitx_str I.kIn True.intro e (fun z => nomatch z) h
  | flt y => obtain ⟨t, q⟩ := (show ∃ t, u = Value.float y t from rx); cases q; exact PySem.W.kia_one PySem.W.kitx_float I.kIn True.intro e (fun z => nomatch z) h
  | @lst a xs ea =>
    cases (show u = Value.ref a from rx)
    obtain ⟨_, _, n, _, h1⟩ := (show ObjOk X.prog X.w H s.heap a (.lst xs) from I.hok a _ ea)
    exact PySem.W.kia_one PySem.W.kitx_list I.kIn ⟨_, h1, rfl⟩ e (fun z => nomatch z) h
  | @frz a ob xs ea =>
    cases (show u = Value.ref a from rx)
    obtain ⟨_, _, _, n, _, h1⟩ := (show ObjOk X.prog X.w H s.heap a (.frz ob (.lst xs)) from I.hok a _ ea)
    exact PySem.W.kia_one PySem.W.kitx_list I.kIn ⟨_, h1, rfl⟩ e (fun z => nomatch z) h
  | @tup a xs ea =>
    cases (show u = Value.ref a from rx)
    obtain ⟨_, _, _, p⟩ := (show ObjOk X.prog X.w H s.heap a (.tup xs) from I.hok a _ ea)
    obtain ⟨o, h1, h2, _⟩ := p
    exact PySem.W.kia_one PySem.W.kitx_tuple I.kIn ⟨o, h1, h2⟩ e (fun z => nomatch z) h
  | @dK a kvs ea =>
    cases (show u = Value.ref a from rx)
    obtain ⟨_, _, vs, _, p⟩ := (show ObjOk X.prog X.w H s.heap a (.dK kvs) from I.hok a _ ea)
    obtain ⟨o, es, ep, h1, h2, _⟩ := p
    exact PySem.W.kia_one PySem.W.kitx_dict I.kIn ⟨o, h1, h2.1⟩ e (fun z => nomatch z) h
  | @dT a kvs ea =>
    cases (show u = Value.ref a from rx)
    obtain ⟨_, _, xs, _, o, es, ep, h1, h2, _⟩ := (show ObjOk X.prog X.w H s.heap a (.dT kvs) from I.hok a _ ea)
    exact PySem.W.kia_one PySem.W.kitx_dict I.kIn ⟨o, h1, h2.1⟩ e (fun z => nomatch z) h
  | @ins a C dx fs ea cl ha hn htk hm =>
    cases (show u = Value.ref a from rx)
    obtain ⟨mA, O, _⟩ := ins_get I.hok ea
    obtain ⟨od, J, _⟩ := O.look
    exact PySem.W.kia_one (PySem.W.kitx_own (cl.get _) cl.hd ha hn htk hm) I.kIn J e (fun z => nomatch z) h
end
end L2

namespace L2
open PySem PySem.Spec PyProof.Rows

/-! ### room -/
structure Room (k : Nat) (A : Around) : Prop where
  hd : A.handled = none
  dp : A.depth + 3 * k + 5 < recursionLimit
  un : A.units + 16 * k + 200 < cLine
theorem Room.mono {j k : Nat} {A : Around} (r : Room k A) (h : j ≤ k) : Room j A := ⟨r.hd, by have := r.dp; omega, by have := r.un; omega⟩
theorem Room.deeper {k : Nat} {A : Around} (r : Room (k + 1) A) (env : Env) : Room k (A.deeper env) :=
  ⟨r.hd, by have := r.dp; show A.depth + 1 + 3 * k + 5 < _; omega, by have := r.un; show A.units + 3 + 16 * k + 200 < _; omega⟩
theorem Room.in1 {k : Nat} {A : Around} (r : Room (k + 1) A) : Room k A.in1 :=
  ⟨r.hd, by have := r.dp; show A.depth + 3 * k + 5 < _; omega, by have := r.un; show A.units + 1 + 16 * k + 200 < _; omega⟩
theorem Room.depth {k : Nat} {A : Around} (r : Room k A) : A.depth < recursionLimit := by have := r.dp; omega
theorem Room.units {k : Nat} {A : Around} (r : Room k A) : A.units + 64 < cLine := by have := r.un; omega
/-! ### argument lists and displays -/
def tNil : TA := fun _ H Q => Q [] H
def tCons (ta : TE) (tr : TA) : TA := fun σ H Q => ta σ H fun x H1 => tr σ H1 fun xs H2 => Q (x :: xs) H2
section
variable {X : Cx} {e : Expr} {es : List Expr} {te : TE} {t : TA} {pos : Pos}
theorem pa_nil : PA X [] tNil := fun _ _ _ _ H Q I h => Calls.spliced_nil ⟨[], H, I, .nil, h⟩
theorem pa_cons (ha : PE X e te) (hr : PA X es t) (hs : starEach (e :: es) X.env = (false, eval e X.env) :: starEach es X.env := by rfl) : PA X (e :: es) (tCons te t) := by
  intro pos pins s σ H Q I h
  rw [hs]
  show wpAny _ _ (spliced ((false, eval e X.env) :: backTo pos (starEach es X.env))) _ _ s
  refine Calls.spliced_cons (thn (ha pins s σ H _ I h) fun u s1 ⟨x, H1, I1, r1, q1⟩ => ?_)
  exact thn (hr pos pins s1 σ H1 _ I1 q1) fun us s2 ⟨xs, H2, I2, r2, q2⟩ => ⟨x :: xs, H2, I2, .cons r1 r2, q2⟩

/-- a tuple, a list of written items -/
def tTup (t : TA) : TE := fun σ H Q => t σ H fun xs H1 => xs.length ≤ sizeLine ∧ ∀ p, H1 p = none → Q (.ref p) (upd H1 p (.tup xs))
def tLst (t : TA) : TE := fun σ H Q => t σ H fun xs H1 => xs.length ≤ sizeLine ∧ ∀ p, H1 p = none → Q (.ref p) (upd H1 p (.lst xs))
theorem pe_tup {x1} (h : PA X es t) : PE X (.Tuple es x1 pos) (tTup t) := by
  intro pins s σ H Q I hq
  refine wpAny_Tuple_spliced (thn (h pos pins s σ H _ I hq) fun us s1 ⟨xs, H1, I1, r, z, q⟩ => ⟨by rw [← r.length]; exact z, ?_⟩)
  have hf : H1 s1.heap.objs.size = none := I1.hok.fresh (Nat.le_refl _)
  refine ⟨.ref s1.heap.objs.size, upd H1 s1.heap.objs.size (.tup xs), I1.laid (t' := s1.toks) (fun b u e => Heap.get?_push_of_some _ e) (Nat.le_refl _) ?_, rfl, q _ hf⟩
  exact ⟨z, us, r, ⟨_, Heap.get?_push_size _ rfl, rfl, _, rfl⟩⟩
theorem pe_lst (h : PA X es t) : PE X (.List es pos) (tLst t) := by
  intro pins s σ H Q I hq
  refine wpAny_List_spliced (thn (h pos pins s σ H _ I hq) fun us s1 ⟨xs, H1, I1, r, z, q⟩ => ⟨by rw [← r.length]; exact z, ?_⟩)
  have hf : H1 s1.heap.objs.size = none := I1.hok.fresh (Nat.le_refl _)
  refine ⟨.ref s1.heap.objs.size, upd H1 s1.heap.objs.size (.lst xs), I1.laid (t' := s1.toks) (fun b u e => Heap.get?_push_of_some _ e) (Nat.le_refl _) ?_, rfl, q _ hf⟩
  exact ⟨z, us, 0, r, Heap.get?_push_size _ rfl⟩
end

/-! ### what a def promises -/
/-- a def's promise: the bound arguments in the parameters' order, the heap, the wanted end, the wanted exception -/
abbrev Sp := List V → Hp → VK → XK → Prop
/-- how an exception lies behind a call (file 08 gives it): the callers' frames, abstract heap and state ahead of the call, the wish, the exception, the state -/
abbrev CXT := List Env → Hp → Shared → XK → Value → Shared → Prop

/-- the state at a call -/
structure Env0 (P : Program) (w : World) (K : PySem.W.Frag) (mg : Str → Option Value) (base : Heap) (A : Around) (outer : List Env) (s : Shared) (H : Hp) : Prop where
  frames : A.frames = some outer
  mod : Mod K mg base
  bs : ∀ b o, base.get? b = some o → s.heap.get? b = some o ∧ H b = none
  bsz : base.objs.size ≤ s.heap.objs.size
  funs : s.heap.FunFrames base outer
  frf : ∀ b ∈ frs outer, H b = none
  hok : HOk P w H s.heap
  bare : AllBare s.gens
/-- a call's end -/
def CE (outer : List Env) (P : Program) (w : World) (H : Hp) (s : Shared) (Q : VK) (u : Value) (s' : Shared) : Prop :=
  ∃ v H', s'.os = s.os ∧ AllBare s'.gens ∧ Un (frs outer) [] H H' s.heap s'.heap ∧ HOk P w H' s'.heap ∧ RelV v u ∧ Q v H'
def CR (CX : CXT) (outer : List Env) (P : Program) (w : World) (H : Hp) (s : Shared) (Q : VK) (E : XK) (r : Result) (s' : Shared) : Prop :=
  match r with
  | .ok (.ret u) => CE outer P w H s Q u s'
  | .ok _ => False
  | .error e => CX outer H s E e s'
structure FnOk (P : Program) (w : World) (K : PySem.W.Frag) (mg : Str → Option Value) (base : Heap) (CX : CXT) (k : Nat) (f : Addr) (fd : FuncData) (ps : List Str) (sp : Sp) : Prop where
  len : ∀ vs H Q E, sp vs H Q E → vs.length = ps.length
  run : ∀ (A : Around) (outer : List Env) (s : Shared) (H : Hp) (args : Args) (us : List Value) (vs : List V) (Q : VK) (E : XK), Room k A → Env0 P w K mg base A outer s H → BindsTo s fd args (ps.zip us) → Vals vs us → sp vs H Q E →
    codeAny (model P w) A (.call (.ref f) args) (CR CX outer P w H s Q E) s
theorem FnOk.mono {P : Program} {w : World} {K : PySem.W.Frag} {mg : Str → Option Value} {base : Heap} {CX : CXT} {j k : Nat} {f : Addr} {fd : FuncData} {ps : List Str} {sp : Sp} (F : FnOk P w K mg base CX j f fd ps sp) (h : j ≤ k) :
    FnOk P w K mg base CX k f fd ps sp := ⟨F.len, fun A outer s H args us vs Q E hr => F.run A outer s H args us vs Q E (hr.mono h)⟩
theorem Env0.in1 {P : Program} {w : World} {K : PySem.W.Frag} {mg : Str → Option Value} {base : Heap} {A : Around} {outer : List Env} {s : Shared} {H : Hp} (e : Env0 P w K mg base A outer s H) :
    Env0 P w K mg base A.in1 outer s H := ⟨e.frames, e.mod, e.bs, e.bsz, e.funs, e.frf, e.hok, e.bare⟩

section
variable {X : Cx} {pins : List (Addr × Obj)} {σ : St} {H : Hp} {s s' : Shared}
/-- from a body: what a callee wants -/
theorem Inv.env0 (I : Inv X pins σ H s) : Env0 X.prog X.w X.K X.mg X.base X.A X.stack s H :=
  ⟨I.ok.frames, I.ok.mod, I.bs, Nat.le_trans I.ok.bsz I.sz, I.stack, I.stkFree, I.hok, I.bare⟩
/-- behind a call -/
theorem Inv.after {Q : VK} {u : Value} (I : Inv X pins σ H s) (h : CE X.stack X.prog X.w H s Q u s') : EP X pins σ Q u s' := by
  obtain ⟨v, H', os, bare, un, hok, r, q⟩ := h
  obtain ⟨hh, g, d, t, os'⟩ := s'
  obtain rfl : os' = s.os := os
  exact ⟨v, H', I.call (h' := hh) (g' := g) (d' := d) (t' := t) (ch := []) un hok bare (fun b z => absurd z (by simp)), r, q⟩
end

/-! ### calls -/
/-- f(..): the written arguments, then the defaults dvs; E: what is wanted of an exception -/
def tCall (sp : Sp) (dvs : List V) (E : XK) (t : TA) : TE := fun σ H Q => t σ H fun vs H1 => sp (vs ++ dvs) H1 Q E
/-- o.m(..) of an instance of the class at C -/
def tMeth (C : Addr) (m : Str) (sp : Sp) (dvs : List V) (E : XK) (ta : TE) (t : TA) : TE := fun σ H Q => ta σ H fun x H1 => ∃ a dx fs, x = .ref a ∧ H1 a = some (.ins C dx fs) ∧ fs.lookup m = none ∧
  t σ H1 fun vs H2 => sp (x :: (vs ++ dvs)) H2 Q E
/-- C(..): a new instance and its dict, then __init__ -/
def tMake (C : Addr) (sp : Sp) (dvs : List V) (E : XK) (t : TA) : TE := fun σ H Q => t σ H fun vs H1 => ∀ x dx, H1 x = none → H1 dx = none → dx ≠ x →
  sp (.ref x :: (vs ++ dvs)) (upd (upd H1 dx (.own x)) x (.ins C dx [])) (fun v H2 => v = .non ∧ Q (.ref x) H2) E

/-- how the parameters are bound: us the positional arguments, kw the keywords' values by name, ds the defaults that fill up -/
def Binds (K : PySem.W.Frag) (fd : FuncData) (ps : List Str) (ds : List Value) : Prop :=
  ∀ (s : Shared) (us : List Value), K.In s.heap → (us ++ ds).length = ps.length → BindsTo s fd ⟨us, []⟩ (ps.zip (us ++ ds))
/-- every parameter is given -/
theorem Binds.all {K : PySem.W.Frag} {fd : FuncData} {ps : List Str} (h : ∀ us : List Value, us.length = ps.length → bindArgs fd ⟨us, []⟩ = pure (ps.zip us)) : Binds K fd ps [] := fun s us _ hl => by
  rw [List.append_nil] at hl ⊢
  exact .of_eq (h us hl)

/-- an exception of a callee reaches what this body wants of exceptions -/
def Passes (CX : CXT) (X : Cx) (E : XK) : Prop := ∀ (pins : List (Addr × Obj)) (σ : St) (H : Hp) (s : Shared) (e : Value) (s' : Shared), Inv X pins σ H s → CX X.stack H s E e s' → X.xe e s'

section
variable {X : Cx} {CX : CXT} {k : Nat} {f C : Addr} {fd : FuncData} {ps : List Str} {sp : Sp} {dvs : List V} {ds : List Value} {E : XK} {x m : Str} {p pos apos : Pos} {e o : Expr} {es : List Expr} {ta : TE} {t : TA}

/-- the callee runs -/
theorem run_fn {pins : List (Addr × Obj)} {σ : St} {H : Hp} {s : Shared} {Q : VK} {us : List Value} {vs : List V} (F : FnOk X.prog X.w X.K X.mg X.base CX k f fd ps sp) (hr : Room k X.A) (hb : Binds X.K fd ps ds) (hd : Vals dvs ds) (hx : Passes CX X E)
    (I : Inv X pins σ H s) (r : Vals vs us) (h : sp (vs ++ dvs) H Q E) : wpAny (model X.prog X.w) X.A (call (.ref f) us) (EP X pins σ Q) X.xe s := by
  have r2 : Vals (vs ++ dvs) (us ++ ds) := r.append hd
  have hl : (us ++ ds).length = ps.length := by rw [← r2.length]; exact F.len _ _ _ _ h
  refine wpAny_call (codeAny_mono (F.run X.A X.stack s H ⟨us, []⟩ (us ++ ds) (vs ++ dvs) Q E hr I.env0 (hb s us I.kIn hl) r2 h) fun r s' hq => ?_)
  cases r with
  | error e => exact hx pins σ H s e s' I hq
  | ok fl =>
    cases fl with
    | ret u => exact I.after hq
    | next => exact False.elim hq
    | brk => exact False.elim hq
    | cont => exact False.elim hq

theorem pe_call (F : FnOk X.prog X.w X.K X.mg X.base CX k f fd ps sp) (hr : Room k X.A) (hg : Gl X x) (hm : X.mg x = some (.ref f)) (hk : PySem.W.keepIn X.K (.ref f) = true) (hb : Binds X.K fd ps ds) (hd : Vals dvs ds) (hx : Passes CX X E)
    (ha : PA X (e :: es) t) (hdb : (x == ("__debug__" : Str)) = false := by decide) (he : starEach (e :: es) X.env = (false, eval e X.env) :: starEach es X.env := by rfl) (hpl : (backTo pos (starEach es X.env)).any (·.1) = false := by rfl) :
    PE X (.Call (.Name x p) (e :: es) [] pos) (tCall sp dvs E t) := by
  intro pins s σ H Q I h
  refine wpAny_Call_Name_kw (ld_glob I hg hm ?_ hdb)
  refine PySem.W.callWith_K (h₀ := X.base) I.ok.mod.kin hk (thn (ha pos pins s σ H _ I h) fun us s1 ⟨vs, H1, I1, r, q⟩ => ⟨I1.kIn, ?_⟩) he hpl
  exact run_fn F hr hb hd hx I1 r q
/-- what a class must have to be made -/
structure Mk (K : PySem.W.Frag) (C f : Addr) : Prop where
  makes : PySem.W.makesIn K C = true
  init : PySem.W.findIn K (.ref C) "__init__" = some (some (.ref f))
  fn : PySem.W.isFn K (.ref f) = true
  kp : PySem.W.keepIn K (.ref C) = true

end

/-! ### keywords -/
section
variable {X : Cx} {CX : CXT} {k : Nat} {f C : Addr} {fd : FuncData} {ps ks : List Str} {sp : Sp} {E : XK} {x m : Str} {p pos apos kpos : Pos} {e o : Expr} {es : List Expr} {kws : List Keyword} {te ta : TE} {t tk : TA} {nm : Option Str}
/-- how a call with keywords binds: g puts the positional values us and the keywords' values ws (names ks) in the parameters' order, defaults among them -/
structure KBinds (K : PySem.W.Frag) (fd : FuncData) (ps ks : List Str) (g : List Value → List Value → List Value) (gV : List V → List V → List V) : Prop where
  to : ∀ (s : Shared) (us ws : List Value), K.In s.heap → (g us ws).length = ps.length → BindsTo s fd ⟨us, ks.zip ws⟩ (ps.zip (g us ws))
  rel : ∀ {vs : List V} {us : List Value} {zs : List V} {ws : List Value}, Vals vs us → Vals zs ws → Vals (gV vs zs) (g us ws)
variable {g : List Value → List Value → List Value} {gV : List V → List V → List V}
end

/-! ### a def's body keeps its promise -/
/-- names: the parameters first -/
structure FnScope (N P : List Str) (sc : Scope) : Prop where
  kind : sc.kind = .function
  co : sc.isCoroutine = false
  gen : sc.isGenerator = false
  nd : N.Nodup
  pre : N.take P.length = P
  par : ∀ x ∈ P, sc.names.lookup x = some .local ∨ sc.names.lookup x = some .cell
  nofree : ∀ y ∈ sc.names, y.2 ≠ .free

theorem bindL_out {kindOf : Str → Option NameKind} {x : Str} : ∀ {binds : List (Str × Value)} {m : Str → Option Value}, (∀ v, (x, v) ∉ binds) → bindL kindOf binds m x = m x
  | [], _, _ => rfl
  | (n, v) :: r, m, h => by
    unfold bindL
    rw [bindL_out fun w hw => h w (List.mem_cons_of_mem _ hw)]
    split
    · have : x ≠ n := by rintro rfl; exact h v List.mem_cons_self
      simp [this]
    · rfl
theorem bindC_out {kindOf : Str → Option NameKind} {x : Str} : ∀ {binds : List (Str × Value)} {m : Str → Option Value}, (∀ v, (x, v) ∉ binds) → bindC kindOf binds m x = m x
  | [], _, _ => rfl
  | (n, v) :: r, m, h => by
    unfold bindC
    rw [bindC_out fun w hw => h w (List.mem_cons_of_mem _ hw)]
    split
    · rfl
    · have : x ≠ n := by rintro rfl; exact h v List.mem_cons_self
      simp [this]
theorem bindL_get {kindOf : Str → Option NameKind} {x : Str} {v : Value} : ∀ {P : List Str} {vs : List Value} {i : Nat} {m : Str → Option Value}, P.Nodup → P[i]? = some x → vs[i]? = some v → kindOf x = some .local →
    bindL kindOf (P.zip vs) m x = some v
  | [], _, _, _, _, h, _, _ => by simp at h
  | _ :: _, [], _, _, _, _, h, _ => by simp at h
  | p :: P, w :: vs, 0, m, nd, h1, h2, hk => by
    simp at h1 h2; subst h1; subst h2
    show bindL kindOf ((p, w) :: P.zip vs) m p = _
    unfold bindL
    rw [bindL_out fun v hv => (List.nodup_cons.mp nd).1 (List.of_mem_zip hv).1, if_pos hk]
    simp
  | p :: P, w :: vs, i + 1, m, nd, h1, h2, hk => by
    show bindL kindOf ((p, w) :: P.zip vs) m x = _
    unfold bindL
    exact bindL_get (i := i) (List.nodup_cons.mp nd).2 (by simpa using h1) (by simpa using h2) hk
theorem bindC_get {kindOf : Str → Option NameKind} {x : Str} {v : Value} : ∀ {P : List Str} {vs : List Value} {i : Nat} {m : Str → Option Value}, P.Nodup → P[i]? = some x → vs[i]? = some v → kindOf x ≠ some .local →
    bindC kindOf (P.zip vs) m x = some v
  | [], _, _, _, _, h, _, _ => by simp at h
  | _ :: _, [], _, _, _, _, h, _ => by simp at h
  | p :: P, w :: vs, 0, m, nd, h1, h2, hk => by
    simp at h1 h2; subst h1; subst h2
    show bindC kindOf ((p, w) :: P.zip vs) m p = _
    unfold bindC
    rw [bindC_out fun v hv => (List.nodup_cons.mp nd).1 (List.of_mem_zip hv).1, if_neg hk]
    simp
  | p :: P, w :: vs, i + 1, m, nd, h1, h2, hk => by
    show bindC kindOf ((p, w) :: P.zip vs) m x = _
    unfold bindC
    exact bindC_get (i := i) (List.nodup_cons.mp nd).2 (by simpa using h1) (by simpa using h2) hk

/-- the names' values at the entry -/
def start (N : List Str) (vs : List V) : St := vs.map some ++ List.replicate (N.length - vs.length) none

/-- the context of a def's body, at its entry; an exception leaves the frame, then lies as CX says -/
def cxOf (CX : CXT) (P : Program) (w : World) (K : PySem.W.Frag) (mg : Str → Option Value) (base : Heap) (N : List Str) (qual : Str) (scope : Scope) (f : Addr) (cd : Value) (A : Around) (outer : List Env) (s : Shared) (H : Hp) (E : XK) : Cx where
  prog := P
  w := w
  K := K
  mg := mg
  base := base
  A := A.deeper (envOfC qual scope s.heap.objs.size f cd)
  N := N
  s₀ := s
  H₀ := H
  env := envOfC qual scope s.heap.objs.size f cd
  outer := outer
  stack := envOfC qual scope s.heap.objs.size f cd :: outer
  ex := []
  calm := true
  fn := fun _ => true
  pn := []
  xe := fun e s' => wpAny (model P w) (A.deeper (envOfC qual scope s.heap.objs.size f cd)) (leaving (envOfC qual scope s.heap.objs.size f cd) e) (fun _ s'' => CX outer H s E e s'') (fun e' s'' => CX outer H s E e' s'') s'

theorem cell_has {sc : Scope} {n : Nat} {x : Str} (h : sc.names.lookup x = some .cell) : ∃ c, (cellsFrom n sc.names []).lookup x = some c := by
  have q := PySem.W.cellsFrom_some sc.names n [] (.inl h)
  exact Option.isSome_iff_exists.mp q

theorem inv_start {CX : CXT} {P : Program} {w : World} {K : PySem.W.Frag} {mg : Str → Option Value} {base : Heap} {N ps : List Str} {qual : Str} {scope : Scope} {f : Addr} {cd : Value} {A : Around} {outer : List Env} {s s1 : Shared} {H : Hp} {E : XK} {us : List Value} {vs : List V}
    (S : FnScope N ps scope) (hd : A.handled = none) (e0 : Env0 P w K mg base A outer s H) (hl : vs.length = ps.length) (r : Vals vs us)
    (x : InCallC s s.heap.objs.size (bindL (envOfC qual scope s.heap.objs.size f cd).kindOf (ps.zip us) fun _ => none) (cellsFrom (s.heap.objs.size + 1) scope.names []) (bindC (envOfC qual scope s.heap.objs.size f cd).kindOf (ps.zip us) fun _ => none) s1) :
    Inv (cxOf CX P w K mg base N qual scope f cd A outer s H E) [] (start N vs) H s1 := by
  have hpl : ps.length ≤ N.length := by have := congrArg List.length S.pre; rw [List.length_take] at this; omega
  obtain ⟨h1, tk, rfl, hk⟩ := x.done
  have noA : ∀ b : Addr, b ∉ (cxOf CX P w K mg base N qual scope f cd A outer s H E).ex := fun b z => absurd (show b ∈ ([] : List Addr) from z) (by simp)
  refine ⟨⟨e0.mod, S.kind, rfl, rfl, Nat.le_refl _, fun y z c h1 h2 => ?_, fun y hy => ?_, fun y c _ h => ?_, fun _ => hd, Around.frames_deeper e0.frames, .inr ⟨rfl, rfl⟩, fun b z => absurd z (noA b), e0.bs, e0.bsz, fun b _ _ => noA b, fun b z => absurd z (noA b), e0.funs, e0.frf⟩,
    rfl, e0.bare, Un.kept hk, ⟨_, x.toInCall.ns, fun i y v h1 h2 h3 => ?_⟩, fun y c h => ⟨_, x.cell y c h⟩, e0.hok.fresh (Nat.le_refl _), fun y c h => ?_, fun p hp => absurd (show p ∈ ([] : List (Addr × Obj)) from hp) (by simp), e0.hok.kept hk, ?_⟩
  · exact name_of_addr x.apart (PySem.mem_of_lookup h1) (PySem.mem_of_lookup h2)
  · have hy : scope.names.lookup y = some .cell ∨ scope.names.lookup y = some .free := hy
    rcases hy with hy | hy
    · exact cell_has hy
    · exact absurd rfl (S.nofree _ (PySem.mem_of_lookup hy))
  · exact Nat.le_of_lt (x.above y c (PySem.mem_of_lookup h))
  · have hi : i < vs.length := by
      unfold start at h2
      by_cases hi : i < vs.length
      · exact hi
      · rw [List.getElem?_append_right (by simpa using hi)] at h2
        rw [List.getElem?_replicate] at h2
        split at h2 <;> cases h2
    have ha : vs[i]? = some v := by
      unfold start at h2
      rw [List.getElem?_append_left (by simpa using hi), List.getElem?_map] at h2
      cases e : vs[i]? with
      | none => rw [e] at h2; cases h2
      | some a => rw [e] at h2; cases h2; rfl
    obtain ⟨u, hu, rv⟩ := r.get ha
    have hp : ps[i]? = some y := by
      rw [← S.pre, List.getElem?_take_of_lt (by omega)]; exact h1
    have ndP : ps.Nodup := by rw [← S.pre]; exact S.nd.sublist (List.take_sublist _ _)
    refine ⟨u, rv, ?_⟩
    rcases S.par y (List.mem_of_getElem? hp) with k | k
    · exact .inl ⟨k, bindL_get ndP hp hu k⟩
    · obtain ⟨c, e⟩ := cell_has (n := s.heap.objs.size + 1) k
      refine .inr ⟨.inl k, c, e, ?_⟩
      have q := x.cell y c e
      rw [bindC_get ndP hp hu (by show scope.names.lookup y ≠ _; rw [k]; decide)] at q
      exact q
  · exact e0.hok.fresh (Nat.le_of_lt (x.above y c (PySem.mem_of_lookup h)))
  · unfold start
    show _ = N.length
    rw [List.length_append, List.length_map, List.length_replicate]
    omega

/-- THE RULE: a def (or a method) of the text, by its body. The body's reading t is chosen for each entry; it is run at the parameters' values -/
theorem fn_of {CX : CXT} {P : Program} {w : World} {K : PySem.W.Frag} {mg : Str → Option Value} {base : Heap} {k : Nat} {f : Addr} {name qual : Str} {params : Arguments} {body : List Stmt} {scope : Scope} {dV kV doc pm cdv ct oc : Value} {an od : Option Addr}
    {osl : Array (Option Value)} {N ps : List Str} {sp : Sp} (lk : K.lookup f = some ⟨oc, od, .func (PySem.W.fnOf name qual params body scope dV kV doc pm an cdv ct), osl⟩) (hcd : PySem.W.codeIn K cdv qual = true) (S : FnScope N ps scope)
    (len : ∀ vs H Q E, sp vs H Q E → vs.length = ps.length)
    (hbody : ∀ (A : Around) (outer : List Env) (s : Shared) (H : Hp) (vs : List V) (Q : VK) (E : XK), Room k (A.deeper (envOfC qual scope s.heap.objs.size f cdv)) → sp vs H Q E →
      ∃ t, PSs (cxOf CX P w K mg base N qual scope f cdv A outer s H E) body t ∧ t { nx := fun _ H' => Q .non H', rt := Q } (start N vs) H) :
    FnOk P w K mg base CX (k + 1) f (PySem.W.fnOf name qual params body scope dV kV doc pm an cdv ct) ps sp := by
  refine ⟨len, fun A outer s H args us vs Q E hr e0 hb r hsp => ?_⟩
  have hl := len _ _ _ _ hsp
  have KX : K.In s.heap := e0.mod.kin.keeps fun b o e => (e0.bs b o e).1
  have lim : s.heap.NoLimit := e0.mod.nolimit.keeps fun b o e => (e0.bs b o e).1
  have hkind : ∀ y ∈ ps.zip us, scope.names.lookup y.1 = some .local ∨ (scope.names.lookup y.1 = some .cell ∧ ((cellsFrom (s.heap.objs.size + 1) scope.names []).lookup y.1).isSome = true) := fun ⟨n, v⟩ hy => by
    rcases S.par n (List.of_mem_zip hy).1 with q | q
    · exact .inl q
    · exact .inr ⟨q, PySem.W.cellsFrom_some _ _ _ (.inl q)⟩
  refine codeAny_call_function hr.depth (KX _ _ lk) rfl S.co S.gen rfl (PySem.W.codeRec_of KX hcd) (hb _ _ _ _ ?_)
  refine wpAny_newFunctionEnv_cells S.kind hkind fun env he s1 x => ?_
  subst he
  refine ⟨lim.keeps x.toInCall.keep, codeAny_func ?_⟩
  obtain ⟨t, ht, hq⟩ := hbody A outer s H vs Q E (hr.deeper _) hsp
  have I : Inv (cxOf CX P w K mg base N qual scope f cdv A outer s H E) [] (start N vs) H s1 := inv_start S hr.hd e0 hl r x
  refine wpAny_mono (ht [] s1 (start N vs) H _ I hq) (fun fl s' hs => ?_) fun e s' hs => hs
  have fin : ∀ {σ' : St} {H' : Hp} {v : V} {u : Value}, Inv (cxOf CX P w K mg base N qual scope f cdv A outer s H E) [] σ' H' s' → RelV v u → Q v H' → CE outer P w H s Q u s' :=
    fun {σ' H' v u} J rv q => ⟨v, H', J.os, J.bare, J.base, J.hok, rv, q⟩
  cases fl with
  | ret u =>
    obtain ⟨v, σ', H', J, rv, q⟩ := hs
    exact fin J rv q
  | next =>
    obtain ⟨σ', H', J, q⟩ := hs
    exact fin (v := V.non) (u := Value.none) J rfl q
  | brk =>
    obtain ⟨_, _, _, q⟩ := hs
    exact False.elim q
  | cont =>
    obtain ⟨_, _, _, q⟩ := hs
    exact False.elim q
end L2

namespace L2
open PySem PySem.Spec PyProof.Rows
section
variable {X : Cx} {x : Str} {p pos : Pos} {e : Expr} {es : List Expr} {t : TA} {id T : String} {r : List V → Hp → VK → Prop}

def tCB (r : List V → Hp → VK → Prop) (t : TA) : TE := fun σ H Q => t σ H fun vs H1 => r vs H1 Q
/-- f(e, ..), f a built-in function -/
theorem pe_callB (hc : CallR X (.builtin id) r) (hg : Gl X x) (hm : X.mg x = none) (hv : bootBuiltins x = some (.builtin id)) (ha : PA X (e :: es) t) (hn : x ≠ "__name__" := by decide) (hdb : (x == ("__debug__" : Str)) = false := by decide)
    (he : starEach (e :: es) X.env = (false, eval e X.env) :: starEach es X.env := by rfl) (hpl : (backTo pos (starEach es X.env)).any (·.1) = false := by rfl) : PE X (.Call (.Name x p) (e :: es) [] pos) (tCB r t) := by
  intro pins s σ H Q I h
  refine wpAny_Call_Name_kw (ld_blt I hg hm hv ?_ hn hdb)
  exact PyProof.Rows.callWith_builtin1 (thn (ha pos pins s σ H _ I h) fun us s1 ⟨vs, H1, I1, r1, q1⟩ => hc pins s1 σ H1 vs us Q I1 r1 q1) he hpl
/-- T(e, ..), T a built-in type -/
theorem pe_callTy (hc : CallR X (.type T) r) (hg : Gl X x) (hm : X.mg x = none) (hv : bootBuiltins x = some (.type T)) (ha : PA X (e :: es) t) (hn : x ≠ "__name__" := by decide) (hdb : (x == ("__debug__" : Str)) = false := by decide)
    (he : starEach (e :: es) X.env = (false, eval e X.env) :: starEach es X.env := by rfl) (hpl : (backTo pos (starEach es X.env)).any (·.1) = false := by rfl) : PE X (.Call (.Name x p) (e :: es) [] pos) (tCB r t) := by
  intro pins s σ H Q I h
  refine wpAny_Call_Name_kw (ld_blt I hg hm hv ?_ hn hdb)
  exact PyProof.Rows.callWith_type1 (thn (ha pos pins s σ H _ I h) fun us s1 ⟨vs, H1, I1, r1, q1⟩ => hc pins s1 σ H1 vs us Q I1 r1 q1) he hpl
end
end L2

namespace HT
open PySem PyProof.Rows

/-- t < u of tuples of ints -/
def lexLt : List Int → List Int → Bool
  | [], [] => false
  | [], _ :: _ => true
  | _ :: _, [] => false
  | x :: xs, y :: ys => if x = y then lexLt xs ys else decide (x < y)
theorem lexLt_cons (x y : Int) (xs ys : List Int) : lexLt (x :: xs) (y :: ys) = if x = y then lexLt xs ys else decide (x < y) := rfl
theorem lexLt_nil_nil : lexLt [] [] = false := rfl
section
open PySem.SeqAt
open PySem.AutoSeq1 (wpAny_loadPart')
open PySem.MeetsSeq PySem.MeetsSeq2 PySem.MeetsSeq3

end

section
variable {prog : Program} {w : World} {A : Around} {E : Value → Shared → Prop} {s : Shared}

/-- t + u, t not empty -/
theorem cat_tup {t b : Addr} {vs ws : List Value} {Q : Value → Shared → Prop} (ht : IsTup s.heap t vs.toArray) (hb : IsTup s.heap b ws.toArray) (hv : vs ≠ [])
    (h1 : ws = [] → Q (.ref t) s) (h2 : ws ≠ [] → Q (.ref s.heap.objs.size) { s with heap := s.heap.push { cls := .type "tuple", data := .seq (vs ++ ws).toArray } })
    (hsz : vs.length + ws.length ≤ sizeLine) : wpAny (model prog w) A (binaryOp .Add (.ref t) (.ref b)) Q E s := by
  obtain ⟨⟨cls, dd, data, sl⟩, ho, hc, n, hd⟩ := id ht
  obtain ⟨⟨cls2, dd2, data2, sl2⟩, ho2, hc2, n2, hd2⟩ := id hb
  simp only at hc hd hc2 hd2
  subst hc hd hc2 hd2
  have e : vs.toArray ++ ws.toArray = (vs ++ ws).toArray := by simp
  by_cases hw : ws = []
  · exact concat_meets ⟨_, ho, rfl⟩ ⟨_, ho2, rfl⟩ noFill_tuple_add seq_tuple_add PySem.F.slot_tuple_add PySem.F.entry_tuple_add (PySem.F.args_tuple_add_2 _ _)
      (tuple_addW1 t b vs.toArray ws.toArray n n2 dd dd2 sl sl2 (by simpa using hv) (by simp [hw])) ⟨ho, ho2, h1 hw⟩
  · refine concat_meets ⟨_, ho, rfl⟩ ⟨_, ho2, rfl⟩ noFill_tuple_add seq_tuple_add PySem.F.slot_tuple_add PySem.F.entry_tuple_add (PySem.F.args_tuple_add_2 _ _)
      (tuple_addW2 t b vs.toArray ws.toArray n n2 dd dd2 sl sl2 (by simpa using hv) (by simpa using hw) (by rw [List.size_toArray, List.size_toArray]; exact hsz)) ⟨ho, ho2, ?_⟩
    rw [e]
    exact h2 hw

/-! ### t[a:b], not the whole -/
/-- a slice's bound as a place among n (d where it is left out) -/
def sIx (n d : Nat) : Option Int → Nat
  | none => d
  | some v => if v < 0 then (v + (n : Int)).toNat else min v.toNat n
end
end HT

namespace L2
open PySem PySem.Spec PyProof.Rows

/-! ### the parts of a slice -/
abbrev TO := St → Hp → (Option Int → Hp → Prop) → Prop
def tNoPart : TO := fun _ H Q => Q none H
def tPart (t : TE) : TO := fun σ H Q => t σ H fun x H1 => ∃ i, x = .int i ∧ Q (some i) H1

theorem intsAre_of {ns : List Int} : ∀ {us : List Value}, Vals (ns.map V.int) us → IntsAre us ns := by
  induction ns with
  | nil => intro us r; rw [List.map_nil] at r; cases r; exact .nil
  | cons n ns ih =>
    intro us r
    rw [List.map_cons] at r
    cases r with
    | cons r1 r2 =>
      obtain ⟨t, e⟩ := r1
      subst e
      exact .cons n t (ih r2)

section
variable {X : Cx} {e : Expr} {te : TE} {lo hi : Option Expr} {tl th : TO} {pos p2 : Pos}

def tSl (r : V → Option Int → Option Int → Hp → VK → Prop) (te : TE) (tl th : TO) : TE := fun σ H Q => te σ H fun x H1 => tl σ H1 fun l H2 => th σ H2 fun u H3 => r x l u H3 Q
/-- the items of xs[lo:hi] -/
def cutV (xs : List V) (lo hi : Option Int) : List V := (xs.drop (HT.sIx xs.length 0 lo)).take (HT.sIx xs.length xs.length hi - HT.sIx xs.length 0 lo)
/-! ### t < u, t + u -/
theorem Vals.nil_iff {xs : List V} {us : List Value} (r : Vals xs us) : us = [] ↔ xs = [] := by
  cases r with
  | nil => simp
  | cons _ _ => simp
end
end L2

namespace L2
open PySem PySem.Spec PyProof.Rows

/-! ### places -/
/-- the place that an index of any sign means -/
def ixN (n : Nat) (i : Int) : Option Nat := if 0 ≤ i then (if i < n then some i.toNat else none) else if -(n : Int) ≤ i then some (i + n).toNat else none
def atI {α : Type} (xs : List α) (i : Int) : Option α := (ixN xs.length i).bind fun j => xs[j]?
theorem ixN_seq {n : Nat} {i : Int} {j : Nat} (h : ixN n i = some j) : seqIndex? i n = some j ∧ j < n ∧ -(n : Int) ≤ i ∧ i < n := by
  unfold ixN at h
  by_cases h0 : 0 ≤ i
  · rw [if_pos h0] at h
    by_cases h1 : i < n
    · rw [if_pos h1] at h
      have e : i.toNat = j := Option.some.inj h
      exact ⟨by rw [seqIndex_of h0 h1, e], by omega, by omega, h1⟩
    · rw [if_neg h1] at h; cases h
  · rw [if_neg h0] at h
    by_cases h1 : -(n : Int) ≤ i
    · rw [if_pos h1] at h
      have e : (i + n).toNat = j := Option.some.inj h
      exact ⟨by rw [seqIndex_neg (by omega) h1, e], by omega, h1, by omega⟩
    · rw [if_neg h1] at h; cases h
theorem atI_get {α : Type} {xs : List α} {i : Int} {v : α} (h : atI xs i = some v) : ∃ j, seqIndex? i xs.length = some j ∧ xs[j]? = some v ∧ j < xs.length ∧ -(xs.length : Int) ≤ i ∧ i < xs.length := by
  unfold atI at h
  cases e : ixN xs.length i with
  | none => rw [e] at h; cases h
  | some j =>
    rw [e] at h
    obtain ⟨h1, h2, h3, h4⟩ := ixN_seq e
    exact ⟨j, h1, h, h2, h3, h4⟩
theorem atI_nat {α : Type} {xs : List α} {j : Nat} {v : α} (h : xs[j]? = some v) : atI xs (j : Int) = some v := by
  have hj : j < xs.length := (List.getElem?_eq_some_iff.mp h).1
  have e : ixN xs.length (j : Int) = some j := by
    unfold ixN
    rw [if_pos (by omega), if_pos (by omega)]; simp
  unfold atI; rw [e]; exact h
/-! ### what may be subscripted -/
/-- what stands as an index of a plain subscript -/
def PlainIx (b : Expr) : Prop := ∀ o i, subscripted b false o i = operate [o, i] (getItem o i)
/-- a subscript by values -/
def IxR (X : Cx) (r : R2) : Prop :=
  ∀ (value slice : Expr) (pins : List (Addr × Obj)) (s : Shared) (σ : St) (H : Hp) (x y : V) (v u : Value) (Q : VK), Inv X pins σ H s → RelV x v → RelV y u → r x y H Q →
    subscripted slice false v u = operate [v, u] (getItem v u) → wpAny (model X.prog X.w) X.A (subscriptTail value slice v u) (EP X pins σ Q) X.xe s
/-- a call of a builtin's method by values: the receiver, the arguments -/
def MtR (X : Cx) (id : String) (r : V → List V → Hp → VK → Prop) : Prop :=
  ∀ (pins : List (Addr × Obj)) (s : Shared) (σ : St) (H : Hp) (x : V) (xs : List V) (v : Value) (us : List Value) (Q : VK), Inv X pins σ H s → RelV x v → Vals xs us → r x xs H Q →
    wpAny (model X.prog X.w) X.A (call (.builtin id) (v :: us)) (EP X pins σ Q) X.xe s
section
variable {X : Cx} {a b : Expr} {ta tb : TE} {pos : Pos}
/-- a[b] -/
theorem pe_ix {r : R2} (hr : IxR X r) (ha : PE X a ta) (hb : PE X b tb) (hs : PlainIx b) : PE X (.Subscript a b pos) (tOp r ta tb) := by
  intro pins s σ H Q I h
  exact Subscript_ (binT ha hb I h fun v u s2 x y H2 I2 rx ry q => hr a b pins s2 σ H2 x y v u Q I2 rx ry q (hs _ _))

def rIxL (K : PySem.W.Frag) : R2 := fun x y H Q => ∃ p xs i v, x = .ref p ∧ y = .int i ∧ SqL K H p xs ∧ atI xs i = some v ∧ Q v H
def rIxT (K : PySem.W.Frag) : R2 := fun x y H Q => ∃ p xs i v, x = .ref p ∧ y = .int i ∧ SqT K H p xs ∧ atI xs i = some v ∧ Q v H
theorem ix_list : IxR X (rIxL X.K) := by
  intro value slice pins s σ H x y v u Q I rx ry h hs
  obtain ⟨p, xs, i, z, rfl, rfl, hq, he, q⟩ := h
  cases rx
  obtain ⟨t, rfl⟩ := ry
  obtain ⟨its, r, pl, hz⟩ := I.list hq
  obtain ⟨j, h1, h2, h3, h4, h5⟩ := atI_get he
  obtain ⟨w, ew, rw'⟩ := r.get h2
  have hl := r.length
  have hn := line63
  have fin : EP X pins σ Q w s := ⟨z, H, I, rw', q⟩
  by_cases h0 : 0 ≤ i
  · have hj : i.toNat = j := by
      rw [seqIndex_of h0 h5] at h1
      exact Option.some.inj h1
    exact item_listR pl.isList h0 (by omega) (by rw [hj]; simpa using ew) fin hs
  · have hj : (i + (its.toArray.size : Int)).toNat = j := by
      rw [seqIndex_neg (by omega) h4] at h1
      rw [List.size_toArray, ← hl]
      exact Option.some.inj h1
    exact subscriptTail_builtinR (x := w) pl.isList.typeIs slot_list_getitem.lookup
      (wpAny_getItem_list_neg (Q := fun r s' => r = w ∧ EP X pins σ Q r s') pl.isList (by omega) (by rw [List.size_toArray] <;> omega) (by omega) (by rw [hj]; simpa using ew) ⟨rfl, fin⟩) hs
theorem ix_tup : IxR X (rIxT X.K) := by
  intro value slice pins s σ H x y v u Q I rx ry h hs
  obtain ⟨p, xs, i, z, rfl, rfl, hq, he, q⟩ := h
  cases rx
  obtain ⟨t, rfl⟩ := ry
  obtain ⟨its, r, pl, hz⟩ := I.tuple hq
  obtain ⟨j, h1, h2, h3, h4, h5⟩ := atI_get he
  obtain ⟨w, ew, rw'⟩ := r.get h2
  have hl := r.length
  have hn := line63
  have fin : EP X pins σ Q w s := ⟨z, H, I, rw', q⟩
  exact subscriptTail_builtinR (x := w) pl.typeIs slot_tuple_getitem.lookup
    (getItem_tuple (j := j) (Q := fun r s' => r = w ∧ EP X pins σ Q r s') pl (by omega) (by omega) (by rw [List.size_toArray, ← hl]; exact h1) (by simpa using ew) ⟨rfl, fin⟩) hs
/-! ### xs[i] = v, any sign -/
theorem Inv.lst {pins : List (Addr × Obj)} {σ : St} {H : Hp} {s : Shared} {p : Addr} {xs : List V} (I : Inv X pins σ H s) (h : H p = some (.lst xs)) :
    ∃ (its : List Value) (n : Nat), Vals xs its ∧ s.heap.get? p = some { cls := .type "list", data := .seq its.toArray n } ∧ xs.length ≤ sizeLine := by
  obtain ⟨z, its, n, r, e⟩ := I.hok p _ h
  exact ⟨its, n, r, e, z⟩
def rSetL : V → V → V → Hp → (Hp → Prop) → Prop := fun o i v H Q => ∃ p xs k j, o = .ref p ∧ i = .int k ∧ H p = some (.lst xs) ∧ ixN xs.length k = some j ∧ Q (upd H p (.lst (xs.set j v)))
/-! ### slices -/
/-- xs[lo:hi] of a list: a new list -/
def rSlL (K : PySem.W.Frag) : V → Option Int → Option Int → Hp → VK → Prop := fun x lo hi H Q => ∃ a xs, x = .ref a ∧ SqL K H a xs ∧ ∀ p, H p = none → Q (.ref p) (upd H p (.lst (cutV xs lo hi)))
/-! ### in, not in: flat items -/
def flatV : V → Bool
  | .non => true
  | .bl _ => true
  | .int _ => true
  | .str _ => true
  | _ => false
/-- == of flat values -/
def eqV : V → V → Bool
  | .non, .non => true
  | .bl a, .bl b => a == b
  | .bl a, .int b => (if a then 1 else 0) == b
  | .int a, .bl b => a == (if b then 1 else 0)
  | .int a, .int b => a == b
  | .str a, .str b => a == b
  | _, _ => false
theorem eqAt_V {A : Around} {s : Shared} {y x : V} {u v : Value} (ry : RelV y u) (rx : RelV x v) (fy : flatV y = true) (fx : flatV x = true) : SeqAt.EqAt A s u v (eqV y x) := by
  cases y with
  | non =>
    cases ry
    cases x with
    | non => cases rx; exact SeqAt.EqAt.same _
    | bl b => cases rx; exact SeqAt.EqAt.none_bool b
    | int b => obtain ⟨t, rfl⟩ := rx; exact SeqAt.EqAt.none_int b t
    | str b => obtain ⟨t, rfl⟩ := rx; exact SeqAt.EqAt.none_str b t
    | _ => exact absurd (show false = true from fx) Bool.false_ne_true
  | bl a =>
    cases ry
    cases x with
    | non => cases rx; exact SeqAt.EqAt.bool_none a
    | bl b => cases rx; exact SeqAt.EqAt.bool_bool a b
    | int b => obtain ⟨t, rfl⟩ := rx; exact SeqAt.EqAt.bool_int a b t
    | str b => obtain ⟨t, rfl⟩ := rx; exact SeqAt.EqAt.bool_str a b t
    | _ => exact absurd (show false = true from fx) Bool.false_ne_true
  | int a =>
    obtain ⟨t', rfl⟩ := ry
    cases x with
    | non => cases rx; exact SeqAt.EqAt.int_none a t'
    | bl b => cases rx; exact SeqAt.EqAt.int_bool a t' b
    | int b => obtain ⟨t, rfl⟩ := rx; exact SeqAt.EqAt.int_int a t' b t
    | str b => obtain ⟨t, rfl⟩ := rx; exact SeqAt.EqAt.int_str a t' b t
    | _ => exact absurd (show false = true from fx) Bool.false_ne_true
  | str a =>
    obtain ⟨t', rfl⟩ := ry
    cases x with
    | non => cases rx; exact SeqAt.EqAt.str_none a t'
    | bl b => cases rx; exact SeqAt.EqAt.str_bool a t' b
    | int b => obtain ⟨t, rfl⟩ := rx; exact SeqAt.EqAt.str_int a t' b t
    | str b => obtain ⟨t, rfl⟩ := rx; exact SeqAt.EqAt.str_str a t' b t
    | _ => exact absurd (show false = true from fx) Bool.false_ne_true
  | _ => exact absurd (show false = true from fy) Bool.false_ne_true
def inV (x : V) (xs : List V) : Bool := xs.any fun y => eqV y x
/-! ### len, list(x), tuple(x) of any list or tuple that is read -/
theorem call_len_seq : CallR X (.builtin "len") (fun xs H Q => ∃ p ys, xs = [.ref p] ∧ (SqL X.K H p ys ∨ SqT X.K H p ys) ∧ Q (.int ys.length) H) := by
  intro pins s σ H xs us Q I r h
  obtain ⟨p, ys, rfl, hq, q⟩ := h
  obtain ⟨u, rfl, rx⟩ := vals1 r
  cases rx
  have hn := line63
  rcases hq with hq | hq
  · obtain ⟨its, r', pl, hz⟩ := I.list hq
    have hlen := r'.length
    exact Calls.call_len_list pl.isList (by simp only [List.size_toArray] <;> omega) ⟨.int ys.length, H, I.tok _, ⟨s.toks + 1, by rw [List.size_toArray, hlen]⟩, q⟩
  · obtain ⟨its, r', pl, hz⟩ := I.tuple hq
    have hlen := r'.length
    exact len_tuple pl (by simp only [List.size_toArray] <;> omega) ⟨.int ys.length, H, I.tok _, ⟨s.toks + 1, by rw [List.size_toArray, hlen]⟩, q⟩
theorem call_tuple_of : CallR X (.type "tuple") (fun xs H Q => ∃ p ys, xs = [.ref p] ∧ ((SqL X.K H p ys ∧ ∀ l, H l = none → Q (.ref l) (upd H l (.tup ys))) ∨ (SqT X.K H p ys ∧ Q (.ref p) H))) := by
  intro pins s σ H xs us Q I r h
  obtain ⟨p, ys, rfl, h⟩ := h
  obtain ⟨u, rfl, rx⟩ := vals1 r
  cases rx
  rcases h with ⟨hq, q⟩ | ⟨hq, q⟩
  · obtain ⟨its, r', pl, hz⟩ := I.list hq
    have hlen := r'.length
    refine call_tuple_list pl.isList (fun h' kp => ?_) (by simp only [List.size_toArray] <;> omega)
    have I1 : Inv X pins σ H { s with heap := h' } := I.kept (t' := s.toks) kp
    have I2 : Inv X pins σ (upd H h'.objs.size (.tup ys)) { s with heap := h'.push { cls := .type "tuple", data := .seq its.toArray } } :=
      I1.laid (t' := s.toks) (fun b o e => Heap.get?_push_of_some _ e) (Nat.le_refl _) (show ObjOk X.prog X.w _ _ _ (.tup ys) from ⟨hz, its, r', IsTup.new _ _⟩)
    exact ⟨.ref h'.objs.size, _, I2, rfl, q _ (I1.hok.fresh (Nat.le_refl _))⟩
  · obtain ⟨its, r', pl, hz⟩ := I.tuple hq
    exact call_tuple_same pl ⟨.ref p, H, I, rfl, q⟩

/-! ### the call of a builtin's method: o.m(..) -/
/-- the value is of that builtin type -/
def tyV (K : PySem.W.Frag) (T : String) (x : V) (H : Hp) : Prop := match x with
  | .str _ => T = "str"
  | .int _ => T = "int"
  | .ref p => (T = "list" ∧ ∃ xs, SqL K H p xs) ∨ (T = "tuple" ∧ ∃ o, K.lookup p = some o ∧ o.cls = .type "tuple" ∧ o.dict = none) ∨
      (T = "dict" ∧ ((∃ kvs, H p = some (.dK kvs)) ∨ ∃ kvs, H p = some (.dT kvs))) ∨ (T = "set" ∧ ∃ S n, H p = some (.set S n))
  | _ => False
theorem tyV_is {pins : List (Addr × Obj)} {σ : St} {H : Hp} {s : Shared} {T : String} {x : V} {v : Value} (I : Inv X pins σ H s) (r : RelV x v) (ty : tyV X.K T x H) :
    s.TypeIs v T ∧ ∀ a, v = .ref a → ∃ ob, s.heap.get? a = some ob ∧ ob.dict = none := by
  cases x with
  | str z =>
    obtain ⟨t, rfl⟩ := r
    cases (show T = "str" from ty)
    exact ⟨typeIs_str s z t, fun _ e => nomatch e⟩
  | int i =>
    obtain ⟨t, rfl⟩ := r
    cases (show T = "int" from ty)
    exact ⟨typeIs_int s i t, fun _ e => nomatch e⟩
  | ref p =>
    cases r
    rcases ty with ⟨rfl, xs, hq⟩ | ⟨rfl, o, hk, hc, hd⟩ | ⟨rfl, hk⟩ | ⟨rfl, S, n, hk⟩
    · obtain ⟨its, _, pl, _⟩ := I.list hq
      refine ⟨pl.isList.typeIs, fun a e => ?_⟩
      cases e
      obtain ⟨o, n, e, c, hd, _⟩ := pl
      exact ⟨o, e, hd⟩
    · refine ⟨⟨o, I.kIn p o hk, hc⟩, fun a e => ?_⟩
      cases e
      exact ⟨o, I.kIn _ o hk, hd⟩
    · have z : ∃ o, s.heap.get? p = some o ∧ o.ExactDict := by
        rcases hk with ⟨kvs, hk⟩ | ⟨kvs, hk⟩
        · obtain ⟨_, _, _, _, o, _, _, e, ex, _⟩ := I.hok p _ hk
          exact ⟨o, e, ex⟩
        · obtain ⟨_, _, _, _, o, _, _, e, ex, _⟩ := I.hok p _ hk
          exact ⟨o, e, ex⟩
      obtain ⟨o, e, ex⟩ := z
      refine ⟨⟨o, e, ex.1⟩, fun a e2 => ?_⟩
      cases e2
      exact ⟨o, e, ex.2.1⟩
    · obtain ⟨o, _, _, _, e, ex, _⟩ := I.hok p _ hk
      refine ⟨⟨o, e, ex.1⟩, fun a e2 => ?_⟩
      cases e2
      exact ⟨o, e, ex.2.1⟩
  | _ => exact False.elim ty
def tBM0 (K : PySem.W.Frag) (T : String) (r : V → List V → Hp → VK → Prop) (to : TE) : TE := fun σ H Q => to σ H fun x H1 => tyV K T x H1 ∧ r x [] H1 Q
def tBM (K : PySem.W.Frag) (T : String) (r : V → List V → Hp → VK → Prop) (to : TE) (t : TA) : TE := fun σ H Q => to σ H fun x H1 => tyV K T x H1 ∧ t σ H1 fun xs H2 => r x xs H2 Q
variable {o e : Expr} {es : List Expr} {to : TE} {t : TA} {name : Str} {apos cpos : Pos} {T id : String} {r : V → List V → Hp → VK → Prop}
theorem pe_bm (pa : PlainAttrs T) (slot : Slot T name id) (hty : typeOf (.builtin id) = pure (.type "method_descriptor")) (hm : MtR X id r) (ho : PE X o to) (ha : PA X (e :: es) t)
    (hbase : attributeBase o name X.env (eval o X.env) = eval o X.env := by rfl)
    (hfew : ((backTo cpos (starEach (e :: es) X.env)).all (fun x => !x.1) && (backToKw cpos (keywordEach [] X.env)).all (fun x => x.1.isSome)
      && decide ((e :: es).length + ([] : List Keyword).length + (if ([] : List Keyword).isEmpty then 0 else 1) < 30)) = true := by rfl)
    (hline : (apos.endLine == cpos.line) = true := by rfl) (hs : starEach (e :: es) X.env = (false, eval e X.env) :: starEach es X.env := by rfl) (hplain : (backTo cpos (starEach es X.env)).any (·.1) = false := by rfl) :
    PE X (.Call (.Attribute o name apos) (e :: es) [] cpos) (tBM X.K T r to t) := by
  intro pins s σ H Q I h
  refine wpAny_Call_method_late hbase hfew hline rfl (thn (ho pins s σ H _ I h) fun v s1 ⟨x, H1, I1, r1, ty, q1⟩ => ?_)
  obtain ⟨h1, h2⟩ := tyV_is I1 r1 ty
  refine ⟨T, id, pa, slot, hty, h1, h2, ?_⟩
  have hA := ha cpos pins s1 σ H1 _ I1 q1
  rw [hs] at hA ⊢
  refine Calls.callWith_builtin (by show (false || (backTo cpos (starEach es X.env)).any (·.1)) = false; rw [hplain] <;> rfl) (Calls.evalArgs_plain ?_)
  exact thn hA fun us s2 ⟨vs, H2, I2, r2, q2⟩ => hm pins s2 σ H2 x vs v us Q I2 r1 r2 q2
/- xs.append(e), list.index on a module's tuple .. are MtR facts of 06m -/
end
end L2

namespace L2
open PySem PySem.Spec PyProof.Rows

def MtM (X : Cx) (id : String) (r : V → List V → Hp → VK → Prop) : Prop :=
  ∀ (pins : List (Addr × Obj)) (s : Shared) (σ : St) (H : Hp) (x : V) (xs : List V) (v : Value) (us : List Value) (Q : VK), Inv X pins σ H s → RelV x v → Vals xs us → r x xs H Q →
    wpAny (model X.prog X.w) X.A (call (.builtin id) (v :: us)) (EP X pins σ Q) X.xe s

/-! ### lists of values -/
theorem Vals.one : ∀ {x : V} {us : List Value}, Vals [x] us → ∃ u, us = [u] ∧ RelV x u
  | _, _, .cons r .nil => ⟨_, rfl, r⟩
theorem Vals.zero : ∀ {us : List Value}, Vals [] us → us = []
  | _, .nil => rfl
section
variable {X : Cx} {pins : List (Addr × Obj)} {σ : St} {H : Hp} {s : Shared} {l b : Addr} {xs ys zs : List V}

/-! ### the two steps: a tracked list is rewritten, a new list is laid -/
theorem Inv.lset {its its' : List Value} {n : Nat} {f : Array Value → Array Value} {t' : Nat} (I : Inv X pins σ H s) (hH : H l = some (.lst xs))
    (e : s.heap.get? l = some { cls := .type "list", data := .seq its.toArray n }) (hf : f its.toArray = its'.toArray) (hv : Vals ys its') (hz : ys.length ≤ sizeLine) :
    Inv X pins σ (upd H l (.lst ys)) { s with heap := s.heap.update l (Obj.mapSeq f), toks := t' } := by
  have q := PySem.IsL.update e f
  rw [hf] at q
  refine I.write (x := l) (e := l) (by rw [hH]; exact trivial) (.inl rfl) (fun b' u hb hu => (Heap.get?_update_other s.heap (Obj.mapSeq f) (Ne.symm hb)).trans hu) ⟨_, q⟩ ?_
  exact ⟨hz, its', _, hv, q⟩
theorem Inv.lnew {its : List Value} {t' : Nat} (I : Inv X pins σ H s) (hv : Vals ys its) (hz : ys.length ≤ sizeLine) :
    Inv X pins σ (upd H s.heap.objs.size (.lst ys)) { s with heap := s.heap.push { cls := .type "list", data := .seq its.toArray }, toks := t' } :=
  I.laid (fun _ _ q => Heap.get?_push_of_some _ q) (Nat.le_refl _) ⟨hz, its, 0, hv, Heap.get?_push_size _ rfl⟩
theorem Inv.fresh (I : Inv X pins σ H s) : H s.heap.objs.size = none := I.hok.fresh (Nat.le_refl _)
theorem Inv.lstM (I : Inv X pins σ H s) (hH : H l = some (.lst xs)) : xs.length ≤ sizeLine ∧ ∃ (its : List Value) (n : Nat), Vals xs its ∧ xs.length = its.length ∧ s.heap.get? l = some { cls := .type "list", data := .seq its.toArray n } := by
  obtain ⟨z, its, n, r, e⟩ := I.hok l _ hH
  exact ⟨z, its, n, r, r.length, e⟩

end

section
variable {X : Cx}

/-! ### methods -/
def rAppend : V → List V → Hp → VK → Prop := fun x vs H Q => ∃ l xs y, x = .ref l ∧ vs = [y] ∧ H l = some (.lst xs) ∧ xs.length < sizeLine ∧ Q .non (upd H l (.lst (xs ++ [y])))
theorem mt_append : MtM X "list.append" rAppend := by
  intro pins s σ H x vs v us Q I rx rv h
  obtain ⟨l, xs, y, rfl, rfl, hH, hz, q⟩ := h
  cases rx
  obtain ⟨u, rfl, ru⟩ := rv.one
  obtain ⟨z, its, n, r, hl, e⟩ := I.lstM hH
  refine call_meets F.slot_list_append ⟨_, e, rfl⟩ F.entry_list_append (F.args_list_append_2 _ _) (PySem.list_append l its.toArray n u (by rw [List.size_toArray]; omega)) ⟨e, ?_⟩
  refine ⟨.non, _, I.lset (its' := its ++ [u]) hH e (by simp) (r.append (.cons ru .nil)) ?_, rfl, q⟩
  rw [List.length_append, List.length_singleton]
  omega

/-! ### list + list, list += list, list * int -/
def rCat : R2 := fun x y H Q => ∃ l b xs zs, x = .ref l ∧ y = .ref b ∧ H l = some (.lst xs) ∧ H b = some (.lst zs) ∧ xs.length + zs.length ≤ sizeLine ∧ ∀ p, H p = none → Q (.ref p) (upd H p (.lst (xs ++ zs)))
theorem op_cat : OpR X (binaryOp .Add) rCat := by
  intro pins s σ H x y v u Q I rx ry h
  obtain ⟨l, b, xs, zs, rfl, rfl, hH, hB, hz, q⟩ := h
  cases rx
  cases ry
  obtain ⟨z, its, n, r, hl, e⟩ := I.lstM hH
  obtain ⟨z2, its2, n2, r2, hl2, e2⟩ := I.lstM hB
  refine PySem.P.add_list e e2 ?_ (by rw [List.size_toArray, List.size_toArray]; omega)
  have ea : its.toArray ++ its2.toArray = (its ++ its2).toArray := by simp
  rw [ea]
  exact ⟨.ref _, _, I.lnew (t' := s.toks) (r.append r2) (by rw [List.length_append]; omega), rfl, q _ I.fresh⟩
/-! ### del xs[i] -/
end

/-! ### xs[a:b] = ys -/
section
variable {prog : Program} {w : World} {A : Around} {E : Value → Shared → Prop} {s : Shared}
end

section
variable {X : Cx}
end
end L2

namespace Att
open PySem PySem.W PySem.Calls PyProof.Rows

/-! ### the script -/
theorem ints_of_wellAll {P : Params} {h : Heap} : ∀ (ns : List Int) (vs : List Value), WellAll P h vs (ns.map WData.int) → IntsAre vs ns := by
  intro ns
  induction ns with
  | nil =>
    intro vs w
    rw [List.map_nil] at w
    cases w
    exact .nil
  | cons n ns ih =>
    intro vs w
    rw [List.map_cons] at w
    cases w with
    | cons a b =>
      cases a
      exact .cons _ _ (ih _ b)

theorem script_of {l : OpenLaw} {n : Nat} (hn : l.most = some n) {P : Params} {h : Heap} {args : List WData} {vals : List Value}
    (hpre : l.row.toRowW.claim.pre args = true) (hwl : WellAll P h vals args) :
    ∃ a vs ns, vals = [Value.ref a] ∧ args = [WData.list (ns.map WData.int)] ∧ h.get? a = some { cls := .type "list", data := .seq vs.toArray } ∧ IntsAre vs ns ∧ ns.length ≤ n := by
  have hsh : WShape.hasAll [] args [.list .int] = true := (pre_splitW hpre).1
  have hc : l.pre.holds [] { args := args } = true := (pre_splitW hpre).2
  obtain ⟨d, r, rfl, h1, h2⟩ := hasAllW_cons hsh
  obtain rfl := hasAllW_nil h2
  obtain ⟨xs, rfl, h3⟩ := hasW_list h1
  obtain ⟨ns, rfl⟩ := items_int h3
  have hlen : ns.length ≤ n := by
    unfold OpenLaw.pre at hc
    have h4 : (WTm.not (.lt (.lit (.int (n : Int))) (.len (.arg 0)))).holds [] { args := [.list (ns.map .int)] } = true := by
      have h4 := (holds_andW hc).1
      rw [hn] at h4
      exact h4
    have h5 := condW_of h4 (w_not (w_lt w_lit (w_len_list (w_arg rfl))))
    rw [List.length_map] at h5
    refine Nat.le_of_not_lt fun q => ?_
    have q' : (n : Int) < ((ns.length : Nat) : Int) := by omega
    first
      | (rw [decide_eq_true q'] at h5; exact absurd h5 (by decide))
      | (simp at h5; omega)
  cases hwl with
  | cons w1 w2 =>
    cases w2
    cases w1 with
    | list ho hall => exact ⟨_, _, ns, rfl, rfl, ho, ints_of_wellAll ns _ hall, hlen⟩

theorem post_true (l : OpenLaw) (args : List WData) : l.row.toRowW.claim.post args (.bool true) args = true :=
  postW_of (r := l.row.toRowW) (X := (true == true))
    (show WShape.has [] (.bool true) .bool = true by first | rfl | decide | simp [WShape.has, WShape.arms, WShape.armsAll])
    (show (WTm.eq .res (.lit (.bool true))).value [] { args := args, res := some (.bool true), after := args } = some (.bool (true == true)) from w_eq_bool (w_res rfl) w_lit) rfl

/-! ### the attachment: holds_open's last premise (the goal 'hc' behind k_head) from a wpAny of the law's body -/
/-- the same from a codeAny of the CALL (for a layer whose function contracts speak of calls) -/
theorem attach_call {l : OpenLaw} {n : Nat} {q : Program} {loose : List Str} {XP : (Str → Option Value) → Heap → Prop} {YP : World → Heap → Prop} {d : DefRec}
    (hn : l.most = some n) (hdf : d.params.defaults = [])
    (call : ∀ (w : World) (s₀ s₁ : Shared) (mg mb : Str → Option Value) (fa : Addr) (o : Obj) (pm cd doc : Value) (a : Addr) (vs : List Value) (ns : List Int),
      Ground q loose [] XP w s₀ mg mb s₁.heap → YP w s₁.heap →
      s₁.heap.get? fa = some o → o.data = .func (docDef d.name d.params d.body d.scope pm cd doc) → s₁.heap.CodeRec cd d.name → mg d.name = some (.ref fa) →
      s₁.heap.get? a = some { cls := .type "list", data := .seq vs.toArray } → IntsAre vs ns → ns.length ≤ n → s₁.gens = #[] →
      codeAny (model l.prog w) callerA (.call (.ref fa) ⟨[.ref a], []⟩) (fun r s' => r = .ok (.ret (.bool true)) ∧ OldK s₁.heap s'.heap ∧ s'.os = s₁.os ∧ AllBare s'.gens) s₁) :
    WalkO q loose XP YP l.row.toRowW d [] (fun f vs => PySem.call f vs) := by
  intro w s₀ s₁ mg mb G Y fa o pm cd doc dV kV ho hd hcd hD hmg hg args vals as hpre hlay hrd hwl hlo
  obtain rfl : dV = .none := Dflts.none hD hdf
  obtain rfl : kV = .none := Dflts.noKw hD
  obtain ⟨a, vs, ns, rfl, rfl, hobj, hints, hlen⟩ := script_of hn hpre hwl
  refine enter_call (codeAny_mono (call w s₀ s₁ mg mb fa o pm cd doc a vs ns G Y ho (fd_plain hd) hcd hmg hobj hints hlen hg) fun r s' hq => ?_)
  obtain ⟨rfl, h2, h3, h4⟩ := hq
  exact ⟨.inl ⟨.bool true, .bool true, [], rfl, fun _ => rfl, .bool true, post_true l _, fun _ => ⟨List.Pairwise.nil, fun _ hm => (nomatch hm)⟩⟩, h2, h3, h4⟩

/-! ### rules over ANY heap (no ledger) from facts about the written part K: the library's own take a ledger (News) for what they write -/
section
variable {prog : Program} {w : World} {A : Around} {E : Value → Shared → Prop} {s : Shared} {K : Frag}

/-! the whole heap as the ledger: makes every rule that writes through a ledger a rule over any heap -/
end
end Att

namespace L2
open PySem PySem.Spec PyProof.Rows

theorem vals_ints : ∀ {vs : List Value} {ns : List Int}, IntsAre vs ns → Vals (ns.map V.int) vs
  | _, _, .nil => .nil
  | _, _, .cons n t h => .cons ⟨t, rfl⟩ (vals_ints h)

/-- nothing is tracked but the script, known to the object (or it is an object of the module) -/
def Only (H : Hp) : Prop := ∀ b, H b = none ∨ ∃ o xs, H b = some (.frz o (.lst xs))

/-- THE HEAD: the law's promise, at the heap behind the top. F, the promise of the law's def, may use that base is part of the heap (so K.In base, base.Ns mainGlobals mg stand in Mod) -/
theorem law_call {P : Program} {w : World} {K : PySem.W.Frag} {mg mb : Str → Option Value} {CX : CXT} {k : Nat} {fa a : Addr} {fd : FuncData} {x : Str} {sp : Sp} {s₁ : Shared} {vs : List Value} {ns : List Int}
    (KX : K.In s₁.heap) (hns : s₁.heap.Ns mainGlobals mg) (hb : s₁.heap.Ns builtinsNs mb) (hbb : ∀ x : Str, x ≠ "__name__" → mb x = bootBuiltins x) (hlim : s₁.heap.NoLimit) (hg : s₁.gens = #[])
    (ha : s₁.heap.get? a = some { cls := .type "list", data := .seq vs.toArray }) (hi : IntsAre vs ns) (hl : ns.length ≤ sizeLine) (hr : Room k callerA)
    (F : ∀ base : Heap, K.In base → base.Ns mainGlobals mg → FnOk P w K mg base CX k fa fd [x] sp) (hbind : ∀ (s : Shared) (u : Value), BindsTo s fd ⟨[u], []⟩ [(x, u)])
    (hsp : ∀ H : Hp, Only H → SqL K H a (ns.map V.int) → sp [.ref a] H (fun v _ => v = .bl true) fun _ _ _ => False)
    (hCX : ∀ H e s', CX [] H s₁ (fun _ _ _ => False) e s' → False) :
    codeAny (model P w) callerA (.call (.ref fa) ⟨[.ref a], []⟩) (fun r s' => r = .ok (.ret (.bool true)) ∧ OldK s₁.heap s'.heap ∧ s'.os = s₁.os ∧ AllBare s'.gens) s₁ := by
  have rv := vals_ints hi
  have lenV := hi.length
  -- from an abstract heap in which nothing but the script may be tracked
  have core : ∀ H : Hp, Only H → SqL K H a (ns.map V.int) → HOk P w H s₁.heap → (∀ b, H b ≠ none → b = a) → (H a ≠ none → K.lookup a = none) →
      codeAny (model P w) callerA (.call (.ref fa) ⟨[.ref a], []⟩) (fun r s' => r = .ok (.ret (.bool true)) ∧ OldK s₁.heap s'.heap ∧ s'.os = s₁.os ∧ AllBare s'.gens) s₁ := by
    intro H hO hS hok hA hK
    have base_of : ∀ {b : Addr} {o : Obj}, s₁.heap.get? b = some o → H b = none → (hidT s₁.heap H).get? b = some o := fun e n => hidT_get e n
    have noA : ∀ {b : Addr} {o : Obj} {es : Array DictEntry} {ep : Nat}, s₁.heap.get? b = some o → o.data = .dict es ep → H b = none := fun {b o es ep} e d => by
      cases q : H b with
      | none => rfl
      | some u =>
        have e' : b = a := hA b (by rw [q]; simp)
        subst e'
        rw [ha] at e; cases e
        have d' : Data.seq vs.toArray _ = Data.dict es ep := d
        cases d'
    have nsK : ∀ {b : Addr} {m : Str → Option Value}, s₁.heap.Ns b m → (hidT s₁.heap H).Ns b m := fun {b m} ⟨o, es, ep, e, d, r⟩ => ⟨o, es, ep, base_of e (noA e d), d, r⟩
    have hKb : K.In (hidT s₁.heap H) := fun b o e => base_of (KX b o e) (by
      cases q : H b with
      | none => rfl
      | some u =>
        have e' : b = a := hA b (by rw [q]; simp)
        subst e'
        rw [hK (by rw [q]; simp)] at e; cases e)
    have hM : Mod K mg (hidT s₁.heap H) := ⟨hKb, nsK hns, ⟨mb, nsK hb, hbb⟩, let ⟨mc, h1, h2⟩ := hlim; ⟨mc, nsK h1, h2⟩⟩
    have e0 : Env0 P w K mg (hidT s₁.heap H) callerA [] s₁ H := ⟨rfl, hM, fun b o e => of_hidT e, Nat.le_of_eq (hidT_size _ _), trivial, fun b hb => absurd (show b ∈ ([] : List Addr) from hb) (by simp), hok, .of_eq hg⟩
    refine codeAny_mono ((F _ hKb (nsK hns)).run callerA [] s₁ H ⟨[.ref a], []⟩ [.ref a] [.ref a] _ _ hr e0 (hbind s₁ (.ref a)) (.cons rfl .nil) (hsp H hO hS)) fun r s' h => ?_
    cases r with
    | error e => exact (hCX H e s' h).elim
    | ok fl =>
      cases fl with
      | next => exact False.elim h
      | brk => exact False.elim h
      | cont => exact False.elim h
      | ret u =>
        obtain ⟨v, H', os, bare, un, hok', r', q⟩ := h
        have q' : v = .bl true := q
        subst q'
        obtain rfl : u = Value.bool true := r'
        refine ⟨rfl, OldK.of_keep fun b o e => ?_, os, bare⟩
        cases q : H b with
        | none => exact un.keep b o e q (by intro z; exact absurd (show b ∈ ([] : List Addr) from z) (by simp)) (by simp)
        | some u =>
          rcases hO b with z | ⟨ob, xs, z⟩
          · rw [q] at z; cases z
          · have z2 := un.frzs b ob _ z
            obtain ⟨e1, _⟩ := hok b _ z
            obtain ⟨e2, _⟩ := hok' b _ z2
            rw [e] at e1; cases e1
            exact e2
  cases hk : K.lookup a with
  | some o =>
    -- the script is one of the module's own objects
    have e := KX a o hk
    rw [ha] at e
    cases e
    refine core (fun _ => none) (fun _ => .inl rfl) (.inr ⟨_, vs.toArray, _, hk, rfl, rfl, rfl, by rw [List.size_toArray, lenV]; exact hl, by simpa using rv⟩) (fun b u z => by have z' : (none : Option HO) = some u := z; cases z') (fun b z => absurd rfl z) fun z => absurd rfl z
  | none =>
    refine core (fun b => if b = a then some (.frz { cls := .type "list", data := .seq vs.toArray } (.lst (ns.map V.int))) else none) (fun b => ?_) (.inl (.inr ⟨{ cls := .type "list", data := .seq vs.toArray }, if_pos rfl⟩)) (fun b u z => ?_) (fun b z => ?_) fun _ => hk
    · by_cases hb : b = a
      · exact .inr ⟨_, _, if_pos hb⟩
      · exact .inl (if_neg hb)
    · by_cases hb : b = a
      · have z' := (if_pos hb).symm.trans z
        cases z'
        subst hb
        exact ⟨ha, by rw [List.length_map]; exact hl, vs, _, rv, ha⟩
      · have z' := (if_neg hb).symm.trans z
        cases z'
    · by_cases hb : b = a
      · exact hb
      · exact absurd (if_neg hb) z
end L2

namespace L2
open PySem PySem.Spec PyProof.Rows

/-- the goal that k_head leaves (case hc), from the law's promise. F gives the function object fd (K's own) once, then the promise over every base -/
theorem walk_of {l : PySem.W.OpenLaw} {n k : Nat} {q : Program} {loose : List Str} {XP : (Str → Option Value) → Heap → Prop} {YP : World → Heap → Prop} {d : DefRec} {K : Params → PySem.W.Frag} {CX : World → CXT} {sp : World → Sp} {x : Str}
    (hn : l.most = some n) (hn2 : n ≤ sizeLine) (hdf : d.params.defaults = []) (hr : Room k callerA)
    (hY : ∀ (w : World) (h : Heap), YP w h → (K w.params).In h)
    (F : ∀ (w : World) (mg : Str → Option Value) (fa : Addr) (h : Heap), (K w.params).In h → h.Ns mainGlobals mg → mg d.name = some (.ref fa) →
      ∃ fd : FuncData, (∀ (s : Shared) (u : Value), BindsTo s fd ⟨[u], []⟩ [(x, u)]) ∧
        ∀ base : Heap, (K w.params).In base → base.Ns mainGlobals mg → FnOk l.prog w (K w.params) mg base (CX w) k fa fd [x] (sp w))
    (hsp : ∀ (w : World) (H : Hp) (a : Addr) (ns : List Int), ns.length ≤ n → Only H → SqL (K w.params) H a (ns.map V.int) → sp w [.ref a] H (fun v _ => v = .bl true) fun _ _ _ => False)
    (hCX : ∀ (w : World) (H : Hp) (s : Shared) (e : Value) (s' : Shared), CX w [] H s (fun _ _ _ => False) e s' → False) :
    PySem.W.WalkO q loose XP YP l.row.toRowW d [] (fun f vs => PySem.call f vs) := by
  refine Att.attach_call hn hdf fun w s₀ s₁ mg mb fa o pm cd doc a vs ns G Y ho hd hcd hmg hobj hints hlen hg => ?_
  have KX := hY w _ Y
  obtain ⟨fd, hb, hF⟩ := F w mg fa _ KX G.T.g hmg
  exact law_call KX G.T.g G.T.b G.T.builtins G.T.nolimit hg hobj hints (Nat.le_trans hlen hn2) hr hF hb (fun H hO hS => hsp w H a ns hlen hO hS) fun H e s' => hCX w H s₁ e s'
end L2



/-! SHORT WORDS over the layer: a def of the text, its body, what a loop and a test want. -/
namespace L2
open PySem PySem.Spec PyProof.Rows

/-! ### the text by places -/
def defArgs (s : Stmt) : Arguments := match s with
  | .FunctionDef _ a _ _ _ _ _ _ _ _ => a
  | _ => { posonlyargs := [], args := [], vararg := none, kwonlyargs := [], kw_defaults := [], kwarg := none, defaults := [] }
def defBody (s : Stmt) : List Stmt := match s with
  | .FunctionDef _ _ b _ _ _ _ _ _ _ => b
  | _ => []
def defScope (s : Stmt) : Scope := match s with
  | .FunctionDef _ _ _ _ _ _ sc _ _ _ => sc
  | _ => { kind := .function, names := [], isGenerator := false, isCoroutine := false }

/-! ### no exception leaves a def -/
abbrev CX0 : CXT := fun _ _ _ _ _ _ => False
abbrev E0 : XK := fun _ _ _ => False
/-! ### a def (or method) of the text as it stands behind the top -/
structure Fun (K : PySem.W.Frag) (x qual : Str) (st : Stmt) (f : Addr) (fd : FuncData) : Prop where
  ex : ∃ (oc : Value) (od : Option Addr) (kV doc pm : Value) (an : Option Addr) (cdv ct : Value) (osl : Array (Option Value)),
    fd = PySem.W.fnOf x qual (defArgs st) (defBody st) (defScope st) .none kV doc pm an cdv ct ∧ K.lookup f = some ⟨oc, od, .func fd, osl⟩ ∧ PySem.W.codeIn K cdv qual = true
  kp : PySem.W.keepIn K (.ref f) = true
section
variable {P : Program} {w : World} {K : PySem.W.Frag} {mg : Str → Option Value} {base : Heap}
/-- THE RULE for a def: its body as a term of rules, and the reading of that term -/
theorem Fun.ok {x qual : Str} {st : Stmt} {f : Addr} {fd : FuncData} {N ps : List Str} {k : Nat} {sp : Sp} (F : Fun K x qual st f fd) (S : FnScope N ps (defScope st)) (len : ∀ vs H Q E, sp vs H Q E → vs.length = ps.length)
    (hbody : ∀ (cdv : Value) (A : Around) (outer : List Env) (s : Shared) (H : Hp) (vs : List V) (Q : VK) (E : XK), Room k (A.deeper (envOfC qual (defScope st) s.heap.objs.size f cdv)) → sp vs H Q E →
      ∃ t, PSs (cxOf CX0 P w K mg base N qual (defScope st) f cdv A outer s H E).nox (defBody st) t ∧ t { nx := fun _ H' => Q .non H', rt := Q } (start N vs) H) : FnOk P w K mg base CX0 (k + 1) f fd ps sp := by
  obtain ⟨oc, od, kV, doc, pm, an, cdv, ct, osl, rfl, lk, hcd⟩ := F.ex
  refine fn_of lk hcd S len fun A outer s H vs Q E hr hsp => ?_
  obtain ⟨t, h, q⟩ := hbody cdv A outer s H vs Q E hr hsp
  exact ⟨t, h.nox, q⟩
/-- how its arguments bind (no defaults): h is «fun _ _ _ _ _ _ us hl => match us, hl with | [_, _], _ => rfl», one _ a parameter -/
theorem Fun.binds {x qual : Str} {st : Stmt} {f : Addr} {fd : FuncData} {ps : List Str} (F : Fun K x qual st f fd)
    (h : ∀ (kV doc pm : Value) (an : Option Addr) (cdv ct : Value) (us : List Value), us.length = ps.length → bindArgs (PySem.W.fnOf x qual (defArgs st) (defBody st) (defScope st) .none kV doc pm an cdv ct) ⟨us, []⟩ = pure (ps.zip us)) : Binds K fd ps [] := by
  obtain ⟨oc, od, kV, doc, pm, an, cdv, ct, osl, rfl, lk, hcd⟩ := F.ex
  exact .all (h kV doc pm an cdv ct)
theorem fun_mk {x qual : Str} {st : Stmt} {f : Addr} {oc : Value} {od an : Option Addr} {osl : Array (Option Value)} {kV doc pm cdv ct : Value} (l : K.lookup f = some ⟨oc, od, .func (PySem.W.fnOf x qual (defArgs st) (defBody st) (defScope st) .none kV doc pm an cdv ct), osl⟩)
    (c : PySem.W.codeIn K cdv qual = true) (k : PySem.W.keepIn K (.ref f) = true) : Fun K x qual st f (PySem.W.fnOf x qual (defArgs st) (defBody st) (defScope st) .none kV doc pm an cdv ct) := ⟨⟨oc, od, kV, doc, pm, an, cdv, ct, osl, rfl, l, c⟩, k⟩
end
theorem small1000 {n : Nat} (h : n ≤ 1000) : n < sizeLine := Nat.lt_of_le_of_lt h (by decide)

/-! ### expressions in short: the name that stands in the i-th slot -/
section
variable {X : Cx}
theorem pv (i : Nat) {x : Str} {pos : Pos} (hN : X.N[i]? = some x := by rfl) (hv : Vis X.env.scope x := by first | exact Or.inl rfl | exact Or.inr (Or.inl rfl) | exact Or.inr (Or.inr rfl)) (hd : (x == ("__debug__" : Str)) = false := by decide)
    (hcd : (x == ("__classdict__" : Str)) = false := by decide) : PE X (.Name x pos) (tVar i) := pe_var hN hv hd hcd
end

/-! ### tests -/
theorem iteF {A B : Prop} (h : B) : if false = true then A else B := by
  rw [if_neg Bool.false_ne_true]
  exact h
theorem iteT {A B : Prop} (h : A) : if true = true then A else B := by
  rw [if_pos rfl]
  exact h
/-! ### heaps -/
/-- all that was tracked is as it was -/
def Same (H H' : Hp) : Prop := ∀ b o, H b = some o → H' b = some o
theorem Same.refl (H : Hp) : Same H H := fun _ _ h => h
theorem Same.trans {H H1 H2 : Hp} (a : Same H H1) (b : Same H1 H2) : Same H H2 := fun c o h => b c o (a c o h)
theorem Same.free {H H' : Hp} (e : Same H H') {l : Addr} (h : H' l = Option.none) : H l = Option.none := by
  cases q : H l with
  | none => rfl
  | some o =>
    rw [e l o q] at h
    cases h
theorem Same.seq {K : PySem.W.Frag} {H H' : Hp} {a : Addr} {xs : List V} (e : Same H H') (h : SqL K H a xs) : SqL K H' a xs := by
  rcases h with (h | ⟨o, h⟩) | h
  · exact .inl (.inl (e _ _ h))
  · exact .inl (.inr ⟨o, e _ _ h⟩)
  · exact .inr h

end L2

set_option Elab.async false
set_option linter.all false
set_option maxRecDepth 100000
set_option maxHeartbeats 4000000
namespace Stow
/-- a piece: its first cell, its cells, live -/
structure Pc where
  a : Int
  l : Int
  v : Bool
  deriving DecidableEq
def mkOf (l : Int) (v : Bool) : Int := l * 2 + (if v then 1 else 0)
def Pc.mk' (p : Pc) : Int := mkOf p.l p.v
/-- pieces end to end from s to e -/
def Chain : Int → List Pc → Int → Prop
  | s, [], e => s = e
  | s, p :: r, e => p.a = s ∧ 1 ≤ p.l ∧ (p.v = true → 3 ≤ p.l) ∧ Chain (s + p.l) r e
theorem Chain.le : ∀ {ps : List Pc} {s e : Int}, Chain s ps e → s + ps.length ≤ e
  | [], s, e, h => by have h : s = e := h; simp [h]
  | p :: r, s, e, h => by
    obtain ⟨_, h1, _, h2⟩ := h
    have := Chain.le h2
    simp only [List.length_cons]; omega
theorem Chain.app : ∀ {ps qs : List Pc} {s m e : Int}, Chain s ps m → Chain m qs e → Chain s (ps ++ qs) e
  | [], _, s, m, e, h, k => by have h : s = m := h; subst h; exact k
  | p :: r, qs, s, m, e, h, k => by
    obtain ⟨h0, h1, h2, h3⟩ := h
    exact ⟨h0, h1, h2, Chain.app h3 k⟩
theorem Chain.one {p : Pc} (h1 : 1 ≤ p.l) (h3 : p.v = true → 3 ≤ p.l) : Chain p.a [p] (p.a + p.l) := ⟨rfl, h1, h3, rfl⟩
theorem Chain.snoc {ps : List Pc} {s : Int} {p : Pc} (h : Chain s ps p.a) (h1 : 1 ≤ p.l) (h3 : p.v = true → 3 ≤ p.l) : Chain s (ps ++ [p]) (p.a + p.l) := h.app (.one h1 h3)
theorem Chain.mem : ∀ {ps : List Pc} {s e : Int}, Chain s ps e → ∀ p ∈ ps, s ≤ p.a ∧ 1 ≤ p.l ∧ (p.v = true → 3 ≤ p.l) ∧ p.a + p.l ≤ e
  | [], _, _, _, p, hp => by cases hp
  | q :: r, s, e, h, p, hp => by
    obtain ⟨h0, h1, h2, h3⟩ := h
    rcases List.mem_cons.mp hp with rfl | hp
    · have := h3.le
      exact ⟨by omega, h1, h2, by omega⟩
    · obtain ⟨a, b, c, d⟩ := Chain.mem h3 p hp
      exact ⟨by omega, b, c, d⟩
/-- the marks of the pieces stand in the cells -/
def Marks (cs : List Int) (ps : List Pc) : Prop := ∀ p ∈ ps, cs[p.a.toNat]? = some p.mk' ∧ cs[(p.a + p.l - 1).toNat]? = some p.mk'
theorem Marks.nil (cs : List Int) : Marks cs [] := fun p hp => by cases hp
/-- the cells of one more piece -/
theorem Marks.snoc {cs ext : List Int} {ps : List Pc} {p : Pc} (hc : Chain 0 ps p.a) (hl : (cs.length : Int) = p.a) (h1 : 1 ≤ p.l) (he : (ext.length : Int) = p.l) (m : Marks cs ps) :
    Marks ((((cs ++ ext).set p.a.toNat p.mk')).set (p.a + p.l - 1).toNat p.mk') (ps ++ [p]) := by
  intro q hq
  have h0 := hc.le
  rcases List.mem_append.mp hq with hq | hq
  · obtain ⟨a1, a2, a3, a4⟩ := hc.mem q hq
    obtain ⟨b1, b2⟩ := m q hq
    have key : ∀ k : Nat, (k : Int) < p.a → ∀ z, cs[k]? = some z → ((((cs ++ ext).set p.a.toNat p.mk')).set (p.a + p.l - 1).toNat p.mk')[k]? = some z := by
      intro k hk z hz
      rw [List.getElem?_set_ne (by omega), List.getElem?_set_ne (by omega), List.getElem?_append_left (by omega)]
      exact hz
    exact ⟨key _ (by omega) _ b1, key _ (by omega) _ b2⟩
  · have e : q = p := by simpa using hq
    subst e
    have len : (cs ++ ext).length = cs.length + ext.length := List.length_append
    constructor
    · by_cases h : (q.a + q.l - 1).toNat = q.a.toNat
      · rw [h, List.getElem?_set_self (by simp; omega)]
      · rw [List.getElem?_set_ne (by omega), List.getElem?_set_self (by simp; omega)]
    · rw [List.getElem?_set_self (by simp; omega)]
/-- the program's own look at a piece that may begin at a cell -/
def canBegin (ns : List Int) (k : Int) : Bool :=
  if ns.getD k.toNat 0 / 2 < 1 ∨ (ns.length : Int) < k + ns.getD k.toNat 0 / 2 then false else decide (3 ≤ ns.getD k.toNat 0 / 2) || !decide (ns.getD k.toNat 0 % 2 = 1)
def badOf (ns : List Int) (k : Int) : Option Int :=
  if canBegin ns k = true then (if ns.getD (k + ns.getD k.toNat 0 / 2 - 1).toNat 0 = ns.getD k.toNat 0 then none else some (k + ns.getD k.toNat 0 / 2 - 1)) else some k
end Stow

namespace Stow
theorem canBegin_iff (ns : List Int) (k : Int) : canBegin ns k = true ↔ (1 ≤ ns.getD k.toNat 0 / 2 ∧ k + ns.getD k.toNat 0 / 2 ≤ ns.length ∧ (ns.getD k.toNat 0 % 2 = 1 → 3 ≤ ns.getD k.toNat 0 / 2)) := by
  unfold canBegin
  by_cases h : ns.getD k.toNat 0 / 2 < 1 ∨ (ns.length : Int) < k + ns.getD k.toNat 0 / 2
  · rw [if_pos h]
    constructor
    · intro z; cases z
    · intro z; omega
  · rw [if_neg h]
    simp only [Bool.or_eq_true, decide_eq_true_eq, Bool.not_eq_true', decide_eq_false_iff_not]
    constructor
    · intro z
      refine ⟨by omega, by omega, fun w => ?_⟩
      rcases z with z | z
      · exact z
      · exact absurd w z
    · rintro ⟨_, _, z⟩
      by_cases w : ns.getD k.toNat 0 % 2 = 1
      · exact .inl (z w)
      · exact .inr w
/-- the piece that begins at k -/
def pcAt (ns : List Int) (k : Int) : Pc := ⟨k, ns.getD k.toNat 0 / 2, decide (ns.getD k.toNat 0 % 2 = 1)⟩
theorem bad_can {ns : List Int} {k : Int} (h : badOf ns k = none) : canBegin ns k = true := by
  unfold badOf at h
  split at h
  · assumption
  · cases h
theorem bad_pos {ns : List Int} {k : Int} (h : badOf ns k = none) : 1 ≤ ns.getD k.toNat 0 / 2 ∧ k + ns.getD k.toNat 0 / 2 ≤ ns.length ∧ (ns.getD k.toNat 0 % 2 = 1 → 3 ≤ ns.getD k.toNat 0 / 2) := (canBegin_iff ns k).mp (bad_can h)
/-- the walk from cell k: the pieces, the first cell that cannot be -/
def walkF (ns : List Int) (k : Int) : List Pc × Option Int :=
  if h : k < ns.length ∧ badOf ns k = none then
    (pcAt ns k :: (walkF ns (k + ns.getD k.toNat 0 / 2)).1, (walkF ns (k + ns.getD k.toNat 0 / 2)).2)
  else ([], if k < ns.length then badOf ns k else none)
termination_by (ns.length - k).toNat
decreasing_by
  all_goals
    have := bad_pos h.2
    omega
theorem walkF_end {ns : List Int} {k : Int} (h : ¬ k < ns.length) : walkF ns k = ([], none) := by
  rw [walkF, dif_neg (fun z => h z.1), if_neg h]
theorem walkF_step {ns : List Int} {k : Int} (h : k < ns.length) (hb : badOf ns k = none) : walkF ns k = (pcAt ns k :: (walkF ns (k + ns.getD k.toNat 0 / 2)).1, (walkF ns (k + ns.getD k.toNat 0 / 2)).2) := by
  rw [walkF, dif_pos ⟨h, hb⟩]
/-- the walk has come to k, the pieces ds lie behind it -/
def WPre (ns : List Int) (ds : List Pc) (k : Int) : Prop := walkF ns 0 = (ds ++ (walkF ns k).1, (walkF ns k).2)
theorem WPre.nil (ns : List Int) : WPre ns [] 0 := by unfold WPre; simp
theorem WPre.step {ns : List Int} {ds : List Pc} {k : Int} (w : WPre ns ds k) (h : k < ns.length) (hb : badOf ns k = none) : WPre ns (ds ++ [pcAt ns k]) (k + ns.getD k.toNat 0 / 2) := by
  unfold WPre at *
  rw [w, walkF_step h hb]
  simp
theorem WPre.fin {ns : List Int} {ds : List Pc} {k : Int} (w : WPre ns ds k) (h : ¬ k < ns.length) : walkF ns 0 = (ds, none) := by
  unfold WPre at w
  rw [w, walkF_end h]
  simp
end Stow
namespace Stow
end Stow
namespace Stow
end Stow

namespace Stow
open PySem L2 PyProof.Rows

/-! ### defs of the text, by their names -/
structure Def (P : Program) (w : World) (K : PySem.W.Frag) (mg : Str → Option Value) (base : Heap) (x : Str) (k : Nat) (ps : List Str) (sp : Sp) : Prop where
  ex : ∃ (f : Addr) (fd : FuncData), FnOk P w K mg base CX0 k f fd ps sp ∧ mg x = some (.ref f) ∧ PySem.W.keepIn K (.ref f) = true ∧ Binds K fd ps []
structure Src (K : PySem.W.Frag) (mg : Str → Option Value) (x : Str) (st : Stmt) : Prop where
  ex : ∃ (f : Addr) (fd : FuncData), Fun K x x st f fd ∧ mg x = some (.ref f)
theorem src_mk {K : PySem.W.Frag} {h : Heap} {mg : Str → Option Value} {x : Str} {st : Stmt} {f : Addr} {oc kV doc pm cdv ct : Value} {od an : Option Addr} {osl : Array (Option Value)} (X : K.In h) (G : h.Ns mainGlobals mg)
    (a : PySem.W.nsIn K mainGlobals x = some (some (.ref f))) (l : K.lookup f = some ⟨oc, od, .func (PySem.W.fnOf x x (defArgs st) (defBody st) (defScope st) .none kV doc pm an cdv ct), osl⟩)
    (c : PySem.W.codeIn K cdv x = true) (k : PySem.W.keepIn K (.ref f) = true) : Src K mg x st := ⟨f, _, fun_mk l c k, PySem.W.mg_of X G a⟩
section
variable {P : Program} {w : World} {K : PySem.W.Frag} {mg : Str → Option Value} {base : Heap}
theorem Src.ok {x : Str} {st : Stmt} {N ps : List Str} {k : Nat} {sp : Sp} (S : Src K mg x st) (sc : FnScope N ps (defScope st))
    (hb : ∀ (kV doc pm : Value) (an : Option Addr) (cdv ct : Value) (us : List Value), us.length = ps.length → bindArgs (PySem.W.fnOf x x (defArgs st) (defBody st) (defScope st) .none kV doc pm an cdv ct) ⟨us, []⟩ = pure (ps.zip us))
    (len : ∀ vs H Q E, sp vs H Q E → vs.length = ps.length)
    (hbody : ∀ (f : Addr) (cdv : Value) (A : Around) (outer : List Env) (s : Shared) (H : Hp) (vs : List V) (Q : VK) (E : XK), Room k (A.deeper (envOfC x (defScope st) s.heap.objs.size f cdv)) → sp vs H Q E →
      ∃ t, PSs (cxOf CX0 P w K mg base N x (defScope st) f cdv A outer s H E).nox (defBody st) t ∧ t { nx := fun _ H' => Q .non H', rt := Q } (start N vs) H) : Def P w K mg base x (k + 1) ps sp := by
  obtain ⟨f, fd, F, hm⟩ := S.ex
  exact ⟨f, fd, F.ok sc len (hbody f), hm, F.kp, F.binds hb⟩
end
section
variable {X : Cx}
theorem call_isi : CallR X (.builtin "isinstance") (fun xs H Q => ∃ x n t b, xs = [x, .ty n] ∧ TyOf X.K H x t ∧ PySem.W.kitOne X.K t (.type n) = some b ∧ Q (.bl b) H) := by
  intro pins s σ H xs us Q I r h
  obtain ⟨x, n, t, b, rfl, ty, e, q⟩ := h
  obtain ⟨u, u', rfl, rx, ry⟩ := vals2 r
  cases (show u' = Value.type n from ry)
  exact isinst_ok I rx ty e fun tk => ⟨.bl b, H, I.tok tk, rfl, q⟩
theorem eqV_self {x : V} (h : flatV x = true) : eqV x x = true := by
  cases x <;> first | rfl | (simp [eqV]; done) | (exact absurd h Bool.false_ne_true)
end

/-! ### heaps -/
theorem _root_.L2.Same.new {H : Hp} {p : Addr} {o : HO} (h : H p = none) : Same H (upd H p o) := fun b u e => by
  rw [upd_ne (ne_of_none e h)]
  exact e
theorem _root_.L2.Same.put {H H' : Hp} {p : Addr} {o : HO} (s : Same H H') (h : H p = none) : Same H (upd H' p o) := fun b u e => by
  rw [upd_ne (ne_of_none e h)]
  exact s b u e
theorem small4000 {n : Nat} (h : n ≤ 4000) : n < sizeLine := Nat.lt_of_le_of_lt h (by decide)
theorem atI_map (ns : List Int) (k : Int) (h0 : 0 ≤ k) (h : k < ns.length) : atI (ns.map V.int) k = some (.int (ns.getD k.toNat 0)) := by
  have e : (ns.map V.int)[k.toNat]? = some (.int (ns.getD k.toNat 0)) := by
    rw [List.getElem?_map, List.getD_eq_getElem?_getD, List.getElem?_eq_getElem (by omega)]
    rfl
  have := atI_nat e
  rwa [Int.toNat_of_nonneg h0] at this
/-! ### isinstance of the built-in kinds -/
section
variable {K : PySem.W.Frag}
theorem kit_ii : PySem.W.kitOne K (.type "int") (.type "int") = some true := by rfl
theorem kit_bb : PySem.W.kitOne K (.type "bool") (.type "bool") = some true := by rfl
theorem kit_ll : PySem.W.kitOne K (.type "list") (.type "list") = some true := by rfl
theorem kit_tt : PySem.W.kitOne K (.type "tuple") (.type "tuple") = some true := by rfl
theorem kit_ib : PySem.W.kitOne K (.type "int") (.type "bool") = some false := by
  show (if (Value.type "int" == Value.type "bool") = true then some true else PySem.W.kitCls K (.type "int") (.type "bool")) = some false
  rw [if_neg (by decide)]
  show (if PySem.W.kitMeta "bool" = true then PySem.W.subIn K (.type "int") (.type "bool") else none) = some false
  rw [if_pos (by decide +kernel)]
  show (fastBuiltinMro "int").map (·.contains (Value.type "bool")) = some false
  decide +kernel
end
end Stow

namespace Stow
open PySem
/-- what a look of a frame at an exception leaves: e has a new entry T, the frames' slots may have changed, all else stays -/
structure Noted (fr : List Addr) (e : Addr) (oe : Obj) (fl : Value) (h h' : Heap) : Prop where
  keep : ∀ b o, b ≠ e → b ∉ fr → h.get? b = some o → h'.get? b = some o
  slot : ∀ b o, b ≠ e → h.get? b = some o → ∃ sl, h'.get? b = some { o with slots := sl }
  ent : ∃ (T : Addr) (oT : Obj) (ts : Array Value), h.get? T = none ∧ T ≠ e ∧ h'.get? e = some (oe.mapFields (·.setIfInBounds 1 (.ref T))) ∧ h'.get? T = some oT ∧ oT.data = .fields ts ∧ ts[3]? = some fl
section
variable {M : Model} {A : Around} {E : Value → Shared → Prop} {s : Shared}
theorem mapF_dict (o : Obj) (f : Array Value → Array Value) : (o.mapFields f).dict = o.dict := by
  obtain ⟨c, d, dt, sl⟩ := o
  cases dt <;> rfl
end
/-- an exception at x of the class cls: its entry T, the entry's flight -/
def Exc (h : Heap) (x : Addr) (cls : Value) (od : Option Addr) (T : Addr) (fl : Value) : Prop :=
  ∃ (oe : Obj) (vs : Array Value) (oT : Obj) (ts : Array Value), T ≠ x ∧ h.get? x = some oe ∧ oe.cls = cls ∧ oe.dict = od ∧ oe.data = .fields vs ∧ vs[1]? = some (.ref T) ∧ h.get? T = some oT ∧ oT.data = .fields ts ∧ ts[3]? = some fl
/-- from h to h': of the frames at fr the slots may have changed, the objects at ex may have changed, all else stays -/
structure Upto (fr ex : List Addr) (h h' : Heap) : Prop where
  keep : ∀ b o, b ∉ ex → b ∉ fr → h.get? b = some o → h'.get? b = some o
  slot : ∀ b o, b ∉ ex → h.get? b = some o → ∃ sl, h'.get? b = some { o with slots := sl }
theorem Upto.trans {fr ex ex' : List Addr} {h1 h2 h3 : Heap} (a : Upto fr ex h1 h2) (b : Upto fr ex' h2 h3) : Upto fr (ex ++ ex') h1 h3 :=
  ⟨fun c o n1 n2 q => b.keep c o (fun z => n1 (List.mem_append_right _ z)) n2 (a.keep c o (fun z => n1 (List.mem_append_left _ z)) n2 q), fun c o n1 q => by
    obtain ⟨sl, q1⟩ := a.slot c o (fun z => n1 (List.mem_append_left _ z)) q
    obtain ⟨sl', q2⟩ := b.slot c _ (fun z => n1 (List.mem_append_right _ z)) q1
    exact ⟨sl', q2⟩⟩
theorem Upto.update {fr : List Addr} {h : Heap} {a : Addr} {f : Obj → Obj} : Upto fr [a] h (h.update a f) :=
  ⟨fun b o n _ q => by rw [Heap.get?_update_other _ _ (fun z => n (by simp [z]))]; exact q, fun b o n q => ⟨o.slots, by rw [Heap.get?_update_other _ _ (fun z => n (by simp [z]))]; exact q⟩⟩
section
variable {M : Model} {A : Around} {E : Value → Shared → Prop} {s : Shared}
theorem Noted.exc {fr : List Addr} {x : Addr} {oe : Obj} {vs : Array Value} {fl : Value} {h h' : Heap} (n : Noted fr x oe fl h h') (hd : oe.data = .fields vs) (hsz : 1 < vs.size) : ∃ T, h.get? T = none ∧ Exc h' x oe.cls oe.dict T fl := by
  obtain ⟨T, oT, ts, nT, ne, ex, eT, dT, h3⟩ := n.ent
  exact ⟨T, nT, _, _, oT, ts, ne, ex, Obj.cls_mapFields _ _, mapF_dict _ _, Obj.data_mapFields hd _, by simp [hsz], eT, dT, h3⟩
end
end Stow

namespace Stow
open PySem
open Sem (wp)
section
variable {M : Model} {A : Around} {E : Value → Shared → Prop}
variable {nm q nm0 q0 : Str} {C N C0 N0 : Addr} {bs bm bs0 bm0 : List Value} {hdct hdct0 : Bool} {sn sn0 : List Str} {sub sub0 : List Value} {ab ab0 : Bool} {col col0 : Option Bool} {dd dd0 : Option Addr} {k0 k1 k2 k3 k5 j0 j1 j2 j3 j5 : Option Value} {newId newId0 : String}
end
end Stow

namespace Stow
open PySem
open Sem (wp)
/-- a question that is answered by the heap alone -/
def Lk (M : Model) (h : Heap) {α : Type} (m : Sem α) (v : α) : Prop := ∀ (A : Around) (E : Value → Shared → Prop) (g : Array GenState) (d : Drawn) (t : Nat) (os : OsState) (Q : α → Shared → Prop), Q v ⟨h, g, d, t, os⟩ → wpAny M A m Q E ⟨h, g, d, t, os⟩
theorem Lk.at {M : Model} {h : Heap} {α : Type} {m : Sem α} {v : α} (l : Lk M h m v) {A : Around} {E : Value → Shared → Prop} {g : Array GenState} {d : Drawn} {t : Nat} {os : OsState} {Q : α → Shared → Prop} (q : Q v ⟨h, g, d, t, os⟩) : wpAny M A m Q E ⟨h, g, d, t, os⟩ := l A E g d t os Q q
section
variable {prog : Program} {w : World} {A : Around} {E : Value → Shared → Prop} {h : Heap} {g : Array GenState} {d : Drawn} {t : Nat} {os : OsState} {a C : Addr} {o : Obj}
/-- what the class of an exception answers -/
structure XLk (prog : Program) (w : World) (h : Heap) (C : Addr) : Prop where
  ga : Lk (model prog w) h (typeLookup (.ref C) "__getattribute__") (some (.builtin "BaseException.__getattribute__"))
  gat : Lk (model prog w) h (typeLookup (.ref C) "__getattr__") none
  cls : Lk (model prog w) h (typeLookup (.ref C) "__class__") (some (.builtin "object.__class__"))
  obj : Lk (model prog w) h (isSubtype (.ref C) (.type "object")) true
  exc : Lk (model prog w) h (isSubtype (.ref C) (.type "BaseException")) true
end
end Stow

namespace Stow
open PySem L2 PyProof.Rows

/-! ### exceptions of own classes that leave defs -/
section
variable {P : Program} {w : World} {H H' : Hp} {h h' g : Heap} {a : Addr} {o : HO}
end
/-- how an exception lies behind a call -/
def CXe (P : Program) (w : World) : CXT := fun outer H s E e s' => ∃ (x C T : Addr) (od : Option Addr) (H' : Hp), e = .ref x ∧ s'.os = s.os ∧ AllBare s'.gens ∧ Un (frs outer) [] H H' s.heap s'.heap ∧ HOk P w H' s'.heap ∧
  s.heap.get? x = none ∧ s.heap.get? T = none ∧ H' x = none ∧ H' T = none ∧ Exc s'.heap x (.ref C) od T .none ∧ E (.ref C) od H'
section
variable {P : Program} {w : World} {K : PySem.W.Frag} {mg : Str → Option Value} {base : Heap} {N : List Str} {qual : Str} {scope : Scope} {f : Addr} {cd : Value} {A : Around} {outer : List Env} {s₀ : Shared} {H₀ : Hp} {EX : XK}
end
end Stow

namespace Stow
open PySem L2 PyProof.Rows

/-! ### the classes of exceptions, as the written part tells them -/
/-- an own exception class without methods, right or not right under a built-in one -/
structure XCls (K : PySem.W.Frag) (mg : Str → Option Value) (x : Str) (C : Addr) : Prop where
  bound : mg x = some (.ref C)
  ex : ∃ (bmB : List Value) (B newId initId : String), PySem.W.excIn K C bmB newId = true ∧ ExcBaseFacts B newId initId bmB ∧ bmB.contains (.type "BaseException") = true
/-- raise C(e, ..) -/
def tRaise (C : Addr) (E : XK) (t : TA) : TS := fun _ σ H => t σ H fun xs H1 => xs.length ≤ sizeLine ∧ E (.ref C) none H1
section
variable {P : Program} {w : World} {K : PySem.W.Frag} {mg : Str → Option Value} {base : Heap} {N : List Str} {qual : Str} {scope : Scope} {f : Addr} {cd : Value} {A : Around} {outer : List Env} {s₀ : Shared} {H₀ : Hp} {EX : XK}
end

/-! ### try around one call -/
/-- an exception that is held: its class, its dict -/
def ExcO (x C : Addr) (od : Option Addr) : HO := .ext fun h => ∃ oe vs, h.get? x = some oe ∧ oe.cls = .ref C ∧ oe.dict = od ∧ oe.data = .fields vs
/-- the context of an except suite -/
abbrev Cx.suite (X : Cx) (x : Addr) : Cx := { X with A := X.A.mark (some (.ref x)), calm := false, xe := fun _ _ => False }
section
variable {X : Cx}
end
end Stow

namespace Stow
open PySem L2 PyProof.Rows
section
variable {X : Cx}
/-- an own exception class as the written part tells it, behind its own name bm -/
def ECls (K : PySem.W.Frag) (C : Addr) (bm : List Value) : Prop := ∃ (nm qn : Str) (N : Addr) (bs : List Value) (hd : Bool) (sn : List Str) (sub : List Value) (ab : Bool) (col : Option Bool) (dd : Option Addr) (k0 k1 k2 k3 k5 : Option Value) (newId : String),
  K.lookup C = some (excClassObj nm qn C N bs bm hd sn sub ab col dd k0 k1 k2 k3 k5 newId)
/-- an exception of the class at C fits the own class at C0 -/
def Fit (K : PySem.W.Frag) (C C0 : Addr) : Prop := ∃ (bm bm0 : List Value), ECls K C bm ∧ ECls K C0 bm0 ∧ (Value.ref C0 :: bm0).contains (.type "BaseException") = true ∧ (Value.ref C :: bm).contains (.ref C0) = true
/-- try: f(e, ..) / except C0: suite -/
def tTry (K : PySem.W.Frag) (C0 : Addr) (ta : TA) (sp : Sp) (ts : Addr → TS) : TS := fun D σ H => ta σ H fun vs H1 => sp (vs ++ []) H1 (fun _ H2 => D.nx σ H2) fun c od H2 => ∃ C, c = .ref C ∧ Fit K C C0 ∧ ∀ x, H2 x = none → ts x D σ (upd H2 x (ExcO x C od))
variable {k : Nat} {f C0 : Addr} {fd : FuncData} {ps : List Str} {sp : Sp} {fx cx : Str} {p cpos epos np hpos pos : Pos} {e : Expr} {es : List Expr} {ta : TA} {b0 : Stmt} {suite : List Stmt} {ts : Addr → TS}
/-- .. as n: the name's slot i -/
def tTryAs (K : PySem.W.Frag) (C0 : Addr) (i : Nat) (ta : TA) (sp : Sp) (ts : Addr → TS) : TS := fun D σ H => ta σ H fun vs H1 => sp (vs ++ []) H1 (fun _ H2 => D.nx σ H2) fun c od H2 => ∃ C, c = .ref C ∧ Fit K C C0 ∧
  ∀ x, H2 x = none → ts x { D with nx := fun σ' H' => D.nx (σ'.set i none) H', bk := fun σ' H' => D.bk (σ'.set i none) H', ct := fun σ' H' => D.ct (σ'.set i none) H' } (σ.set i (some (.ref x))) (upd H2 x (ExcO x C od))
end
end Stow

namespace Stow
open PySem L2 PyProof.Rows
/-! ### defs that may raise, by their names -/
structure Defx (P : Program) (w : World) (K : PySem.W.Frag) (mg : Str → Option Value) (base : Heap) (x : Str) (k : Nat) (ps : List Str) (sp : Sp) : Prop where
  ex : ∃ (f : Addr) (fd : FuncData), FnOk P w K mg base (CXe P w) k f fd ps sp ∧ mg x = some (.ref f) ∧ PySem.W.keepIn K (.ref f) = true ∧ Binds K fd ps []
section
variable {P : Program} {w : World} {K : PySem.W.Frag} {mg : Str → Option Value} {base : Heap}
theorem fun_okx {x qual : Str} {st : Stmt} {f : Addr} {fd : FuncData} {N ps : List Str} {k : Nat} {sp : Sp} (F : Fun K x qual st f fd) (S : FnScope N ps (defScope st)) (len : ∀ vs H Q E, sp vs H Q E → vs.length = ps.length)
    (hbody : ∀ (cdv : Value) (A : Around) (outer : List Env) (s : Shared) (H : Hp) (vs : List V) (Q : VK) (E : XK), Room k (A.deeper (envOfC qual (defScope st) s.heap.objs.size f cdv)) → sp vs H Q E →
      ∃ t, PSs (cxOf (CXe P w) P w K mg base N qual (defScope st) f cdv A outer s H E) (defBody st) t ∧ t { nx := fun _ H' => Q .non H', rt := Q } (start N vs) H) : FnOk P w K mg base (CXe P w) (k + 1) f fd ps sp := by
  obtain ⟨oc, od, kV, doc, pm, an, cdv, ct, osl, rfl, lk, hcd⟩ := F.ex
  exact fn_of lk hcd S len fun A outer s H vs Q E hr hsp => hbody cdv A outer s H vs Q E hr hsp
theorem Src.okx {x : Str} {st : Stmt} {N ps : List Str} {k : Nat} {sp : Sp} (S : Src K mg x st) (sc : FnScope N ps (defScope st))
    (hb : ∀ (kV doc pm : Value) (an : Option Addr) (cdv ct : Value) (us : List Value), us.length = ps.length → bindArgs (PySem.W.fnOf x x (defArgs st) (defBody st) (defScope st) .none kV doc pm an cdv ct) ⟨us, []⟩ = pure (ps.zip us))
    (len : ∀ vs H Q E, sp vs H Q E → vs.length = ps.length)
    (hbody : ∀ (f : Addr) (cdv : Value) (A : Around) (outer : List Env) (s : Shared) (H : Hp) (vs : List V) (Q : VK) (E : XK), Room k (A.deeper (envOfC x (defScope st) s.heap.objs.size f cdv)) → sp vs H Q E →
      ∃ t, PSs (cxOf (CXe P w) P w K mg base N x (defScope st) f cdv A outer s H E) (defBody st) t ∧ t { nx := fun _ H' => Q .non H', rt := Q } (start N vs) H) : Defx P w K mg base x (k + 1) ps sp := by
  obtain ⟨f, fd, F, hm⟩ := S.ex
  exact ⟨f, fd, fun_okx F sc len (hbody f), hm, F.kp, F.binds hb⟩
end
section
variable {X : Cx}
theorem pass_e0 : Passes (CXe X.prog X.w) X E0 := by
  rintro pins σ H s e s' I ⟨x, C, T, od, H', _, _, _, _, _, _, _, _, _, _, q⟩
  exact q.elim
/-- f(e, ..), that raises nothing there -/
theorem pe_defq {x : Str} {j k : Nat} {ps : List Str} {sp : Sp} {p pos : Pos} {e : Expr} {es : List Expr} {t : TA} (D : Defx X.prog X.w X.K X.mg X.base x j ps sp) (hr : Room k X.A) (hg : Gl X x) (ha : PA X (e :: es) t) (hk : j ≤ k := by decide)
    (hdb : (x == ("__debug__" : Str)) = false := by decide) (he : starEach (e :: es) X.env = (false, eval e X.env) :: starEach es X.env := by rfl) (hpl : (backTo pos (starEach es X.env)).any (·.1) = false := by rfl) :
    PE X (.Call (.Name x p) (e :: es) [] pos) (tCall sp [] E0 t) := by
  obtain ⟨f, fd, F, hm, kp, b⟩ := D.ex
  exact pe_call F (hr.mono hk) hg hm kp b .nil pass_e0 ha hdb he hpl
variable {j k : Nat} {C0 : Addr} {ps : List Str} {sp : Sp} {fx cx : Str} {p cpos epos np hpos pos : Pos} {e : Expr} {es : List Expr} {ta : TA} {b0 : Stmt} {suite : List Stmt} {ts : Addr → TS}
end
/-! ### isinstance of an exception that is held -/
theorem Lk.of {M : Model} {h : Heap} {α : Type} {m : Sem α} {v : α} (l : PySem.W.Looks M h m v) : Lk M h m v := fun A E g d t os Q q => l A Q E ⟨h, g, d, t, os⟩ (fun _ _ e => e) q
/-- what the written part tells of an exception's class -/
structure XK0 (K : PySem.W.Frag) (C : Addr) : Prop where
  ga : PySem.W.findIn K (.ref C) "__getattribute__" = some (some (.builtin "BaseException.__getattribute__"))
  gat : PySem.W.findIn K (.ref C) "__getattr__" = some none
  cls : PySem.W.findIn K (.ref C) "__class__" = some (some (.builtin "object.__class__"))
  obj : PySem.W.mroIn K C (.type "object") = some true
  exc : PySem.W.mroIn K C (.type "BaseException") = some true
theorem XK0.lk {prog : Program} {w : World} {K : PySem.W.Frag} {C : Addr} {h : Heap} (x : XK0 K C) (KX : K.In h) : XLk prog w h C :=
  ⟨.of (PySem.W.looks_findIn KX x.ga), .of (PySem.W.looks_findIn KX x.gat), .of (PySem.W.looks_findIn KX x.cls), .of (PySem.W.looks_mroIn KX x.obj), .of (PySem.W.looks_mroIn KX x.exc)⟩
def clsV : V → Value
  | .ty n => .type n
  | .ref a => .ref a
  | _ => .none
section
variable {X : Cx}
end
end Stow

namespace Stow
open PySem L2 PyProof.Rows
def excTail : List Value → Bool
  | .ref _ :: r => excTail r
  | l => l == [.type "ValueError", .type "Exception", .type "BaseException", .type "object"]
section
variable {prog : Program} {w : World} {A : Around} {K : PySem.W.Frag} {x C : Addr} {s : Shared}
end
end Stow
namespace Stow
open PySem
open Sem (wp)
section
variable {prog : Program} {w : World} {A : Around} {E : Value → Shared → Prop} {h : Heap} {g : Array GenState} {d : Drawn} {t : Nat} {os : OsState} {a C : Addr} {o : Obj} {name : Str} {v : Value}
end
end Stow

namespace Stow
open PySem L2 PyProof.Rows
/-! ### an exception with a field -/
/-- what the written part tells of a class whose objects take the field f -/
structure XSet (K : PySem.W.Frag) (C : Addr) (f : Str) : Prop where
  sa : PySem.W.findIn K (.ref C) "__setattr__" = some (some (.builtin "object.__setattr__"))
  cd : ∃ cd, PySem.W.clsIn K C = some cd ∧ excTail cd.mro = true ∧ cd.hasDict = true
  ob : PySem.W.mroIn K C (.type "object") = some true
  no : PySem.W.findIn K (.ref C) f = some none
/-- an exception that was made and not raised yet -/
def ExcN (x C : Addr) (od : Option Addr) : HO := .ext fun h => ∃ tt, h.get? x = some { cls := .ref C, dict := od, data := .fields #[.ref tt, .none, .none, .none, .bool false, .none] }
def tFldX (K : PySem.W.Frag) (ta : TE) (f : Str) : TE := fun σ H Q => ta σ H fun x H1 => ∃ a C dx fs v, x = .ref a ∧ H1 a = some (ExcO a C (some dx)) ∧ H1 dx = some (.xd fs) ∧ XK0 K C ∧ XSet K C f ∧ fs.lookup f = some v ∧ Q v H1
section
variable {X : Cx} {o e value : Expr} {f : Str} {pos pos' : Pos} {ta tv : TE}
end
end Stow

namespace Stow
open PySem
open Sem (wp)
section
variable {prog : Program} {w : World} {A : Around} {E : Value → Shared → Prop} {h : Heap} {g : Array GenState} {d : Drawn} {t : Nat} {os : OsState}
variable {nm q : Str} {C N : Addr} {bs bm bmB : List Value} {hdct : Bool} {sn : List Str} {sub : List Value} {ab : Bool} {col : Option Bool} {dd : Option Addr} {k0 k1 k2 k3 k5 : Option Value} {B newId initId : String}
end
end Stow

namespace Stow
open PySem L2 PyProof.Rows
/-! ### raise C(e), the class at C with an __init__ of its own -/
/-- what the written part tells of such a class, right under the own class at C0 -/
structure XIni (K : PySem.W.Frag) (mg : Str → Option Value) (x : Str) (C C0 fI : Addr) : Prop where
  bound : mg x = some (.ref C)
  lk : ∃ (nm qn : Str) (N : Addr) (bs : List Value) (hd : Bool) (sn : List Str) (sub : List Value) (ab : Bool) (col : Option Bool) (dd : Option Addr) (k0 k1 k2 k3 k5 : Option Value),
    K.lookup C = some (excClassObj nm qn C N bs (.ref C0 :: [.type "ValueError", .type "Exception", .type "BaseException", .type "object"]) hd sn sub ab col dd k0 k1 k2 k3 k5 "ValueError.__new__")
  base : PySem.W.excIn K C0 [.type "ValueError", .type "Exception", .type "BaseException", .type "object"] "ValueError.__new__" = true
  ini : PySem.W.findIn K (.ref C) "__init__" = some (some (.ref fI))
  keep : PySem.W.keepIn K (.ref C) = true
  fn : ∃ (c : Value) (dd : Option Addr) (da : Data) (sl : Array (Option Value)), K.lookup fI = some ⟨c, dd, da, sl⟩ ∧ c = .type "function"
/-- x is not tracked any more -/
def del (H : Hp) (x : Addr) : Hp := fun b => if b = x then none else H b
/-- raise C(e, ..) with the promise sp of its __init__ -/
def tRaiseI (C : Addr) (sp : Sp) (E : XK) (t : TA) : TS := fun _ σ H => t σ H fun vs H1 => vs.length ≤ 1000 ∧ ∀ y, H1 y = none → sp (.ref y :: vs) (upd H1 y (ExcN y C none)) (fun v H2 => v = .non ∧ ∃ z, V.ref y = V.ref z ∧ ∃ od, H2 z = some (ExcN z C od) ∧ E (.ref C) od (del H2 z)) E0
section
variable {P : Program} {w : World} {K : PySem.W.Frag} {mg : Str → Option Value} {base : Heap} {N : List Str} {qual : Str} {scope : Scope} {f : Addr} {cd : Value} {A : Around} {outer : List Env} {s₀ : Shared} {H₀ : Hp} {EX : XK}
end
end Stow

set_option Elab.async false
set_option linter.all false
set_option maxRecDepth 100000
set_option maxHeartbeats 4000000
namespace Stow
open PySem L2 PyProof.Rows
/-! ### raising classes with an __init__, by their names; readings of tries and raises -/
structure DefI (P : Program) (w : World) (K : PySem.W.Frag) (mg : Str → Option Value) (base : Heap) (x : Str) (C C0 : Addr) (j : Nat) (ps : List Str) (sp : Sp) : Prop where
  ex : ∃ (fI : Addr) (fd : FuncData), XIni K mg x C C0 fI ∧ FnOk P w K mg base (CXe P w) j fI fd ps sp ∧ Binds K fd ps []
section
variable {P : Program} {w : World} {K : PySem.W.Frag} {mg : Str → Option Value} {base : Heap} {N : List Str} {qual : Str} {scope : Scope} {f : Addr} {cd : Value} {A : Around} {outer : List Env} {s₀ : Shared} {H₀ : Hp} {EX : XK}
end
section
variable {K : PySem.W.Frag} {σ : L2.St} {H : Hp} {D : Ends}
theorem r_raise {C : Addr} {E : XK} {t : TA} (h : t σ H fun xs H1 => xs.length ≤ sizeLine ∧ E (.ref C) none H1) : tRaise C E t D σ H := h
theorem r_raiseI {C : Addr} {sp : Sp} {E : XK} {t : TA} (h : t σ H fun vs H1 => vs.length ≤ 1000 ∧ ∀ y, H1 y = none → sp (.ref y :: vs) (upd H1 y (ExcN y C none)) (fun v H2 => v = .non ∧ ∃ z, V.ref y = V.ref z ∧ ∃ od, H2 z = some (ExcN z C od) ∧ E (.ref C) od (del H2 z)) E0) :
    tRaiseI C sp E t D σ H := h
theorem r_tryAs {C0 : Addr} {i : Nat} {ta : TA} {sp : Sp} {ts : Addr → TS} (h : ta σ H fun vs H1 => sp vs H1 (fun _ H2 => D.nx σ H2) fun c od H2 => ∃ C, c = .ref C ∧ Fit K C C0 ∧
    ∀ x, H2 x = none → ts x { D with nx := fun σ' H' => D.nx (σ'.set i none) H', bk := fun σ' H' => D.bk (σ'.set i none) H', ct := fun σ' H' => D.ct (σ'.set i none) H' } (σ.set i (some (.ref x))) (upd H2 x (ExcO x C od))) : tTryAs K C0 i ta sp ts D σ H := by
  unfold tTryAs
  simp only [List.append_nil]
  exact h
theorem r_try {C0 : Addr} {ta : TA} {sp : Sp} {ts : Addr → TS} (h : ta σ H fun vs H1 => sp vs H1 (fun _ H2 => D.nx σ H2) fun c od H2 => ∃ C, c = .ref C ∧ Fit K C C0 ∧ ∀ x, H2 x = none → ts x D σ (upd H2 x (ExcO x C od))) : tTry K C0 ta sp ts D σ H := by
  unfold tTry
  simp only [List.append_nil]
  exact h
theorem r_fldX {f : Str} {ta : TE} {Q : VK} (h : ta σ H fun x H1 => ∃ a C dx fs v, x = .ref a ∧ H1 a = some (ExcO a C (some dx)) ∧ H1 dx = some (.xd fs) ∧ XK0 K C ∧ XSet K C f ∧ fs.lookup f = some v ∧ Q v H1) : tFldX K ta f σ H Q := h
theorem r_isiX {x C C' : Addr} {od : Option Addr} {b : Bool} {P : Bool → Prop} (h : H x = some (ExcO x C od)) (z : XK0 K C) (e : PySem.W.kitOne K (.ref C) (.ref C') = some b) (q : P b) :
    ∃ x' C0 od' v b', [V.ref x, V.ref C'] = [V.ref x', v] ∧ H x' = some (ExcO x' C0 od') ∧ XK0 K C0 ∧ clsV v ≠ .none ∧ PySem.W.kitOne K (.ref C0) (clsV v) = some b' ∧ P b' := ⟨x, C, od, .ref C', b, rfl, h, z, (fun z => nomatch z), e, q⟩
end
end Stow

namespace Stow
open PySem L2 PyProof.Rows
/-! ### exceptions that are made and not raised -/
def tMakeX (C : Addr) (t : TA) : TE := fun σ H Q => t σ H fun xs H1 => xs.length ≤ sizeLine ∧ ∀ y, H1 y = none → Q (.ref y) (upd H1 y (ExcN y C none))
def tMakeI (C : Addr) (sp : Sp) (t : TA) : TE := fun σ H Q => t σ H fun vs H1 => vs.length ≤ 1000 ∧ ∀ y, H1 y = none → sp (.ref y :: vs) (upd H1 y (ExcN y C none)) (fun v H2 => v = .non ∧ Q (.ref y) H2) E0
def tFldN (K : PySem.W.Frag) (ta : TE) (f : Str) : TE := fun σ H Q => ta σ H fun x H1 => ∃ a C dx fs v, x = .ref a ∧ H1 a = some (ExcN a C (some dx)) ∧ H1 dx = some (.xd fs) ∧ XK0 K C ∧ XSet K C f ∧ fs.lookup f = some v ∧ Q v H1
section
variable {X : Cx} {x : Str} {C : Addr} {p pos : Pos} {e : Expr} {es : List Expr} {t : TA}
end
section
variable {K : PySem.W.Frag} {σ : L2.St} {H : Hp} {Q : VK}
theorem r_makeX {C : Addr} {t : TA} (h : t σ H fun xs H1 => xs.length ≤ sizeLine ∧ ∀ y, H1 y = none → Q (.ref y) (upd H1 y (ExcN y C none))) : tMakeX C t σ H Q := h
theorem r_makeI {C : Addr} {sp : Sp} {t : TA} (h : t σ H fun vs H1 => vs.length ≤ 1000 ∧ ∀ y, H1 y = none → sp (.ref y :: vs) (upd H1 y (ExcN y C none)) (fun v H2 => v = .non ∧ Q (.ref y) H2) E0) : tMakeI C sp t σ H Q := h
theorem r_fldN {f : Str} {ta : TE} (h : ta σ H fun x H1 => ∃ a C dx fs v, x = .ref a ∧ H1 a = some (ExcN a C (some dx)) ∧ H1 dx = some (.xd fs) ∧ XK0 K C ∧ XSet K C f ∧ fs.lookup f = some v ∧ Q v H1) : tFldN K ta f σ H Q := h
theorem r_isiN {x C : Addr} {v : V} {od : Option Addr} {b : Bool} {P : Bool → Prop} (h : H x = some (ExcN x C od)) (z : XK0 K C) (n : clsV v ≠ .none) (e : PySem.W.kitOne K (.ref C) (clsV v) = some b) (q : P b) :
    ∃ x' C0 od' v' b', [V.ref x, v] = [V.ref x', v'] ∧ H x' = some (ExcN x' C0 od') ∧ XK0 K C0 ∧ clsV v' ≠ .none ∧ PySem.W.kitOne K (.ref C0) (clsV v') = some b' ∧ P b' := ⟨x, C, od, v, b, rfl, h, z, n, e, q⟩
end
end Stow
namespace Stow
open PySem L2 PyProof.Rows
/-! ### a text's slice -/
def rSlS : V → Option Int → Option Int → Hp → VK → Prop := fun x lo hi H Q => ∃ z, x = .str z ∧ z.length ≤ sizeLine ∧ ∀ y : Str, Q (.str y) H
theorem r_slS {z : Str} {lo hi : Option Int} {H : Hp} {Q : VK} (hz : z.length ≤ sizeLine) (q : ∀ y : Str, Q (.str y) H) : rSlS (.str z) lo hi H Q := ⟨z, rfl, hz, q⟩
end Stow

namespace Stow
open PySem L2 PyProof.Rows
/-! ### list comprehensions without free names -/
section
variable {X : Cx}
/-- the reading: D, the list that comes; W, the invariant by the turn, a measure, what D holds -/
def tComp (wi : TI) (tt : TT) (te : TE) : TE := fun σ H Q => wi σ H fun J H1 => ∀ D, H1 D = none → ∃ W : Nat → Nat → List V → Hp → Prop, (∃ m, W 0 m [] (upd H1 D (.lst []))) ∧ ∀ i m ys H2, W i m ys H2 →
  (J.stop i H2 ∧ Q (.ref D) H2) ∨ (J.go i H2 ∧ ∀ x H3, J.yld i H2 x H3 → tt [some x] H3 fun b H4 => if b = true then te [some x] H4 fun y H5 => H5 D = some (.lst ys) ∧ ys.length < sizeLine ∧ ∃ m', m' < m ∧ W (i + 1) m' (ys ++ [y]) (upd H5 D (.lst (ys ++ [y]))) else ∃ m', m' < m ∧ W (i + 1) m' ys H4)
/-- what the block's tests are -/
def PTs (X : Cx) (ifs : List Expr) (t : TT) : Prop := ∀ (pins : List (Addr × Obj)) (s : Shared) (σ : L2.St) (H : Hp) (Q : Bool → Hp → Prop), Inv X pins σ H s → t σ H Q →
  wpAny (model X.prog X.w) X.A (forIn ifs true fun c r => if r = true then do let ok ← isTrue c X.env (eval c X.env); pure (ForInStep.yield ok) else pure (ForInStep.yield r)) (TP X pins σ Q) X.xe s
theorem pts_nil : PTs X [] (fun _ H Q => Q true H) := fun pins s σ H Q I q => wpAny_tests_nil ⟨H, I, q⟩
theorem pts_one {c : Expr} {t : TT} (h : PT X c t) : PTs X [c] t := fun pins s σ H Q I q => wpAny_tests_one (h pins s σ H Q I q)
end
end Stow

namespace Stow
open PySem L2 PyProof.Rows
theorem op_neL {X : Cx} (hu : X.A.units + 64 < cLine) : OpR X (compareOp .NotEq) (fun x y H Q => ∃ (a b : Addr) (ns ms : List Int), x = .ref a ∧ y = .ref b ∧ SqL X.K H a (ns.map V.int) ∧ SqL X.K H b (ms.map V.int) ∧ Q (.bl (!decide (ns = ms))) H) := by
  intro pins s σ H x y v u Q I rx ry h
  obtain ⟨a, b, ns, ms, rfl, rfl, ha, hb, q⟩ := h
  cases rx
  cases ry
  obtain ⟨its, r1, p1, _⟩ := I.list ha
  obtain ⟨its2, r2, p2, _⟩ := I.list hb
  exact PySem.W.ke_ne_ints p1.isList p2.isList (intsAre_of r1) (intsAre_of r2) hu ⟨.bl _, H, I, rfl, q⟩
/-! ### the readings, step by step -/
section
variable {K : PySem.W.Frag} {σ : L2.St} {H : Hp} {Q : VK} {D : Ends}
theorem r_next (h : D.nx σ H) : tNext D σ H := h
theorem r_seq {t u : TS} (h : t { D with nx := u D } σ H) : tSeq t u D σ H := h
theorem r_nx {f : L2.St → Hp → Prop} {r : VK} {b c : L2.St → Hp → Prop} (h : f σ H) : Ends.nx ⟨f, r, b, c⟩ σ H := h
theorem r_bk {f : L2.St → Hp → Prop} {r : VK} {b c : L2.St → Hp → Prop} (h : b σ H) : Ends.bk ⟨f, r, b, c⟩ σ H := h
theorem r_ct {f : L2.St → Hp → Prop} {r : VK} {b c : L2.St → Hp → Prop} (h : c σ H) : Ends.ct ⟨f, r, b, c⟩ σ H := h
theorem r_rt {f : L2.St → Hp → Prop} {r : VK} {b c : L2.St → Hp → Prop} {v : V} (h : r v H) : Ends.rt ⟨f, r, b, c⟩ v H := h
theorem r_break (h : D.bk σ H) : tBreak D σ H := h
theorem r_cont (h : D.ct σ H) : tCont D σ H := h
theorem r_drop {te : TE} (h : te σ H fun _ H1 => D.nx σ H1) : tDrop te D σ H := h
theorem r_ret {te : TE} (h : te σ H D.rt) : tRet te D σ H := h
theorem r_retN (h : D.rt .non H) : tRetN D σ H := h
theorem r_ifS {c : TT} {t u : TS} (h : c σ H fun b H1 => if b = true then t D σ H1 else u D σ H1) : tIfS c t u D σ H := h
theorem r_asg {te : TE} {g : TG} (h : te σ H fun x H1 => g x σ H1 D.nx) : tAsg te g D σ H := h
theorem r_gname {i : Nat} {v : V} {R : L2.St → Hp → Prop} (h : R (σ.set i (some v)) H) : gName i v σ H R := h
theorem r_gsub {to ti : TE} {t : TSet} {v : V} {R : L2.St → Hp → Prop} (h : to σ H fun o H1 => ti σ H1 fun i H2 => t o i v H2 fun H3 => R σ H3) : gSub to ti t v σ H R := h
theorem r_var {i : Nat} {v : V} (e : σ[i]? = some (some v)) (h : Q v H) : tVar i σ H Q := ⟨v, e, h⟩
theorem r_c {v : V} (h : Q v H) : tC v σ H Q := h
theorem r_op {r : R2} {ta tb : TE} (h : ta σ H fun x H1 => tb σ H1 fun y H2 => r x y H2 Q) : tOp r ta tb σ H Q := h
theorem r_un {r : V → Hp → VK → Prop} {ta : TE} (h : ta σ H fun x H1 => r x H1 Q) : tUn r ta σ H Q := h
theorem r_rI0 {g : Int → Int → V} {i j : Int} (h : Q (g i j) H) : rI0 g (.int i) (.int j) H Q := ⟨i, j, rfl, rfl, h⟩
theorem r_rI {C : Int → Int → Prop} {g : Int → Int → V} {i j : Int} (c : C i j) (h : Q (g i j) H) : rI C g (.int i) (.int j) H Q := ⟨i, j, rfl, rfl, c, h⟩
theorem r_rU {g : Int → V} {i : Int} (h : Q (g i) H) : rU g (.int i) H Q := ⟨i, rfl, h⟩
theorem decV {i j : Int} : decide (V.int i = V.int j) = decide (i = j) := by rw [dec_int]; exact Bool.beq_eq_decide_eq i j
theorem decB {i j : Bool} : decide (V.bl i = V.bl j) = decide (i = j) := by rw [dec_bl]; exact Bool.beq_eq_decide_eq i j
theorem r_eqI {i j : Int} (h : Q (.bl (decide (i = j))) H) : rEq (.int i) (.int j) H Q := ⟨rfl, by rw [decV]; exact h⟩
theorem r_neI {i j : Int} (h : Q (.bl (!decide (i = j))) H) : rNe (.int i) (.int j) H Q := ⟨rfl, by rw [decV]; exact h⟩
theorem r_eqB {i j : Bool} (h : Q (.bl (decide (i = j))) H) : rEq (.bl i) (.bl j) H Q := ⟨rfl, by rw [decB]; exact h⟩
theorem r_neB {i j : Bool} (h : Q (.bl (!decide (i = j))) H) : rNe (.bl i) (.bl j) H Q := ⟨rfl, by rw [decB]; exact h⟩
theorem r_isN {P : Prop} (h : P) : V.non = V.non ∧ P := ⟨rfl, h⟩
theorem r_bl {b : Bool} {P : Bool → Prop} (h : P b) : ∃ k, V.bl b = V.bl k ∧ P k := ⟨b, rfl, h⟩
theorem r_int {i : Int} {P : Int → Prop} (h : P i) : ∃ k, V.int i = V.int k ∧ P k := ⟨i, rfl, h⟩
theorem r_test {t : TE} {R : Bool → Hp → Prop} (h : t σ H fun x H' => ∃ k, x = .bl k ∧ R k H') : tTest t σ H R := h
theorem r_tB {t : TE} {R : Bool → Hp → Prop} (h : t σ H fun x H' => ∃ k, x = .bl k ∧ R k H') : tB t σ H R := h
theorem r_and {t u : TT} {R : Bool → Hp → Prop} (h : t σ H fun c H1 => if c = true then u σ H1 R else R false H1) : tAnd t u σ H R := h
theorem r_or {t u : TT} {R : Bool → Hp → Prop} (h : t σ H fun c H1 => if c = true then R true H1 else u σ H1 R) : tOr t u σ H R := h
theorem r_not {t : TT} {R : Bool → Hp → Prop} (h : t σ H fun c H1 => R (!c) H1) : tNot t σ H R := h
theorem r_andV {ta tb : TE} (h : ta σ H fun x H1 => ∃ c, x = .bl c ∧ if c = true then tb σ H1 Q else Q (.bl false) H1) : tAndV ta tb σ H Q := h
theorem r_orV {ta tb : TE} (h : ta σ H fun x H1 => ∃ c, x = .bl c ∧ if c = true then Q (.bl true) H1 else tb σ H1 Q) : tOrV ta tb σ H Q := h
theorem r_notV {ta : TE} (h : ta σ H fun x H1 => ∃ c, x = .bl c ∧ Q (.bl (!c)) H1) : tNotV ta σ H Q := h
theorem r_ifE {t : TT} {ta tb : TE} (h : t σ H fun c H1 => if c = true then ta σ H1 Q else tb σ H1 Q) : tIf t ta tb σ H Q := h
theorem r_cons {ta : TE} {tr : TA} {R : List V → Hp → Prop} (h : ta σ H fun x H1 => tr σ H1 fun xs H2 => R (x :: xs) H2) : tCons ta tr σ H R := h
theorem r_nil {R : List V → Hp → Prop} (h : R [] H) : tNil σ H R := h
theorem r_tup {t : TA} (h : t σ H fun xs H1 => xs.length ≤ sizeLine ∧ ∀ p, H1 p = none → Q (.ref p) (upd H1 p (.tup xs))) : tTup t σ H Q := h
theorem r_lst {t : TA} (h : t σ H fun xs H1 => xs.length ≤ sizeLine ∧ ∀ p, H1 p = none → Q (.ref p) (upd H1 p (.lst xs))) : tLst t σ H Q := h
theorem r_call {sp : Sp} {E : XK} {t : TA} (h : t σ H fun vs H1 => sp vs H1 Q E) : tCall sp [] E t σ H Q := by
  have e : (fun (vs : List V) H1 => sp (vs ++ []) H1 Q E) = fun vs H1 => sp vs H1 Q E := by funext vs H1; rw [List.append_nil]
  show t σ H fun vs H1 => sp (vs ++ []) H1 Q E
  rw [e]
  exact h
theorem r_cb {r : List V → Hp → VK → Prop} {t : TA} (h : t σ H fun vs H1 => r vs H1 Q) : tCB r t σ H Q := h
theorem r_sl {r : V → Option Int → Option Int → Hp → VK → Prop} {te : TE} {tl th : TO} (h : te σ H fun x H1 => tl σ H1 fun l H2 => th σ H2 fun u H3 => r x l u H3 Q) : tSl r te tl th σ H Q := h
theorem r_nopart {R : Option Int → Hp → Prop} (h : R none H) : tNoPart σ H R := h
theorem r_part {t : TE} {R : Option Int → Hp → Prop} (h : t σ H fun x H1 => ∃ i, x = .int i ∧ R (some i) H1) : tPart t σ H R := h
theorem r_bm {T : String} {r : V → List V → Hp → VK → Prop} {to : TE} {t : TA} (h : to σ H fun x H1 => tyV K T x H1 ∧ t σ H1 fun xs H2 => r x xs H2 Q) : tBM K T r to t σ H Q := h
theorem r_bm0 {T : String} {r : V → List V → Hp → VK → Prop} {to : TE} (h : to σ H fun x H1 => tyV K T x H1 ∧ r x [] H1 Q) : tBM0 K T r to σ H Q := h
theorem r_tyL {p : Addr} {xs : List V} {P : Prop} (h : H p = some (.lst xs)) (q : P) : tyV K "list" (.ref p) H ∧ P := ⟨.inl ⟨rfl, xs, SqL.of h⟩, q⟩
theorem r_append {l : Addr} {xs : List V} {y : V} (h : H l = some (.lst xs)) (hz : xs.length < sizeLine) (q : Q .non (upd H l (.lst (xs ++ [y])))) : rAppend (.ref l) [y] H Q := ⟨l, xs, y, rfl, rfl, h, hz, q⟩
theorem r_appendI {l : Addr} {ns : List Int} {y : Int} (h : H l = some (.lst (ns.map V.int))) (hz : ns.length < sizeLine) (q : Q .non (upd H l (.lst ((ns ++ [y]).map V.int)))) : rAppend (.ref l) [.int y] H Q := by
  rw [List.map_append] at q
  exact ⟨l, _, .int y, rfl, rfl, h, by rw [List.length_map]; exact hz, q⟩
theorem r_cat {l b : Addr} {xs zs : List V} (h : H l = some (.lst xs)) (h2 : H b = some (.lst zs)) (hz : xs.length + zs.length ≤ sizeLine) (q : ∀ p, H p = none → Q (.ref p) (upd H p (.lst (xs ++ zs)))) : rCat (.ref l) (.ref b) H Q := ⟨l, b, xs, zs, rfl, rfl, h, h2, hz, q⟩
theorem r_ixT {p : Addr} {xs : List V} {i : Int} {v : V} (h : H p = some (.tup xs)) (e : atI xs i = some v) (q : Q v H) : rIxT K (.ref p) (.int i) H Q := ⟨p, xs, i, v, rfl, rfl, SqT.of h, e, q⟩
theorem r_ixI {p : Addr} {ns : List Int} {k : Int} (h : SqL K H p (ns.map V.int)) (h0 : 0 ≤ k) (h1 : k < ns.length) (q : Q (.int (ns.getD k.toNat 0)) H) : rIxL K (.ref p) (.int k) H Q := ⟨p, _, k, _, rfl, rfl, h, atI_map ns k h0 h1, q⟩
theorem ixN_at {n : Nat} {k : Int} (h0 : 0 ≤ k) (h : k < n) : ixN n k = some k.toNat := by
  unfold ixN
  rw [if_pos h0, if_pos h]
theorem r_setI {p : Addr} {ns : List Int} {k x : Int} {R : Hp → Prop} (h : H p = some (.lst (ns.map V.int))) (h0 : 0 ≤ k) (h1 : k < ns.length) (q : R (upd H p (.lst ((ns.set k.toNat x).map V.int)))) : rSetL (.ref p) (.int k) (.int x) H R := by
  refine ⟨p, _, k, k.toNat, rfl, rfl, h, ixN_at h0 (by rw [List.length_map]; exact h1), ?_⟩
  rw [List.map_set] at q
  exact q
theorem r_sll {a : Addr} {xs : List V} {lo hi : Option Int} (h : SqL K H a xs) (q : ∀ p, H p = none → Q (.ref p) (upd H p (.lst (cutV xs lo hi)))) : rSlL K (.ref a) lo hi H Q := ⟨a, xs, rfl, h, q⟩
theorem r_lenI {p : Addr} {ns : List Int} {P : List V → Prop} (h : SqL K H p (ns.map V.int)) (q : P (ns.map V.int)) : ∃ p' ys, [V.ref p] = [V.ref p'] ∧ (SqL K H p' ys ∨ SqT K H p' ys) ∧ P ys := ⟨p, _, rfl, .inl h, q⟩
theorem r_lenL {p : Addr} {xs : List V} {P : List V → Prop} (h : H p = some (.lst xs)) (q : P xs) : ∃ p' ys, [V.ref p] = [V.ref p'] ∧ (SqL K H p' ys ∨ SqT K H p' ys) ∧ P ys := ⟨p, _, rfl, .inl (SqL.of h), q⟩
theorem r_lenT {p : Addr} {xs : List V} {P : List V → Prop} (h : H p = some (.tup xs)) (q : P xs) : ∃ p' ys, [V.ref p] = [V.ref p'] ∧ (SqL K H p' ys ∨ SqT K H p' ys) ∧ P ys := ⟨p, _, rfl, .inr (SqT.of h), q⟩
theorem r_listI {p : Addr} {xs : List V} {P : List V → Prop} (h : SqL K H p xs) (q : P xs) : ∃ p' ys, [V.ref p] = [V.ref p'] ∧ (SqL K H p' ys ∨ SqT K H p' ys) ∧ P ys := ⟨p, xs, rfl, .inl h, q⟩
theorem r_isi {x : V} {n : String} {t : Value} {b : Bool} {P : Bool → Prop} (ty : TyOf K H x t) (e : PySem.W.kitOne K t (.type n) = some b) (q : P b) : ∃ x' n' t' b', [x, V.ty n] = [x', V.ty n'] ∧ TyOf K H x' t' ∧ PySem.W.kitOne K t' (.type n') = some b' ∧ P b' := ⟨x, n, t, b, rfl, ty, e, q⟩
theorem r_intB {k : Bool} {P1 : Int → Prop} {P2 : Bool → Prop} (q : P2 k) : (∃ i, [V.bl k] = [V.int i] ∧ P1 i) ∨ ∃ k', [V.bl k] = [V.bl k'] ∧ P2 k' := .inr ⟨k, rfl, q⟩
theorem r_intI {k : Int} {P1 : Int → Prop} {P2 : Bool → Prop} (q : P1 k) : (∃ i, [V.int k] = [V.int i] ∧ P1 i) ∨ ∃ k', [V.int k] = [V.bl k'] ∧ P2 k' := .inl ⟨k, rfl, q⟩
theorem r_max {i j : Int} {P : Int → Int → Prop} (q : P i j) : ∃ i' j', [V.int i, V.int j] = [V.int i', V.int j'] ∧ P i' j' := ⟨i, j, rfl, q⟩
theorem r_new {xs : List V} {P : Prop} (h : xs.length ≤ 1000) (q : P) : xs.length ≤ sizeLine ∧ P := ⟨Nat.le_of_lt (small1000 h), q⟩
theorem r_truB {b : Bool} {P : Bool → Prop} (q : P b) : ∃ k, TruV K (.bl b) H k ∧ P k := ⟨b, rfl, q⟩
theorem r_truL {p : Addr} {xs : List V} {P : Bool → Prop} (h : SqL K H p xs) (q : P (!xs.isEmpty)) : ∃ k, TruV K (.ref p) H k ∧ P k := ⟨_, .inl ⟨xs, h, rfl⟩, q⟩
theorem r_for {wi : TI} {g : TG} {tb : TS} (h : wi σ H fun J H1 => ∃ W : Nat → Nat → L2.St → Hp → Prop, (∃ m, W 0 m σ H1) ∧ ∀ i m σ H, W i m σ H →
    (J.stop i H ∧ D.nx σ H) ∨ (J.go i H ∧ ∃ N : L2.St → Hp → Prop, (∀ σ' H', N σ' H' → ∃ m', m' < m ∧ W (i + 1) m' σ' H') ∧ ∀ x H', J.yld i H x H' → g x σ H' fun σ2 H2 => tb { D with nx := N, ct := N, bk := D.nx } σ2 H2)) : tFor wi g tb D σ H := h
theorem r_iL {tl : TE} {R : It → Hp → Prop} (h : tl σ H fun x H1 => ∃ a, x = .ref a ∧ (∃ xs, SqL K H1 a xs) ∧ R (Itl K a) H1) : iList K tl σ H R := h
theorem r_iR1 {ta : TA} {R : It → Hp → Prop} (h : ta σ H fun vs H1 => ∃ j : Int, vs = [.int j] ∧ -(2 ^ 62) ≤ j ∧ j < 2 ^ 62 ∧ R (Itr 0 j.toNat) H1) : iRng1 ta σ H R := h
theorem r_iR2 {ta : TA} {R : It → Hp → Prop} (h : ta σ H fun vs H1 => ∃ i j : Int, vs = [.int i, .int j] ∧ (-(2 ^ 62) ≤ i ∧ i < 2 ^ 62 ∧ -(2 ^ 62) ≤ j ∧ j < 2 ^ 62) ∧ R (Itr i (j - i).toNat) H1) : iRng2 ta σ H R := h
def CompG (J : It) (tt : TT) (te : TE) (Q : VK) (H1 : Hp) : Prop := ∀ D, H1 D = none → ∃ W : Nat → Nat → List V → Hp → Prop, (∃ m, W 0 m [] (upd H1 D (.lst []))) ∧ ∀ i m ys H2, W i m ys H2 →
    (J.stop i H2 ∧ Q (.ref D) H2) ∨ (J.go i H2 ∧ ∀ x H3, J.yld i H2 x H3 → tt [some x] H3 fun b H4 => if b = true then te [some x] H4 fun y H5 => H5 D = some (.lst ys) ∧ ys.length < sizeLine ∧ ∃ m', m' < m ∧ W (i + 1) m' (ys ++ [y]) (upd H5 D (.lst (ys ++ [y]))) else ∃ m', m' < m ∧ W (i + 1) m' ys H4)
theorem r_comp {wi : TI} {tt : TT} {te : TE} (h : wi σ H fun J H1 => CompG J tt te Q H1) : tComp wi tt te σ H Q := h
theorem r_isIf {c : TT} {t u v : TS} (h : tSeq (tIfS c t u) v D σ H) : tSeq (tIfS c t u) v D σ H := h
end
/-! ### tests -/
theorem r_ifN {b : Bool} {A B : Prop} (h : if b = true then B else A) : if (!b) = true then A else B := by cases b <;> exact h
theorem r_ifd {c A B : Prop} [Decidable c] (h1 : c → A) (h2 : ¬ c → B) : if decide c = true then A else B := by
  by_cases h : c
  · rw [decide_eq_true h]
    exact iteT (h1 h)
  · rw [decide_eq_false h]
    exact iteF (h2 h)
theorem r_ifdT {c A B : Prop} [Decidable c] (h : c) (h1 : A) : if decide c = true then A else B := r_ifd (fun _ => h1) fun z => absurd h z
theorem r_ifdF {c A B : Prop} [Decidable c] (h : ¬ c) (h1 : B) : if decide c = true then A else B := r_ifd (fun z => absurd z h) fun _ => h1
/-! ### what stands in the heap -/
theorem look_put {H : Hp} {p d : Addr} {o v : HO} (hp : H p = none) (h : H d = some v) : upd H p o d = some v := (upd_ne (ne_of_none h hp)).trans h
theorem look_ne {H : Hp} {p d : Addr} {o v : HO} (hp : d ≠ p) (h : H d = some v) : upd H p o d = some v := (upd_ne hp).trans h
theorem look_tup {H : Hp} {p d : Addr} {o : HO} {xs ys : List V} (hp : H p = some (.lst ys)) (h : H d = some (.tup xs)) : upd H p o d = some (.tup xs) := look_ne (fun z => by rw [z, hp] at h; cases h) h
theorem seq_put {K : PySem.W.Frag} {H : Hp} {p d : Addr} {o : HO} {xs : List V} (hp : H p = none) (h : SqL K H d xs) : SqL K (upd H p o) d xs := (Same.new hp).seq h
end Stow

namespace Stow
open PySem L2 PyProof.Rows
/-! ### try: one statement with one call that may raise; several except clauses -/
abbrev TX := L2.St → Hp → VK → XK → Prop
def xCall (sp : Sp) (dvs : List V) (ta : TA) : TX := fun σ H QV EX => ta σ H fun vs H1 => sp (vs ++ dvs) H1 QV EX
def xMeth (C : Addr) (m : Str) (sp : Sp) (dvs : List V) (to : TE) (ta : TA) : TX := fun σ H QV EX => to σ H fun x H1 => ∃ a dx fs, x = .ref a ∧ H1 a = some (.ins C dx fs) ∧ fs.lookup m = none ∧ ta σ H1 fun vs H2 => sp (x :: (vs ++ dvs)) H2 QV EX
def xMake (C : Addr) (sp : Sp) (dvs : List V) (ta : TA) : TX := fun σ H QV EX => ta σ H fun vs H1 => ∀ x dx, H1 x = none → H1 dx = none → dx ≠ x → sp (.ref x :: (vs ++ dvs)) (upd (upd H1 dx (.own x)) x (.ins C dx [])) (fun v H2 => v = .non ∧ QV (.ref x) H2) EX
section
variable {X : Cx} {k : Nat} {f C : Addr} {fd : FuncData} {ps : List Str} {sp : Sp} {dvs : List V} {ds : List Value} {fx m : Str} {p pos apos : Pos} {e o : Expr} {es : List Expr} {to : TE} {ta : TA}
end
abbrev TH := Addr → Addr → TS
section
variable {X : Cx} {C0 : Addr} {cx : Str} {np hpos pos epos : Pos} {b0 : Stmt} {suite : List Stmt} {ts : Addr → TS} {hs : List ExceptHandler} {th : TH} {e : Expr} {t : TX}
theorem Upto.refl (fr ex : List Addr) (h : Heap) : Upto fr ex h h := ⟨fun _ _ _ _ q => q, fun b o _ q => ⟨o.slots, q⟩⟩
def tTryE (t : TX) (th : TH) : TS := fun D σ H => t σ H (fun _ H2 => D.nx σ H2) fun c od H2 => ∃ C, c = .ref C ∧ ∀ x, H2 x = none → th x C D σ (upd H2 x (ExcO x C od))
def tTryA (i : Nat) (t : TX) (th : TH) : TS := fun D σ H => t σ H (fun v H2 => D.nx (σ.set i (some v)) H2) fun c od H2 => ∃ C, c = .ref C ∧ ∀ x, H2 x = none → th x C D σ (upd H2 x (ExcO x C od))
end
section
variable {K : PySem.W.Frag} {σ : L2.St} {H : Hp} {D : Ends}
theorem r_tryE {t : TX} {th : TH} (h : t σ H (fun _ H2 => D.nx σ H2) fun c od H2 => ∃ C, c = .ref C ∧ ∀ x, H2 x = none → th x C D σ (upd H2 x (ExcO x C od))) : tTryE t th D σ H := h
theorem r_tryA {i : Nat} {t : TX} {th : TH} (h : t σ H (fun v H2 => D.nx (σ.set i (some v)) H2) fun c od H2 => ∃ C, c = .ref C ∧ ∀ x, H2 x = none → th x C D σ (upd H2 x (ExcO x C od))) : tTryA i t th D σ H := h
theorem r_xCall {sp : Sp} {ta : TA} {QV : VK} {EX : XK} (h : ta σ H fun vs H1 => sp vs H1 QV EX) : xCall sp [] ta σ H QV EX := by
  unfold xCall
  simp only [List.append_nil]
  exact h
end
end Stow

namespace Stow
open PySem L2 PyProof.Rows
/-! ### defs with defaults, methods, classes that are made, a base's __init__ -/
structure FunD (K : PySem.W.Frag) (x qual : Str) (st : Stmt) (dV : Value) (f : Addr) (fd : FuncData) : Prop where
  ex : ∃ (oc : Value) (od : Option Addr) (kV doc pm : Value) (an : Option Addr) (cdv ct : Value) (osl : Array (Option Value)),
    fd = PySem.W.fnOf x qual (defArgs st) (defBody st) (defScope st) dV kV doc pm an cdv ct ∧ K.lookup f = some ⟨oc, od, .func fd, osl⟩ ∧ PySem.W.codeIn K cdv qual = true
  kp : PySem.W.keepIn K (.ref f) = true
section
variable {P : Program} {w : World} {K : PySem.W.Frag} {mg : Str → Option Value} {base : Heap}
/-- all parameters are given -/
theorem FunD.binds {x qual : Str} {st : Stmt} {dV : Value} {f : Addr} {fd : FuncData} {ps : List Str} (F : FunD K x qual st dV f fd)
    (h : ∀ (kV doc pm : Value) (an : Option Addr) (cdv ct : Value) (us : List Value), us.length = ps.length → bindArgs (PySem.W.fnOf x qual (defArgs st) (defBody st) (defScope st) dV kV doc pm an cdv ct) ⟨us, []⟩ = pure (ps.zip us)) : Binds K fd ps [] := by
  obtain ⟨oc, od, kV, doc, pm, an, cdv, ct, osl, rfl, lk, hcd⟩ := F.ex
  exact .all (h kV doc pm an cdv ct)
end
/-- a method m of the class at C; dvs: the defaults that fill up -/
structure Methx (P : Program) (w : World) (K : PySem.W.Frag) (mg : Str → Option Value) (base : Heap) (C : Addr) (m : Str) (j : Nat) (ps : List Str) (dvs : List V) (sp : Sp) : Prop where
  ex : ∃ (f : Addr) (fd : FuncData) (ds : List Value), FnOk P w K mg base (CXe P w) j f fd ps sp ∧ Meth K C m f ∧ Binds K fd ps ds ∧ Vals dvs ds
  cl : Cls K C
/-- a class that is made -/
structure Makex (P : Program) (w : World) (K : PySem.W.Frag) (mg : Str → Option Value) (base : Heap) (x : Str) (C : Addr) (j : Nat) (ps : List Str) (dvs : List V) (sp : Sp) : Prop where
  ex : ∃ (f : Addr) (fd : FuncData) (ds : List Value), FnOk P w K mg base (CXe P w) j f fd ps sp ∧ Mk K C f ∧ Binds K fd ps ds ∧ Vals dvs ds
  bound : mg x = some (.ref C)
/-- a def read off a class: B.__init__ -/
structure ClsM (K : PySem.W.Frag) (C : Addr) (m : Str) (f : Addr) : Prop where
  sp : PySem.W.specialIn K (.ref C) "__getattribute__" = some (some (.builtin "type.__getattribute__"))
  rd : PySem.W.readsIn K C (.type "type") = true
  fc : PySem.W.findCls K (.ref C) (.type "type") m = some (.val (.ref f))
  kp : PySem.W.keepIn K (.ref f) = true
structure Basex (P : Program) (w : World) (K : PySem.W.Frag) (mg : Str → Option Value) (base : Heap) (x : Str) (m : Str) (j : Nat) (ps : List Str) (sp : Sp) : Prop where
  ex : ∃ (C f : Addr) (fd : FuncData), FnOk P w K mg base (CXe P w) j f fd ps sp ∧ ClsM K C m f ∧ Binds K fd ps [] ∧ mg x = some (.ref C)
section
variable {X : Cx} {j k : Nat} {C : Addr} {ps : List Str} {sp : Sp} {dvs : List V} {x m : Str} {p pos apos : Pos} {e o : Expr} {es : List Expr} {to : TE} {t : TA} {EX : XK}
end
section
variable {K : PySem.W.Frag} {σ : L2.St} {H : Hp} {Q : VK} {D : Ends}
theorem r_fld {f : Str} {ta : TE} (h : ta σ H fun x H1 => ∃ a C dx fs v, x = .ref a ∧ H1 a = some (.ins C dx fs) ∧ Cls K C ∧ NoAttr K C f ∧ fs.lookup f = some v ∧ Q v H1) : tFld K ta f σ H Q := h
theorem r_at {a C dx : Addr} {fs : List (Str × V)} {f : Str} {v : V} {P : V → Prop} (h : H a = some (.ins C dx fs)) (c : Cls K C) (n : NoAttr K C f) (l : fs.lookup f = some v) (q : P v) :
    ∃ a' C' dx' fs' v', V.ref a = V.ref a' ∧ H a' = some (.ins C' dx' fs') ∧ Cls K C' ∧ NoAttr K C' f ∧ fs'.lookup f = some v' ∧ P v' := ⟨a, C, dx, fs, v, rfl, h, c, n, l, q⟩
theorem r_sfld {f : Str} {ta tv : TE} (h : tv σ H fun y H1 => ta σ H1 fun x H2 => ∃ a C dx fs, x = .ref a ∧ H2 a = some (.ins C dx fs) ∧ Cls K C ∧ NoAttr K C f ∧ fs.length < 1000 ∧ D.nx σ (upd H2 a (.ins C dx (putF f y fs)))) : sFld K ta tv f D σ H := h
theorem r_meth {C : Addr} {m : Str} {sp : Sp} {E : XK} {ta : TE} {t : TA} (h : ta σ H fun x H1 => ∃ a dx fs, x = .ref a ∧ H1 a = some (.ins C dx fs) ∧ fs.lookup m = none ∧ t σ H1 fun vs H2 => sp (x :: vs) H2 Q E) : tMeth C m sp [] E ta t σ H Q := by
  unfold tMeth
  simp only [List.append_nil]
  exact h
theorem r_methD {C : Addr} {m : Str} {sp : Sp} {E : XK} {ta : TE} {t : TA} {dvs : List V} (h : ta σ H fun x H1 => ∃ a dx fs, x = .ref a ∧ H1 a = some (.ins C dx fs) ∧ fs.lookup m = none ∧ t σ H1 fun vs H2 => sp (x :: (vs ++ dvs)) H2 Q E) : tMeth C m sp dvs E ta t σ H Q := h
theorem r_xMeth {C : Addr} {m : Str} {sp : Sp} {EX : XK} {ta : TE} {t : TA} (h : ta σ H fun x H1 => ∃ a dx fs, x = .ref a ∧ H1 a = some (.ins C dx fs) ∧ fs.lookup m = none ∧ t σ H1 fun vs H2 => sp (x :: vs) H2 Q EX) : xMeth C m sp [] ta t σ H Q EX := by
  unfold xMeth
  simp only [List.append_nil]
  exact h
end
end Stow

namespace Stow
open PySem L2 PyProof.Rows
section
variable {X : Cx}
end
/-! ### stores, kept written out (a store read through a row of sets costs twice as much with each of them) -/
section
variable {a x : Option V} {v : V} {l r : L2.St} {k : Nat} {n : Str} {ns : List Str} {vs : List V}
theorem set0_c : (a :: l).set 0 x = x :: l := rfl
theorem start_c : L2.start (n :: ns) (v :: vs) = some v :: L2.start ns vs := by
  unfold L2.start
  rw [List.length_cons, List.length_cons, Nat.add_sub_add_right]
  rfl
theorem set0_1 : (L2.start (n :: ns) (v :: vs)).set 0 x = x :: L2.start ns vs := by
  rw [start_c]
  rfl
theorem set0_0 : (L2.start (n :: ns) []).set 0 x = x :: L2.start ns [] := rfl
theorem setS_c (h : l.set k x = r) : (a :: l).set (k + 1) x = a :: r := h ▸ rfl
theorem setS_1 (h : (L2.start ns vs).set k x = r) : (L2.start (n :: ns) (v :: vs)).set (k + 1) x = some v :: r := by
  rw [start_c, ← h]
  rfl
theorem setS_0 (h : (L2.start ns []).set k x = r) : (L2.start (n :: ns) []).set (k + 1) x = none :: r := h ▸ rfl
theorem r_gnameN {σ σ' : L2.St} {H : Hp} {i : Nat} {R : L2.St → Hp → Prop} (e : σ.set i (some v) = σ') (h : R σ' H) : gName i v σ H R := by
  subst e
  exact h
end
/-! ### cuts of lists of ints -/
def cutI (ns : List Int) (l u : Option Int) : List Int := (ns.drop (HT.sIx ns.length 0 l)).take (HT.sIx ns.length ns.length u - HT.sIx ns.length 0 l)
theorem cut_map (ns : List Int) (l u : Option Int) : cutV (ns.map V.int) l u = (cutI ns l u).map V.int := by
  unfold cutV cutI
  rw [List.map_take, List.map_drop, List.length_map]
section
variable {K : PySem.W.Frag} {σ : L2.St} {H : Hp} {D : Ends} {Q : VK}
theorem r_sllG {a : Addr} {ns : List Int} {lo hi : Option Int} (h : SqL K H a (ns.map V.int)) (q : ∀ p H', H p = none → Same H H' → H' p = some (.lst ((cutI ns lo hi).map V.int)) → Q (.ref p) H') : rSlL K (.ref a) lo hi H Q :=
  ⟨a, _, rfl, h, fun p hp => by rw [cut_map]; exact q p _ hp (Same.new hp) upd_same⟩
theorem r_catG {l b : Addr} {xs zs : List Int} (h : H l = some (.lst (xs.map V.int))) (h2 : H b = some (.lst (zs.map V.int))) (hz : xs.length + zs.length ≤ 4000) (q : ∀ p H', H p = none → Same H H' → H' p = some (.lst ((xs ++ zs).map V.int)) → Q (.ref p) H') : rCat (.ref l) (.ref b) H Q :=
  ⟨l, b, _, _, rfl, rfl, h, h2, by rw [List.length_map, List.length_map]; exact Nat.le_of_lt (small4000 hz), fun p hp => by rw [← List.map_append]; exact q p _ hp (Same.new hp) upd_same⟩
theorem r_isSeq {t u : TS} (h : tSeq t u D σ H) : tSeq t u D σ H := h
theorem r_isAnd {ta tb : TE} (h : tAndV ta tb σ H Q) : tAndV ta tb σ H Q := h
theorem r_isOr {ta tb : TE} (h : tOrV ta tb σ H Q) : tOrV ta tb σ H Q := h
end
end Stow

namespace Stow
open PySem L2 PyProof.Rows
/-! ### several targets at once; the last item of a list -/
section
variable {K : PySem.W.Frag} {σ : L2.St} {H : Hp} {Q : VK}
theorem r_gtup {a : Addr} {xs : List V} {n : Nat} {t : TGs} {R : L2.St → Hp → Prop} (h : H a = some (.tup xs)) (hl : xs.length = n) (q : t xs σ H R) : gTup K n t (.ref a) σ H R := ⟨a, xs, rfl, SqT.of h, hl, q⟩
theorem r_gcons {v : V} {r : List V} {t : TG} {u : TGs} {R : L2.St → Hp → Prop} (h : t v σ H fun σ' H' => u r σ' H' R) : gCons t u (v :: r) σ H R := ⟨v, r, rfl, h⟩
theorem r_gnil {R : L2.St → Hp → Prop} (h : R σ H) : gNil [] σ H R := ⟨rfl, h⟩
end
end Stow

namespace Stow
/-- the least cell from a on behind which a multiple of b comes -/
def fpl (a b : Int) : Int := a + (b - 1 - a % b)
def fp (a n L b : Int) : Option Int := if fpl a b + L ≤ a + n then some (fpl a b) else none
end Stow

namespace Stow
open PySem L2 PyProof.Rows
/-! ### pieces in the heap -/
def PcsAt (H : Hp) (us : List V) (ps : List Pc) : Prop := us.length = ps.length ∧ ∀ (i : Nat) (p : Pc), ps[i]? = some p → ∃ a, us[i]? = some (.ref a) ∧ H a = some (.tup [.int p.a, .int p.l, .bl p.v])
theorem PcsAt.nil {H : Hp} : PcsAt H [] [] := ⟨rfl, fun i p h => by simp at h⟩
theorem PcsAt.mono {H H' : Hp} {us : List V} {ps : List Pc} (h : PcsAt H us ps) (k : ∀ b xs, H b = some (.tup xs) → H' b = some (.tup xs)) : PcsAt H' us ps :=
  ⟨h.1, fun i p e => let ⟨a, h1, h2⟩ := h.2 i p e; ⟨a, h1, k _ _ h2⟩⟩
theorem PcsAt.same {H H' : Hp} {us : List V} {ps : List Pc} (h : PcsAt H us ps) (k : Same H H') : PcsAt H' us ps := h.mono fun b xs e => k b _ e
theorem PcsAt.snoc {H : Hp} {us : List V} {ps : List Pc} {p : Pc} {a : Addr} (h : PcsAt H us ps) (ha : H a = some (.tup [.int p.a, .int p.l, .bl p.v])) : PcsAt H (us ++ [.ref a]) (ps ++ [p]) := by
  refine ⟨by simp [h.1], fun i q e => ?_⟩
  have hl := h.1
  by_cases hi : i < ps.length
  · rw [List.getElem?_append_left hi] at e
    obtain ⟨b, h1, h2⟩ := h.2 i q e
    exact ⟨b, by rw [List.getElem?_append_left (by omega)]; exact h1, h2⟩
  · have hlt : i < (ps ++ [p]).length := (List.getElem?_eq_some_iff.mp e).1
    have hi2 : i = ps.length := by simp at hlt; omega
    subst hi2
    rw [List.getElem?_append_right (Nat.le_refl _)] at e
    have e' : p = q := by simpa using e
    subst e'
    exact ⟨a, by rw [← hl, List.getElem?_append_right (Nat.le_refl _)]; simp, ha⟩
theorem keepT {H : Hp} {p : Addr} {o : HO} (hp : H p = none ∨ ∃ xs, H p = some (.lst xs)) : ∀ b xs, H b = some (.tup xs) → upd H p o b = some (.tup xs) := fun b xs e => by
  have hne : b ≠ p := fun z => by
    subst z
    rcases hp with h | ⟨ys, h⟩
    · rw [h] at e; cases e
    · rw [h] at e; cases e
  rw [upd_ne hne]
  exact e
/-- the list of pieces at p takes one more -/
theorem PcsAt.push {H : Hp} {us : List V} {ps : List Pc} {p t : Addr} {z : Pc} (h : PcsAt H us ps) (hp : H p = some (.lst us)) (ht : H t = none) :
    upd (upd H t (.tup [.int z.a, .int z.l, .bl z.v])) p (.lst (us ++ [.ref t])) p = some (.lst (us ++ [.ref t])) ∧
    PcsAt (upd (upd H t (.tup [.int z.a, .int z.l, .bl z.v])) p (.lst (us ++ [.ref t]))) (us ++ [.ref t]) (ps ++ [z]) := by
  have hpt : p ≠ t := ne_of_none hp ht
  have hp2 : upd H t (.tup [.int z.a, .int z.l, .bl z.v]) p = some (.lst us) := by rw [upd_ne hpt]; exact hp
  refine ⟨upd_same, ?_⟩
  refine PcsAt.snoc ?_ ?_
  · exact (h.mono (keepT (.inl ht))).mono (keepT (.inr ⟨_, hp2⟩))
  · exact keepT (.inr ⟨_, hp2⟩) _ _ upd_same
theorem PcsAt.at {H : Hp} {us : List V} {ps : List Pc} (h : PcsAt H us ps) {k : Int} (h0 : 0 ≤ k) (h1 : k < us.length) : ∃ t z, atI us k = some (.ref t) ∧ ps[k.toNat]? = some z ∧ H t = some (.tup [.int z.a, .int z.l, .bl z.v]) := by
  have hl := h.1
  have hk : k.toNat < ps.length := by omega
  obtain ⟨t, e1, e2⟩ := h.2 k.toNat ps[k.toNat] (by simp [hk])
  refine ⟨t, _, ?_, by simp [hk], e2⟩
  have := atI_nat e1
  rwa [Int.toNat_of_nonneg h0] at this
/-! ### tuples in a list -/
def TupsAt (H : Hp) (us : List V) (xs : List (List V)) : Prop := us.length = xs.length ∧ ∀ (i : Nat) (x : List V), xs[i]? = some x → ∃ a, us[i]? = some (.ref a) ∧ H a = some (.tup x)
theorem TupsAt.nil {H : Hp} : TupsAt H [] [] := ⟨rfl, fun i p h => by simp at h⟩
theorem TupsAt.mono {H H' : Hp} {us : List V} {xs : List (List V)} (h : TupsAt H us xs) (k : ∀ b ys, H b = some (.tup ys) → H' b = some (.tup ys)) : TupsAt H' us xs :=
  ⟨h.1, fun i p e => let ⟨a, h1, h2⟩ := h.2 i p e; ⟨a, h1, k _ _ h2⟩⟩
theorem TupsAt.same {H H' : Hp} {us : List V} {xs : List (List V)} (h : TupsAt H us xs) (k : Same H H') : TupsAt H' us xs := h.mono fun b ys e => k b _ e
theorem TupsAt.push {H : Hp} {us : List V} {xs : List (List V)} {p t : Addr} {z : List V} (h : TupsAt H us xs) (hp : H p = some (.lst us)) (ht : H t = none) :
    TupsAt (upd (upd H t (.tup z)) p (.lst (us ++ [.ref t]))) (us ++ [.ref t]) (xs ++ [z]) := by
  have hpt : p ≠ t := ne_of_none hp ht
  have hp2 : upd H t (.tup z) p = some (.lst us) := by rw [upd_ne hpt]; exact hp
  have h2 := (h.mono (keepT (o := .tup z) (.inl ht))).mono (keepT (o := .lst (us ++ [.ref t])) (.inr ⟨_, hp2⟩))
  have hz : upd (upd H t (.tup z)) p (.lst (us ++ [.ref t])) t = some (.tup z) := keepT (.inr ⟨_, hp2⟩) _ _ upd_same
  refine ⟨by simp [h.1], fun i q e => ?_⟩
  have hl := h.1
  by_cases hi : i < xs.length
  · rw [List.getElem?_append_left hi] at e
    obtain ⟨b, h1, h3⟩ := h2.2 i q e
    exact ⟨b, by rw [List.getElem?_append_left (by omega)]; exact h1, h3⟩
  · have hlt : i < (xs ++ [z]).length := (List.getElem?_eq_some_iff.mp e).1
    have hi2 : i = xs.length := by simp at hlt; omega
    subst hi2
    rw [List.getElem?_append_right (Nat.le_refl _)] at e
    have e' : z = q := by simpa using e
    subst e'
    exact ⟨t, by rw [← hl, List.getElem?_append_right (Nat.le_refl _)]; simp, hz⟩
theorem TupsAt.at {H : Hp} {us : List V} {xs : List (List V)} (h : TupsAt H us xs) {i : Nat} (h1 : i < us.length) : ∃ t z, atI us (0 + (i : Int)) = some (.ref t) ∧ xs[i]? = some z ∧ H t = some (.tup z) := by
  have hl := h.1
  have hk : i < xs.length := by omega
  obtain ⟨t, e1, e2⟩ := h.2 i xs[i] (by simp [hk])
  exact ⟨t, _, by rw [Int.zero_add]; exact atI_nat e1, by simp [hk], e2⟩
@[reducible] def optV : Option Int → V
  | none => .non
  | some b => .int b
/-! ### promises that many laws share -/
def spLong : Sp := fun vs H Q _ => ∃ n : Int, vs = [.int n] ∧ Q (.int (n / 2)) H
def spLive : Sp := fun vs H Q _ => ∃ n : Int, vs = [.int n] ∧ Q (.bl (decide (n % 2 = 1))) H
def spCan (K : PySem.W.Frag) : Sp := fun vs H Q _ => ∃ (a : Addr) (ns : List Int) (k : Int), vs = [.ref a, .int k] ∧ SqL K H a (ns.map V.int) ∧ 0 ≤ k ∧ k < ns.length ∧ Q (.bl (canBegin ns k)) H
def spBad (K : PySem.W.Frag) : Sp := fun vs H Q _ => ∃ (a : Addr) (ns : List Int) (k : Int), vs = [.ref a, .int k] ∧ SqL K H a (ns.map V.int) ∧ 0 ≤ k ∧ k < ns.length ∧ Q (optV (badOf ns k)) H
def spCell (K : PySem.W.Frag) : Sp := fun vs H Q _ => ∃ (a : Addr) (ns : List Int) (k : Int), vs = [.ref a, .int k] ∧ SqL K H a (ns.map V.int) ∧ 0 ≤ k ∧ Q (.int (ns.getD k.toNat 0)) H
def spWhole : Sp := fun vs H Q _ => ∃ n : Int, vs = [.int n] ∧ Q (.bl true) H
def spLaw (K : PySem.W.Frag) : Sp := fun vs H Q _ => ∃ (a : Addr) (ns : List Int), vs = [.ref a] ∧ SqL K H a (ns.map V.int) ∧ ns.length ≤ 63 ∧ ∀ H', Q (.bl true) H'
section
variable {K : PySem.W.Frag} {H : Hp} {Q : VK} {E : XK}
theorem i_long {n : Int} (q : Q (.int (n / 2)) H) : spLong [.int n] H Q E := ⟨n, rfl, q⟩
theorem i_live {n : Int} (q : Q (.bl (decide (n % 2 = 1))) H) : spLive [.int n] H Q E := ⟨n, rfl, q⟩
theorem i_can {a : Addr} {ns : List Int} {k : Int} (h : SqL K H a (ns.map V.int)) (h0 : 0 ≤ k) (h1 : k < ns.length) (q : Q (.bl (canBegin ns k)) H) : spCan K [.ref a, .int k] H Q E := ⟨a, ns, k, rfl, h, h0, h1, q⟩
theorem i_bad {a : Addr} {ns : List Int} {k : Int} (h : SqL K H a (ns.map V.int)) (h0 : 0 ≤ k) (h1 : k < ns.length) (q : Q (optV (badOf ns k)) H) : spBad K [.ref a, .int k] H Q E := ⟨a, ns, k, rfl, h, h0, h1, q⟩
theorem i_cell {a : Addr} {ns : List Int} {k : Int} (h : SqL K H a (ns.map V.int)) (h0 : 0 ≤ k) (q : Q (.int (ns.getD k.toNat 0)) H) : spCell K [.ref a, .int k] H Q E := ⟨a, ns, k, rfl, h, h0, q⟩
theorem i_whole {n : Int} (q : Q (.bl true) H) : spWhole [.int n] H Q E := ⟨n, rfl, q⟩
end
end Stow

namespace Stow
/-! ### pieces laid into cells (numbers alone) -/
def laidI (cs : List Int) (k l : Int) (v : Bool) : List Int := (cs.set k.toNat (l * 2 + if v then 1 else 0)).set (k + l - 1).toNat (l * 2 + if v then 1 else 0)
theorem laidI_len (cs : List Int) (k l : Int) (v : Bool) : (laidI cs k l v).length = cs.length := by
  unfold laidI
  rw [List.length_set, List.length_set]
theorem laidI_out {cs : List Int} {k l : Int} {v : Bool} {j : Nat} (h0 : 0 ≤ k) (h1 : 1 ≤ l) (h : (j : Int) < k ∨ k + l ≤ j) : (laidI cs k l v)[j]? = cs[j]? := by
  unfold laidI
  rw [List.getElem?_set_ne (by omega), List.getElem?_set_ne (by omega)]
theorem laidI_first {cs : List Int} {k l : Int} {v : Bool} (h0 : 0 ≤ k) (h1 : 1 ≤ l) (h : k + l ≤ cs.length) : (laidI cs k l v)[k.toNat]? = some (mkOf l v) := by
  unfold laidI mkOf
  by_cases e : (k + l - 1).toNat = k.toNat
  · rw [e, List.getElem?_set_self (by rw [List.length_set]; omega)]
  · rw [List.getElem?_set_ne e, List.getElem?_set_self (by omega)]
theorem laidI_last {cs : List Int} {k l : Int} {v : Bool} (h0 : 0 ≤ k) (h1 : 1 ≤ l) (h : k + l ≤ cs.length) : (laidI cs k l v)[(k + l - 1).toNat]? = some (mkOf l v) := by
  unfold laidI mkOf
  rw [List.getElem?_set_self (by rw [List.length_set]; omega)]
/-- pieces that end at k or ahead, pieces that begin at e or behind -/
def EndBy (ds : List Pc) (k : Int) : Prop := ∀ p ∈ ds, 0 ≤ p.a ∧ 1 ≤ p.l ∧ p.a + p.l ≤ k
def FromOn (rs : List Pc) (e : Int) : Prop := ∀ p ∈ rs, e ≤ p.a ∧ 1 ≤ p.l
theorem Chain.fromOn {ds : List Pc} {s e : Int} (h : Chain s ds e) : FromOn ds s := fun p hp => by
  obtain ⟨h1, h2, _, _⟩ := h.mem p hp
  omega
theorem EndBy.mono {ds : List Pc} {k k' : Int} (h : EndBy ds k) (e : k ≤ k') : EndBy ds k' := fun p hp => by have := h p hp; omega
theorem EndBy.app {ds es : List Pc} {k : Int} (h : EndBy ds k) (g : EndBy es k) : EndBy (ds ++ es) k := fun p hp => (List.mem_append.mp hp).elim (h p) (g p)
theorem Marks.sub {cs : List Int} {ps qs : List Pc} (m : Marks cs ps) (h : ∀ p ∈ qs, p ∈ ps) : Marks cs qs := fun p hp => m p (h p hp)
theorem Marks.lay {cs : List Int} {ds rs : List Pc} {k l : Int} {v : Bool} (h0 : 0 ≤ k) (h1 : 1 ≤ l) (hl : k + l ≤ cs.length) (hd : EndBy ds k) (hr : FromOn rs (k + l)) (m : Marks cs (ds ++ rs)) :
    Marks (laidI cs k l v) (ds ++ ⟨k, l, v⟩ :: rs) := by
  intro p hp
  rcases List.mem_append.mp hp with h | h
  · obtain ⟨a0, a1, a2⟩ := hd p h
    obtain ⟨m1, m2⟩ := m p (List.mem_append_left _ h)
    exact ⟨by rw [laidI_out h0 h1 (by omega)]; exact m1, by rw [laidI_out h0 h1 (by omega)]; exact m2⟩
  · rcases List.mem_cons.mp h with h | h
    · subst h
      exact ⟨laidI_first h0 h1 hl, laidI_last h0 h1 hl⟩
    · obtain ⟨a0, a1⟩ := hr p h
      obtain ⟨m1, m2⟩ := m p (List.mem_append_right _ h)
      exact ⟨by rw [laidI_out h0 h1 (by omega)]; exact m1, by rw [laidI_out h0 h1 (by omega)]; exact m2⟩
def fr (b e : Int) : List Pc := if b = e then [] else [⟨b, e - b, false⟩]
/-! ### neighbours -/
end Stow
namespace Stow
end Stow
namespace Stow
end Stow
namespace Stow
end Stow

namespace Stow
/-! ### free pieces side by side joined -/
theorem Chain.take : ∀ {ps : List Pc} {s e : Int} {i : Nat}, Chain s ps e → i ≤ ps.length → ∃ m, Chain s (ps.take i) m ∧ Chain m (ps.drop i) e
  | ps, s, e, 0, c, _ => ⟨s, rfl, c⟩
  | [], s, e, i + 1, c, h => by simp at h
  | p :: r, s, e, i + 1, c, h => by
    obtain ⟨h0, h1, h2, h3⟩ := c
    obtain ⟨m, c1, c2⟩ := h3.take (i := i) (by simpa using h)
    exact ⟨m, ⟨h0, h1, h2, c1⟩, c2⟩
/-! ### all of a row of pieces laid -/
/-! ### how many are joined -/
/-- no two free ones side by side -/
def NoAdj (ps : List Pc) : Prop := ∀ j y z, ps[j]? = some y → ps[j + 1]? = some z → y.v = true ∨ z.v = true
theorem NoAdj.snoc {D : List Pc} {w z : Pc} (h : NoAdj (D ++ [w])) (hv : w.v = true ∨ z.v = true) : NoAdj (D ++ [w] ++ [z]) := by
  intro j y x hy hx
  have hl : j + 1 < (D ++ [w] ++ [z]).length := (List.getElem?_eq_some_iff.mp hx).1
  rw [List.length_append, List.length_singleton] at hl
  rw [List.getElem?_append_left (by omega)] at hy
  by_cases e : j + 1 < (D ++ [w]).length
  · rw [List.getElem?_append_left e] at hx
    exact h j y x hy hx
  · rw [List.length_append, List.length_singleton] at e hl
    rw [List.getElem?_append_right (by rw [List.length_append, List.length_singleton]; omega), show j + 1 - (D ++ [w]).length = 0 by rw [List.length_append, List.length_singleton]; omega] at hx
    rw [show j = D.length by omega, List.getElem?_append_right (Nat.le_refl _), Nat.sub_self] at hy
    have e1 : w = y := by simpa using hy
    have e2 : z = x := by simpa using hx
    rw [← e1, ← e2]
    exact hv
end Stow

namespace Stow
/-! ### cut out and freed again -/
end Stow
namespace Stow
end Stow

namespace Stow
open PySem L2 PyProof.Rows
section
variable {X : Cx}
end
end Stow

namespace Stow
open PySem L2 PyProof.Rows
/-! ### tuples compared; lists of pieces compared -/
def eqVs (xs ys : List V) : Bool := (List.range (min xs.length ys.length)).all (fun j => eqV (xs.getD j .non) (ys.getD j .non)) && xs.length == ys.length
section
variable {X : Cx} {pins : List (Addr × Obj)} {σ : L2.St} {H : Hp} {s : Shared} {A : Around}
theorem items_eq {a b : Addr} {xs ys : List V} (I : Inv X pins σ H s) (ha : SqT X.K H a xs) (hb : SqT X.K H b ys) (hf : xs.all flatV = true) (hg : ys.all flatV = true) :
    ∃ its its2 : List Value, s.heap.IsTuple a its.toArray ∧ s.heap.IsTuple b its2.toArray ∧ its.length = xs.length ∧ its2.length = ys.length ∧
      ∀ j (h1 : j < its.toArray.size) (h2 : j < its2.toArray.size), SeqAt.EqAt A s its.toArray[j] its2.toArray[j] (eqV (xs.getD j .non) (ys.getD j .non)) := by
  obtain ⟨its, r1, p1, _⟩ := I.tuple ha
  obtain ⟨its2, r2, p2, _⟩ := I.tuple hb
  have l1 := r1.length
  have l2 := r2.length
  refine ⟨its, its2, p1, p2, l1.symm, l2.symm, fun j h1 h2 => ?_⟩
  rw [List.size_toArray] at h1 h2
  have hj : j < xs.length := by omega
  have hk : j < ys.length := by omega
  obtain ⟨u1, e1, q1⟩ := r1.get (i := j) (x := xs[j]) (by simp [hj])
  obtain ⟨u2, e2, q2⟩ := r2.get (i := j) (x := ys[j]) (by simp [hk])
  obtain ⟨g1, f1⟩ := List.getElem?_eq_some_iff.mp e1
  obtain ⟨g2, f2⟩ := List.getElem?_eq_some_iff.mp e2
  have fl : flatV xs[j] = true := List.all_eq_true.mp hf _ (List.getElem_mem hj)
  have gl : flatV ys[j] = true := List.all_eq_true.mp hg _ (List.getElem_mem hk)
  have z := eqAt_V (A := A) (s := s) q1 q2 fl gl
  rw [← f1, ← f2] at z
  have ex : xs.getD j .non = xs[j] := by simp [hj]
  have ey : ys.getD j .non = ys[j] := by simp [hk]
  rw [ex, ey]
  simpa using z
theorem rc_tups {a b : Addr} {xs ys : List V} (hu : A.units < cLine) (I : Inv X pins σ H s) (ha : SqT X.K H a xs) (hb : SqT X.K H b ys) (hf : xs.all flatV = true) (hg : ys.all flatV = true) : SeqAt.RcAt A s (.ref a) (.ref b) (eqVs xs ys) := by
  obtain ⟨its, its2, p1, p2, l1, l2, he⟩ := items_eq (A := A.in1) I ha hb hf hg
  have key := SeqAt.RcAt.tuples p1 p2 hu he
  simp only [List.size_toArray, l1, l2] at key
  exact key
theorem eqVs_self {xs : List V} (hf : xs.all flatV = true) : eqVs xs xs = true := by
  unfold eqVs
  rw [Bool.and_eq_true]
  refine ⟨List.all_eq_true.mpr fun j hj => ?_, by simp⟩
  have hj : j < xs.length := by simpa using hj
  have ex : xs.getD j .non = xs[j] := by simp [hj]
  rw [ex]
  exact eqV_self (List.all_eq_true.mp hf _ (List.getElem_mem hj))
theorem eq_tup_same {a b : Addr} {xs : List V} (hu : A.units < cLine) (I : Inv X pins σ H s) (ha : SqT X.K H a xs) (hb : SqT X.K H b xs) (hf : xs.all flatV = true) : SeqAt.EqAt A s (.ref a) (.ref b) true := by
  by_cases e : a = b
  · subst e; exact SeqAt.EqAt.same _
  · refine SeqAt.EqAt.of_refs e ?_
    have := rc_tups hu I ha hb hf hf
    rwa [eqVs_self hf] at this
end
section
variable {X : Cx}
end
end Stow

set_option Elab.async false
set_option linter.all false
set_option maxRecDepth 100000
set_option maxHeartbeats 4000000
namespace L2
open PySem PySem.Spec PyProof.Rows

/-! ### lists of pairs as tables -/
section
variable {κ : Type} [DecidableEq κ]
def valV (kvs : List (κ × V)) (k : κ) : Option V := (kvs.find? fun kv => decide (kv.1 = k)).map (·.2)
/-- in its place, or at the end -/
def putK (kvs : List (κ × V)) (k : κ) (v : V) : List (κ × V) :=
  if (kvs.any fun kv => decide (kv.1 = k)) = true then kvs.map (fun kv => if kv.1 = k then (kv.1, v) else kv) else kvs ++ [(k, v)]
def dropK (kvs : List (κ × V)) (k : κ) : List (κ × V) := kvs.filter fun kv => decide (kv.1 ≠ k)

theorem valV_pos {p : κ × V} {r : List (κ × V)} {k : κ} (e : p.1 = k) : valV (p :: r) k = some p.2 := by simp [valV, List.find?_cons, e]
theorem valV_neg {p : κ × V} {r : List (κ × V)} {k : κ} (e : ¬ p.1 = k) : valV (p :: r) k = valV r k := by simp [valV, List.find?_cons, e]
theorem valV_any (k : κ) : ∀ kvs : List (κ × V), (kvs.any fun kv => decide (kv.1 = k)) = (valV kvs k).isSome
  | [] => rfl
  | p :: r => by
    rw [List.any_cons]
    by_cases e : p.1 = k
    · simp only [valV_pos e, decide_eq_true e, Bool.true_or, Option.isSome_some]
    · rw [valV_neg e, decide_eq_false e, Bool.false_or]; exact valV_any k r
theorem RelO.isSome_eq {o : Option V} {u : Option Value} (r : RelO o u) : o.isSome = u.isSome := by
  cases o with
  | none => cases u with
    | none => rfl
    | some _ => exact (show False from r).elim
  | some _ => cases u with
    | none => exact (show False from r).elim
    | some _ => rfl
theorem RelO.getD {o : Option V} {u : Option Value} {d : V} {d' : Value} (r : RelO o u) (rd : RelV d d') : RelV (o.getD d) (u.getD d') := by
  cases o with
  | none => cases u with
    | none => exact rd
    | some _ => exact (show False from r).elim
  | some _ => cases u with
    | none => exact (show False from r).elim
    | some _ => exact r

/-- raw tables of the same keys -/
theorem KV.val {kvs : List (κ × V)} {vs : List (κ × Value)} (r : KV kvs vs) (k : κ) : RelO (valV kvs k) (valueAt vs k) := by
  unfold KV at r
  induction r with
  | nil => exact True.intro
  | @cons p q ps qs h t ih =>
    obtain ⟨h1, h2⟩ := h
    by_cases e : p.1 = k
    · have e' : q.1 = k := h1.symm.trans e
      have b : valueAt (q :: qs) k = some q.2 := by simp [valueAt, List.find?_cons, e']
      rw [valV_pos e, b]; exact h2
    · have e' : ¬ q.1 = k := fun z => e (h1.trans z)
      have b : valueAt (q :: qs) k = valueAt qs k := by simp [valueAt, List.find?_cons, e']
      rw [valV_neg e, b]; exact ih
theorem KV.any {kvs : List (κ × V)} {vs : List (κ × Value)} (r : KV kvs vs) (k : κ) : (kvs.any fun kv => decide (kv.1 = k)) = vs.any fun kv => decide (kv.1 = k) := by
  unfold KV at r
  induction r with
  | nil => rfl
  | cons h t ih => rw [List.any_cons, List.any_cons, ih, h.1]
theorem KV.repl {kvs : List (κ × V)} {vs : List (κ × Value)} (r : KV kvs vs) (k : κ) {y : V} {u : Value} (ry : RelV y u) :
    KV (kvs.map fun kv => if kv.1 = k then (kv.1, y) else kv) (vs.map fun kv => if kv.1 = k then (kv.1, u) else kv) := by
  unfold KV at r ⊢
  induction r with
  | nil => exact .nil
  | @cons p q ps qs h t ih =>
    rw [List.map_cons, List.map_cons]
    refine .cons ?_ ih
    obtain ⟨h1, h2⟩ := h
    by_cases e : p.1 = k
    · rw [if_pos e, if_pos (h1.symm.trans e)]; exact ⟨h1, ry⟩
    · rw [if_neg e, if_neg (fun z => e (h1.trans z))]; exact ⟨h1, h2⟩
theorem KV.put {kvs : List (κ × V)} {vs : List (κ × Value)} (r : KV kvs vs) (k : κ) {y : V} {u : Value} (ry : RelV y u) : KV (putK kvs k y) (stored vs k u) := by
  unfold putK stored
  rw [r.any k]
  by_cases e : (vs.any fun kv => decide (kv.1 = k)) = true
  · rw [if_pos e, if_pos e]; exact r.repl k ry
  · rw [if_neg e, if_neg e]; exact Paired.snoc r ⟨rfl, ry⟩
theorem KV.drop {kvs : List (κ × V)} {vs : List (κ × Value)} (r : KV kvs vs) (k : κ) : KV (dropK kvs k) (without vs k) := by
  unfold KV at r ⊢
  unfold dropK without
  induction r with
  | nil => exact .nil
  | @cons p q ps qs h t ih =>
    obtain ⟨h1, h2⟩ := h
    rw [List.filter_cons, List.filter_cons]
    by_cases e : p.1 = k
    · have a : ¬ decide (p.1 ≠ k) = true := by simp [e]
      have b : ¬ decide (q.1 ≠ k) = true := by simp [h1.symm.trans e]
      rw [if_neg a, if_neg b]; exact ih
    · have e' : ¬ q.1 = k := fun z => e (h1.trans z)
      have a : decide (p.1 ≠ k) = true := by simp [e]
      have b : decide (q.1 ≠ k) = true := by simp [e']
      rw [if_pos a, if_pos b]; exact .cons ⟨h1, h2⟩ ih
theorem KV.length {kvs : List (κ × V)} {vs : List (κ × Value)} (r : KV kvs vs) : kvs.length = vs.length := Paired.length r
end


/-! ### a tracked dict, its keys ints and texts or tuples of these -/
/-- raw entries of a dict with tuple keys -/
abbrev KT (H : Hp) : List (List Key × V) → List (List Key × Addr × Value) → Prop := Paired fun p q => p.1 = q.1 ∧ H q.2.1 = some (.tup (p.1.map kV)) ∧ RelV p.2 q.2.2
theorem KT.val {H : Hp} {kvs : List (List Key × V)} {xs : List (List Key × Addr × Value)} (r : KT H kvs xs) (k : List Key) : RelO (valV kvs k) ((atKey xs k).map (·.2)) := by
  induction r with
  | nil => exact True.intro
  | @cons p q ps qs h t ih =>
    obtain ⟨h1, _, h2⟩ := h
    by_cases e : p.1 = k
    · have e' : q.1 = k := h1.symm.trans e
      have b : atKey (q :: qs) k = some q.2 := by simp [atKey, List.find?_cons, e']
      rw [valV_pos e, b]; exact h2
    · have e' : ¬ q.1 = k := fun z => e (h1.trans z)
      have b : atKey (q :: qs) k = atKey qs k := by simp [atKey, List.find?_cons, e']
      rw [valV_neg e, b]; exact ih
theorem KT.repl {H : Hp} {kvs : List (List Key × V)} {xs : List (List Key × Addr × Value)} (r : KT H kvs xs) (k : List Key) {y : V} {u : Value} (ry : RelV y u) :
    KT H (kvs.map fun kv => if kv.1 = k then (kv.1, y) else kv) (xs.map (putAt k u)) := by
  induction r with
  | nil => exact .nil
  | @cons p q ps qs h t ih =>
    rw [List.map_cons, List.map_cons]
    refine .cons ?_ ih
    obtain ⟨h1, h2, h3⟩ := h
    unfold putAt
    by_cases e : p.1 = k
    · rw [if_pos e, if_pos (h1.symm.trans e)]; exact ⟨h1, h2, ry⟩
    · rw [if_neg e, if_neg (fun z => e (h1.trans z))]; exact ⟨h1, h2, h3⟩
theorem KT.put {H : Hp} {kvs : List (List Key × V)} {xs : List (List Key × Addr × Value)} (r : KT H kvs xs) (k : List Key) {b : Addr} {y : V} {u : Value} (hb : H b = some (.tup (k.map kV))) (ry : RelV y u) :
    KT H (putK kvs k y) (storedH xs k b u) := by
  have e : (kvs.any fun kv => decide (kv.1 = k)) = (atKey xs k).isSome := by
    rw [valV_any, (r.val k).isSome_eq, Option.isSome_map]
  unfold putK storedH
  rw [e]
  by_cases q : (atKey xs k).isSome = true
  · rw [if_pos q, if_pos q]; exact r.repl k ry
  · rw [if_neg q, if_neg q]; exact Paired.snoc r ⟨rfl, hb, ry⟩
theorem KT.keeps {H H' : Hp} {kvs : List (List Key × V)} {xs : List (List Key × Addr × Value)} (r : KT H kvs xs) (ht : ∀ b ys, H b = some (.tup ys) → H' b = some (.tup ys)) : KT H' kvs xs :=
  Paired.mapP r fun _ _ z => ⟨z.1, ht _ _ z.2.1, z.2.2⟩

section
variable {P : Program} {w : World} {H : Hp} {h : Heap} {a : Addr}
end

/-- what the dict at a holds at the key y -/
def DGet (H : Hp) (a : Addr) (y : V) (r : Option V) : Prop :=
  (∃ kvs k, Rd H a (.dK kvs) ∧ y = kV k ∧ r = valV kvs k) ∨ ∃ kvs k b, Rd H a (.dT kvs) ∧ y = .ref b ∧ H b = some (.tup (k.map kV)) ∧ r = valV kvs k
/-- the heap behind a[y] = v -/
def DPut (H : Hp) (a : Addr) (y v : V) (H' : Hp) : Prop :=
  (∃ kvs k, H a = some (.dK kvs) ∧ y = kV k ∧ kvs.length < sizeLine ∧ H' = upd H a (.dK (putK kvs k v))) ∨
  ∃ kvs k b, H a = some (.dT kvs) ∧ y = .ref b ∧ H b = some (.tup (k.map kV)) ∧ kvs.length < sizeLine ∧ H' = upd H a (.dT (putK kvs k v))
theorem DGet.k {H : Hp} {a : Addr} {kvs : List (Key × V)} {k : Key} (e : H a = some (.dK kvs)) : DGet H a (kV k) (valV kvs k) := .inl ⟨kvs, k, .inl e, rfl, rfl⟩
theorem DGet.t {H : Hp} {a b : Addr} {kvs : List (List Key × V)} {k : List Key} (e : H a = some (.dT kvs)) (eb : H b = some (.tup (k.map kV))) : DGet H a (.ref b) (valV kvs k) := .inr ⟨kvs, k, b, .inl e, rfl, eb, rfl⟩
theorem DPut.k {H : Hp} {a : Addr} {kvs : List (Key × V)} {k : Key} {v : V} (e : H a = some (.dK kvs)) (hl : kvs.length < sizeLine) : DPut H a (kV k) v (upd H a (.dK (putK kvs k v))) := .inl ⟨kvs, k, e, rfl, hl, rfl⟩
theorem DPut.t {H : Hp} {a b : Addr} {kvs : List (List Key × V)} {k : List Key} {v : V} (e : H a = some (.dT kvs)) (eb : H b = some (.tup (k.map kV))) (hl : kvs.length < sizeLine) :
    DPut H a (.ref b) v (upd H a (.dT (putK kvs k v))) := .inr ⟨kvs, k, b, e, rfl, eb, hl, rfl⟩


section
variable {X : Cx} {pins : List (Addr × Obj)} {σ : St} {H : Hp} {s : Shared} {a : Addr} {y v : V} {u r : Value} {o : Option V} {A : Around} {E : Value → Shared → Prop}

end

section
variable {X : Cx} {pins : List (Addr × Obj)} {σ : St} {H : Hp} {s : Shared} {a : Addr} {kvs : List (Key × V)} {k : Key} {u : Value} {A : Around} {E : Value → Shared → Prop}
end


/-! ### readings and rules -/
section
variable {X : Cx} {o i e value : Expr} {pos pos' tpos : Pos} {td ty tv : TE}
end


/-! ### displays -/
section
variable {X : Cx} {pos : Pos}
end

/-! ### methods -/
/-- a method call o.m(e) of a built-in, with one argument: what must be seen of the text -/
structure M1 (X : Cx) (o : Expr) (m : Str) (apos : Pos) (e : Expr) (cpos : Pos) : Prop where
  base : attributeBase o m X.env (eval o X.env) = eval o X.env
  few : ((backTo cpos (starEach [e] X.env)).all (fun x => !x.1) && (backToKw cpos (keywordEach [] X.env)).all (fun x => x.1.isSome)
    && decide (([e] : List Expr).length + ([] : List Keyword).length + (if ([] : List Keyword).isEmpty then 0 else 1) < 30)) = true
  line : (apos.endLine == cpos.line) = true
  trees : backTo cpos (starEach [e] X.env) = [(false, eval e X.env)]
structure M2 (X : Cx) (o : Expr) (m : Str) (apos : Pos) (e f : Expr) (cpos : Pos) : Prop where
  base : attributeBase o m X.env (eval o X.env) = eval o X.env
  few : ((backTo cpos (starEach [e, f] X.env)).all (fun x => !x.1) && (backToKw cpos (keywordEach [] X.env)).all (fun x => x.1.isSome)
    && decide (([e, f] : List Expr).length + ([] : List Keyword).length + (if ([] : List Keyword).isEmpty then 0 else 1) < 30)) = true
  line : (apos.endLine == cpos.line) = true
  trees : backTo cpos (starEach [e, f] X.env) = [(false, eval e X.env), (false, eval f X.env)]

section
variable {X : Cx} {pins : List (Addr × Obj)} {σ : St} {H : Hp} {s : Shared} {a : Addr} {y d : V} {u r : Value} {o : Option V} {A : Around} {E : Value → Shared → Prop}
end

section
variable {X : Cx} {o e f : Expr} {apos cpos : Pos} {td ty tx : TE}
end

/-! ### dict(d): a copy -/
section
variable {X : Cx} {pins : List (Addr × Obj)} {σ : St} {H : Hp} {s : Shared} {a : Addr} {kvs : List (Key × V)} {A : Around} {E : Value → Shared → Prop}
end


section
variable {X : Cx} {pins : List (Addr × Obj)} {σ : St} {H : Hp} {s : Shared} {a : Addr} {y : V} {u : Value} {A : Around} {E : Value → Shared → Prop}
end
end L2

namespace L2
open PySem PySem.Spec PyProof.Rows
section
variable {X : Cx}
end
/-! ### a dict's pairs: keys that differ -/
section
variable {κ : Type} [DecidableEq κ]
end
end L2

set_option Elab.async false
set_option linter.all false
set_option maxRecDepth 100000
set_option maxHeartbeats 4000000
namespace Stow
open PySem L2 PyProof.Rows
/-! ### shifts of large numbers, | 1, is True, kinds of values, a dict's display -/
section
variable {X : Cx}
end
theorem r_isB {c d : Bool} {P : Bool → Bool → Prop} (q : P c d) : ∃ c' d', V.bl c = V.bl c' ∧ V.bl d = V.bl d' ∧ P c' d' := ⟨c, d, rfl, rfl, q⟩
end Stow

set_option Elab.async false
set_option linter.all false
set_option maxRecDepth 100000
set_option maxHeartbeats 4000000
namespace Stow
open PySem L2 PyProof.Rows
/-! ### list comprehensions with several targets and with names of the def around -/
section
variable {prog : Program} {w : World} {A : Around} {R : Result → Shared → Prop} {s : Shared}
theorem comp_turns {elt tgt src : Expr} {cs : List Expr} {sc : Scope} {ps : Pos} {itv accv : Value} {ev : Env} (J : Nat → Shared → Prop)
    (step : ∀ k t, J k t → wpAny (model prog w) A (pyNext itv) (fun r t1 => match r with
      | none => R (.ok .next) t1
      | some x => wpAny (model prog w) A (letOwnedTupleGo tgt itv x) (fun _ t2 => wpAny (model prog w) A (assign tgt ev x) (fun _ t3 =>
          wpAny (model prog w) A (forIn cs true fun c r => if r = true then do let ok ← isTrue c ev (eval c ev); pure (ForInStep.yield ok) else pure (ForInStep.yield r)) (fun good t4 =>
            if good = true then wpAny (model prog w) A (eval elt ev) (fun y t5 => wpAny (model prog w) A (call (.builtin "list.append") [accv, y]) (fun _ t6 => ∃ j, j < k ∧ J j t6) (notedBy (model prog w) A ev fun e t' => R (.error e) t') t5) (notedBy (model prog w) A ev fun e t' => R (.error e) t') t4
            else ∃ j, j < k ∧ J j t4) (notedBy (model prog w) A ev fun e t' => R (.error e) t') t3) (notedBy (model prog w) A ev fun e t' => R (.error e) t') t2) (notedBy (model prog w) A ev fun e t' => R (.error e) t') t1) (notedBy (model prog w) A ev fun e t' => R (.error e) t') t)
    (k0 : Nat) (j0 : J k0 s) : codeAny (model prog w) A (.compLoop (.ListComp elt [⟨tgt, src, cs, 0⟩] sc ps) 0 itv accv ev) R s := by
  refine codeAny_loop rfl J (fun k t hJ => ?_) k0 j0
  show wpAny _ A ((compTurn (.ListComp elt [⟨tgt, src, cs, 0⟩] sc ps) 0 itv accv ev).onRaise (fun x => do noteFrame x ev; theTreesLotGoes x)) _ _ t
  refine wpAny_noted ?_
  rw [compTurn_list]
  refine wpAny_bind (wpAny_standAt (wpAny_bind (wpAny_mono (step k t hJ) (fun r t1 g1 => ?_) fun _ _ z => z)))
  cases r with
  | none => exact wpAny_pure g1
  | some x =>
    refine wpAny_bind (wpAny_mono g1 (fun _ t2 g2 => ?_) fun _ _ z => z)
    refine wpAny_bind (wpAny_mono g2 (fun _ t3 g3 => ?_) fun _ _ z => z)
    refine wpAny_bind (wpAny_mono g3 (fun good t4 g4 => ?_) fun _ _ z => z)
    cases good with
    | false => exact wpAny_pure ⟨rfl, g4⟩
    | true => exact wpAny_bind (wpAny_bind (wpAny_mono g4 (fun y t5 g5 => wpAny_bind (wpAny_mono g5 (fun _ t6 g6 => wpAny_pure (wpAny_pure ⟨rfl, g6⟩)) fun _ _ z => z)) fun _ _ z => z))
end
theorem closure_go {env : Env} : ∀ (names : List (Str × NameKind)) (acc : List (Str × Addr)), (∀ y ∈ names, y.2 = .free → ∃ c, env.cells.lookup y.1 = some c) → (∀ x c, acc.lookup x = some c → env.cells.lookup x = some c) →
    ∃ cl, (forIn names acc fun x r => (do let (name, kind) := x; if (kind == NameKind.free) = true then do let c ← cellOf env name; pure (ForInStep.yield ((name, c) :: r)) else pure (ForInStep.yield r)) : Sem (List (Str × Addr))) = pure cl ∧
      (∀ x c, cl.lookup x = some c → env.cells.lookup x = some c) ∧ (∀ y ∈ names, y.2 = .free → ∃ c, cl.lookup y.1 = some c) ∧ (∀ x c, acc.lookup x = some c → ∃ c', cl.lookup x = some c')
  | [], acc, _, ha => ⟨acc, by simp, ha, fun y hy => by simp at hy, fun x c e => ⟨c, e⟩⟩
  | (n, k) :: r, acc, h, ha => by
    by_cases hk : k = .free
    · obtain ⟨c, hc⟩ := h (n, k) List.mem_cons_self hk
      obtain ⟨cl, e1, e2, e3, e4⟩ := closure_go r ((n, c) :: acc) (fun y hy => h y (List.mem_cons_of_mem _ hy)) (fun x d e => by
        by_cases hx : x = n
        · subst hx
          rw [List.lookup_cons_self] at e
          cases e
          exact hc
        · rw [List.lookup_cons, show (x == n) = false by simpa using hx] at e
          exact ha x d e)
      refine ⟨cl, ?_, e2, fun y hy hf => ?_, fun x d e => ?_⟩
      · rw [List.forIn_cons]
        subst hk
        have ec : cellOf env n = pure c := by unfold cellOf; rw [hc]
        simp only [beq_self_eq_true, if_true, ec, pure_bind]
        exact e1
      · rcases List.mem_cons.mp hy with z | z
        · subst z
          exact e4 n c (by rw [List.lookup_cons_self])
        · exact e3 y z hf
      · by_cases hx : x = n
        · subst hx
          exact e4 x c (by rw [List.lookup_cons_self])
        · exact e4 x d (by rw [List.lookup_cons, show (x == n) = false by simpa using hx]; exact e)
    · obtain ⟨cl, e1, e2, e3, e4⟩ := closure_go r acc (fun y hy => h y (List.mem_cons_of_mem _ hy)) ha
      refine ⟨cl, ?_, e2, fun y hy hf => ?_, e4⟩
      · rw [List.forIn_cons]
        have : (k == NameKind.free) = false := by simpa using hk
        simp only [this, Bool.false_eq_true, if_false, pure_bind]
        exact e1
      · rcases List.mem_cons.mp hy with z | z
        · subst z
          exact absurd hf hk
        · exact e3 y z hf
theorem closure_ok {scope : Scope} {env : Env} (h : ∀ y ∈ scope.names, y.2 = .free → ∃ c, env.cells.lookup y.1 = some c) :
    ∃ cl, closureFor scope env = pure cl ∧ (∀ x c, cl.lookup x = some c → env.cells.lookup x = some c) ∧ (∀ y ∈ scope.names, y.2 = .free → ∃ c, cl.lookup y.1 = some c) := by
  obtain ⟨cl, e1, e2, e3, _⟩ := closure_go scope.names [] h (fun x c e => by simp at e)
  refine ⟨cl, ?_, e2, e3⟩
  unfold closureFor
  simp only [bind_pure] at *
  exact e1
section
variable {X : Cx}
abbrev Cx.blockG (X : Cx) (scope : Scope) (cl : List (Str × Addr)) (C : Addr) (N : List Str) (s₀ : Shared) (H₀ : Hp) (ex : List Addr) : Cx :=
  { X with N := N, s₀ := s₀, H₀ := H₀, env := compEnvC scope cl C X.env, outer := X.stack, stack := X.stack, ex := ex, fn := fun _ => false, pn := [], xe := fun _ _ => False }
theorem blockG_cx {pins : List (Addr × Obj)} {σ : L2.St} {H : Hp} {s : Shared} {scope : Scope} {cl : List (Str × Addr)} {C : Addr} {N : List Str} {fp : List Addr} (I : Inv X pins σ H s) (hk : scope.kind = .function) (hC : s.heap.objs.size ≤ C)
    (hcl : ∀ x c, cl.lookup x = some c → X.env.cells.lookup x = some c) (hhas : ∀ y, (relabel scope X.env).names.lookup y = some .cell ∨ (relabel scope X.env).names.lookup y = some .free → ∃ c, cl.lookup y = some c)
    (ho : ∀ b ∈ fp, ∃ o, s.heap.get? b = some o ∧ ∀ v, o.data ≠ .cell v) (hf : ∀ b ∈ fp, FpOk X pins H b) :
    (Cx.blockG X scope cl C N s H fp).Ok where
  mod := I.ok.mod
  kind := hk
  glob := I.ok.glob
  blt := I.ok.blt
  above := hC
  inj := fun x y c e1 e2 => I.ok.inj x y c (hcl x c e1) (hcl y c e2)
  has := fun y e => hhas y e
  cab := fun _ _ e => nomatch e
  hd := I.ok.hd
  frames := I.ok.frames
  stk := .inl rfl
  exf := fun b hb => ⟨fun z => by
    obtain ⟨o, e, _⟩ := ho b hb
    have := Nat.lt_of_lt_of_le (Heap.lt_size e) hC
    rw [z] at this
    exact Nat.lt_irrefl _ this, fun x c e => (hf b hb).2.2.2.2.1 x c (hcl x c e)⟩
  bs := I.bs
  bsz := Nat.le_trans I.ok.bsz I.sz
  noex := fun b o e hb => by
    rcases (hf b hb).2.2.2.1 with z | z
    · exact I.ok.noex b o e z
    · exact absurd (Nat.lt_of_lt_of_le (Heap.lt_size (I.ok.bs b o e).1) z) (Nat.lt_irrefl _)
  exfs := fun b hb z => by
    rcases List.mem_cons.mp (I.stkSub b z) with e | e
    · exact (hf b hb).2.1 e
    · exact (hf b hb).2.2.1 e
  funs := I.stack
  frf := I.stkFree
/-- the reading: n own names, then those of the def around at the places is -/
def CompH (n : Nat) (fs : L2.St) (J : It) (g : TG) (tt : TT) (te : TE) (Q : VK) (H1 : Hp) : Prop := ∀ D, H1 D = none → ∃ W : Nat → Nat → List V → Hp → Prop, (∃ m, W 0 m [] (upd H1 D (.lst []))) ∧ ∀ i m ys H2, W i m ys H2 →
  (J.stop i H2 ∧ Q (.ref D) H2) ∨ (J.go i H2 ∧ ∀ x H3, J.yld i H2 x H3 → ∀ τ : L2.St, τ.length = n → g x (τ ++ fs) H3 fun σ1 H4 => (∃ τ' : L2.St, τ'.length = n ∧ σ1 = τ' ++ fs) ∧ tt σ1 H4 fun b H5 =>
    if b = true then te σ1 H5 fun y H6 => H6 D = some (.lst ys) ∧ ys.length < sizeLine ∧ ∃ m', m' < m ∧ W (i + 1) m' (ys ++ [y]) (upd H6 D (.lst (ys ++ [y]))) else ∃ m', m' < m ∧ W (i + 1) m' ys H5)
def tCompG (n : Nat) (is : List Nat) (wi : TI) (g : TG) (tt : TT) (te : TE) : TE := fun σ H Q => wi σ H fun J H1 => CompH n (is.map fun k => σ.getD k none) J g tt te Q H1
/-- the names of the def around -/
def Caught (X : Cx) (scope : Scope) (F : List Str) (is : List Nat) : Prop := F.length = is.length ∧ ∀ (j : Nat) (y : Str) (k : Nat), F[j]? = some y → is[j]? = some k → X.N[k]? = some y ∧ X.env.kindOf y = some .cell ∧ (relabel scope X.env).names.lookup y = some .cell
theorem comp_blockG {elt iter tg : Expr} {pos : Pos} {ifs : List Expr} {scope : Scope} {O F : List Str} {is : List Nat} {cl : List (Str × Addr)} {g : TG} {tt : TT} {te : TE} {pins : List (Addr × Obj)} {σ : L2.St} {s2 : Shared} {H2 : Hp} {it : Addr} {fp : List Addr} {tn : Nat → Heap → Prop} {J : It} {Q : VK} {RR : Value → Addr → Result → Shared → Prop}
    (hc : X.calm = true) (hkind : scope.kind = .function) (hcell : ∀ y ∈ scope.names, y.2 ≠ .cell)
    (hcl : ∀ x c, cl.lookup x = some c → X.env.cells.lookup x = some c) (hhas : ∀ y, (relabel scope X.env).names.lookup y = some .cell ∨ (relabel scope X.env).names.lookup y = some .free → ∃ c, cl.lookup y = some c) (hF : Caught X scope F is)
    (hG : ∀ cl C s₀ H₀ ex, PG (Cx.blockG X scope cl C (O ++ F) s₀ H₀ ex) tg g) (hT : ∀ cl C s₀ H₀ ex, PTs (Cx.blockG X scope cl C (O ++ F) s₀ H₀ ex) ifs tt) (hE : ∀ cl C s₀ H₀ ex, PE (Cx.blockG X scope cl C (O ++ F) s₀ H₀ ex) elt te)
    (I2 : Inv X pins σ H2 s2) (T : Turn X.prog X.w X.K tg J fp it tn) (st2 : tn 0 s2.heap) (f2 : ∀ b ∈ fp, FpOk X pins H2 b)
    (h : CompH O.length (is.map fun k => σ.getD k none) J g tt te Q H2)
    (hRR : ∀ D C H' s', Inv X pins σ H' s' → FpOk X pins H' C → (∃ m, s'.heap.Ns C m) → Q (.ref D) H' → RR (.ref D) C (.ok .next) s') :
    wpAny (model X.prog X.w) X.A (newList []) (fun acc s₃ => wpAny (model X.prog X.w) X.A (newFunctionEnv scope X.env.globals cl [] X.env.qual none .none (some X.env)) (fun cenv s₄ =>
      codeAny (model X.prog X.w) X.A (.compStart (.ListComp elt [⟨tg, iter, ifs, 0⟩] scope pos) 0 (.ref it) acc { cenv with scope := relabel scope X.env }) (RR acc cenv.locals) s₄) X.xe s₃) X.xe s2 := by
  refine wpAny_newObj_type (wpAny_newFunctionEnv hcell (by intro y hy; simp at hy) (fun h₁ hns₁ hsb₁ => ?_) hkind)
  dsimp only at hns₁ hsb₁ ⊢
  generalize hG0 : s2.heap.push { cls := .type "list", dict := none, data := .seq ([] : List Value).toArray } = G at hns₁ hsb₁ ⊢
  have hCs : G.objs.size = s2.heap.objs.size + 1 := by rw [← hG0, Heap.size_push]
  have hDC : s2.heap.objs.size ≠ G.objs.size := by rw [hCs]; exact Nat.ne_of_lt (Nat.lt_succ_self _)
  have hCle : s2.heap.objs.size ≤ G.objs.size := by rw [hCs]; exact Nat.le_succ _
  have old : ∀ b o, s2.heap.get? b = some o → h₁.get? b = some o := fun b o e => hsb₁.extBut b o (by rw [hCs]; exact Nat.ne_of_lt (Nat.lt_succ_of_lt (Heap.lt_size e))) (Heap.get?_push_of_some _ (hG0 ▸ Heap.get?_push_of_some _ e))
  have eD : h₁.get? s2.heap.objs.size = some { cls := .type "list", dict := none, data := .seq ([] : List Value).toArray } := hsb₁.extBut _ _ hDC (Heap.get?_push_of_some _ (hG0 ▸ Heap.get?_push_size _ rfl))
  have nD : H2 s2.heap.objs.size = none := I2.hok.fresh (Nat.le_refl _)
  have nC : H2 G.objs.size = none := I2.hok.fresh hCle
  obtain ⟨W, ⟨m0, w0⟩, turn⟩ := h s2.heap.objs.size nD
  generalize efs : (is.map fun k => σ.getD k none) = fs at turn
  have fre : ∀ b ∈ fp, upd H2 s2.heap.objs.size (.lst []) b = none := fun b hb => by
    obtain ⟨o, e, _⟩ := T.obj _ _ st2 b hb
    rw [upd_ne (Nat.ne_of_lt (Heap.lt_size e))]
    exact (f2 b hb).1
  have loop : ∀ s4 : Shared, s4 = { s2 with heap := h₁, toks := s2.toks + ([] : List (Str × Value)).length } →
      codeAny (model X.prog X.w) X.A (.compLoop (.ListComp elt [⟨tg, iter, ifs, 0⟩] scope pos) 0 (.ref it) (.ref s2.heap.objs.size) (compEnvC scope cl G.objs.size X.env)) (RR (.ref s2.heap.objs.size) G.objs.size) s4 := by
    rintro s4 rfl
    have ok := blockG_cx (N := O ++ F) I2 hkind hCle hcl hhas (T.obj _ _ st2) f2
    have IB : Inv (Cx.blockG X scope cl G.objs.size (O ++ F) s2 H2 fp) [] (List.replicate O.length none ++ fs) (upd H2 s2.heap.objs.size (.lst [])) { s2 with heap := h₁, toks := s2.toks + ([] : List (Str × Value)).length } := by
      refine ⟨ok, rfl, I2.bare, Un.laid old (Nat.le_refl _) nD, ⟨_, hns₁, fun i y v e1 e2 _ => ?_⟩, (fun x c e => ?_), ?_, (fun x c e => ?_), (fun p hp => nomatch hp), I2.hok.laid old (Nat.le_refl _) ⟨Nat.zero_le _, [], 0, .nil, eD⟩, ?_⟩
      · have e1 : (O ++ F)[i]? = some y := e1
        by_cases hi : i < O.length
        · rw [List.getElem?_append_left (by rw [List.length_replicate]; exact hi), List.getElem?_replicate, if_pos hi] at e2
          cases e2
        · rw [List.getElem?_append_right (by omega)] at e1
          rw [List.getElem?_append_right (by rw [List.length_replicate]; omega), List.length_replicate, ← efs, List.getElem?_map] at e2
          obtain ⟨k, ek, ev⟩ := Option.map_eq_some_iff.mp e2
          obtain ⟨g1, g2, g3⟩ := hF.2 _ _ _ e1 ek
          have es : σ[k]? = some (some v) := by
            rw [List.getD_eq_getElem?_getD] at ev
            cases q : σ[k]? with
            | none => rw [q] at ev; cases ev
            | some z => rw [q] at ev; exact congrArg some ev
          obtain ⟨m, hm, hl⟩ := I2.loc
          obtain ⟨u, ru, lk⟩ := hl k y v g1 es (.inr (.inl g2))
          refine ⟨u, ru, .inr ⟨.inl g3, ?_⟩⟩
          rcases lk with ⟨z, _⟩ | ⟨_, c, c1, o, c2, c3⟩
          · rw [g2] at z; cases z
          · obtain ⟨c', e'⟩ := hhas y (.inl g3)
            have := hcl y c' e'
            rw [c1] at this
            cases this
            exact ⟨c, e', o, old c o c2, c3⟩
      · obtain ⟨v, o, c2, c3⟩ := I2.cell x c (hcl x c e)
        exact ⟨v, o, old c o c2, c3⟩
      · show upd H2 s2.heap.objs.size (.lst []) G.objs.size = none
        rw [upd_ne (Ne.symm hDC)]
        exact nC
      · obtain ⟨v, o, c2, c3⟩ := I2.cell x c (hcl x c e)
        show upd H2 s2.heap.objs.size (.lst []) c = none
        rw [upd_ne (Nat.ne_of_lt (Heap.lt_size c2))]
        exact I2.freeC x c (hcl x c e)
      · show (List.replicate O.length none ++ fs).length = (O ++ F).length
        rw [List.length_append, List.length_append, List.length_replicate, ← efs, List.length_map, hF.1]
    have stat : ∀ {H' : Hp}, (∀ b ∈ fp, H' b = none) → ∀ b ∈ fp, FpOk (Cx.blockG X scope cl G.objs.size (O ++ F) s2 H2 fp) [] H' b := fun hn b hb =>
      ⟨hn b hb, (ok.exf b hb).1, ok.exfs b hb, .inl hb, (ok.exf b hb).2, (fun p hp => nomatch hp)⟩
    refine comp_turns (fun n s' => ∃ i ys τ H', Inv (Cx.blockG X scope cl G.objs.size (O ++ F) s2 H2 fp) [] (τ ++ fs) H' s' ∧ τ.length = O.length ∧ tn i s'.heap ∧ (∀ b ∈ fp, H' b = none) ∧ W i n ys H') ?_ m0
      ⟨0, [], _, _, IB, List.length_replicate, T.keep _ _ _ st2 fun b _ o e => old b o e, fre, w0⟩
    rintro n s3 ⟨i, ys, τ, H3, I3, hτ, st3, fr3, w3⟩
    rcases turn i n ys H3 w3 with ⟨stop, q⟩ | ⟨go, step⟩
    · refine wpAny_mono (T.done (Cx.blockG X scope cl G.objs.size (O ++ F) s2 H2 fp) rfl rfl rfl hc i [] s3 (τ ++ fs) H3 (fun _ _ => False) I3 (stat fr3) st3 stop) (fun r s4 ⟨hr, I4⟩ => ?_) (fun _ _ z => z.elim)
      subst hr
      obtain ⟨m, hn, _⟩ := I4.loc
      refine hRR _ G.objs.size H3 s4 (I2.call' (ch := fp) I4.os I4.base I4.hok I4.bare fun b hb => ?_) (I2.fpOk hCle I4.free) ⟨m, hn⟩ q
      obtain ⟨g0, g1, g2, g3, g4, g5⟩ := f2 b hb
      exact ⟨g3, g1, g4, g5⟩
    · refine wpAny_mono (T.item (Cx.blockG X scope cl G.objs.size (O ++ F) s2 H2 fp) rfl rfl rfl hc i [] s3 (τ ++ fs) H3 (fun _ _ => False) I3 (stat fr3) st3 go) (fun r s4 ⟨u, hr, h4⟩ => ?_) (fun _ _ z => z.elim)
      subst hr
      refine wpAny_mono h4 (fun _ s5 ⟨v, H5, I5, r5, y5, st5, fr5⟩ => ?_) (fun _ _ z => z.elim)
      have I5' := I5.pinned (stat fr5) (T.obj _ _ st5)
      refine wpAny_mono (hG _ _ _ _ _ _ s5 (τ ++ fs) H5 v u _ I5' r5 (step v H5 y5 τ hτ)) (fun _ s6 ⟨σ6, H6, I6, ⟨τ', hτ', e6⟩, q6⟩ => ?_) (fun _ _ z => z.elim)
      subst e6
      have again : ∀ {s7 : Shared} {H7 : Hp} {ys' : List V} {m' : Nat}, Inv (Cx.blockG X scope cl G.objs.size (O ++ F) s2 H2 fp) ([] ++ pinsAt fp s5.heap) (τ' ++ fs) H7 s7 → m' < n → W (i + 1) m' ys' H7 →
          ∃ m, m < n ∧ ∃ i ys τ H', Inv (Cx.blockG X scope cl G.objs.size (O ++ F) s2 H2 fp) [] (τ ++ fs) H' s7 ∧ τ.length = O.length ∧ tn i s7.heap ∧ (∀ b ∈ fp, H' b = none) ∧ W i m ys H' := fun {s7 H7 ys' m'} I7 hm w7 => by
        refine ⟨m', hm, i + 1, ys', τ', H7, I7.unpinned, hτ', T.keep _ _ _ st5 fun b hb o e => (I7.pin (b, o) (List.mem_append_right _ (List.mem_append_right _ (mem_pinsAt hb e)))).1, fun b hb => ?_, w7⟩
        obtain ⟨o, e, _⟩ := T.obj _ _ st5 b hb
        exact (I7.pin (b, o) (List.mem_append_right _ (List.mem_append_right _ (mem_pinsAt hb e)))).2.1
      refine wpAny_mono (hT _ _ _ _ _ _ s6 (τ' ++ fs) H6 _ I6 q6) (fun b s7 ⟨H7, I7, q7⟩ => ?_) (fun _ _ z => z.elim)
      cases b with
      | false =>
        obtain ⟨m', hm, w7⟩ := q7
        exact again I7 hm w7
      | true =>
        rw [if_pos rfl]
        refine wpAny_mono (hE _ _ _ _ _ _ s7 (τ' ++ fs) H7 _ I7 q7) (fun y' s8 ⟨y, H8, I8, ry, hD, hz, m', hm, w8⟩ => ?_) (fun _ _ z => z.elim)
        refine wpAny_mono (mt_append (X := Cx.blockG X scope cl G.objs.size (O ++ F) s2 H2 fp) _ s8 (τ' ++ fs) H8 (.ref s2.heap.objs.size) [y] (.ref s2.heap.objs.size) [y'] (fun _ H9 => H9 = upd H8 s2.heap.objs.size (.lst (ys ++ [y]))) I8 rfl (.cons ry .nil) ⟨s2.heap.objs.size, ys, y, rfl, rfl, hD, hz, rfl⟩) (fun _ s9 ⟨_, H9, I9, _, e9⟩ => ?_) (fun _ _ z => z.elim)
        subst e9
        exact again I9 hm w8
  exact codeAny_compStart_list (loop _ rfl) (T.self _ 0 _ _ _ (T.keep _ _ _ st2 fun b _ o e => old b o e) (loop _ rfl))
/-- [elt for targets in iter (if c)] -/
theorem pe_compG {elt iter tg : Expr} {pos : Pos} {ifs : List Expr} {scope : Scope} {wi : TI} {g : TG} {tt : TT} {te : TE} (O F : List Str) (is : List Nat) (hc : X.calm = true) (hi : PI X tg iter wi)
    (hG : ∀ cl C s₀ H₀ ex, PG (Cx.blockG X scope cl C (O ++ F) s₀ H₀ ex) tg g) (hT : ∀ cl C s₀ H₀ ex, PTs (Cx.blockG X scope cl C (O ++ F) s₀ H₀ ex) ifs tt) (hE : ∀ cl C s₀ H₀ ex, PE (Cx.blockG X scope cl C (O ++ F) s₀ H₀ ex) elt te)
    (hF : Caught X scope F is) (hfc : ∀ y ∈ scope.names, y.2 = .free → X.env.kindOf y.1 = some .cell) (hrl : ∀ y, (relabel scope X.env).names.lookup y = some .cell ∨ (relabel scope X.env).names.lookup y = some .free → ∃ z ∈ scope.names, z.1 = y ∧ z.2 = .free)
    (hkind : scope.kind = .function := by rfl) (hcell : ∀ y ∈ scope.names, y.2 ≠ .cell := by decide +kernel)
    (hnames : ∀ y ∈ scope.names, y.2 = .local → scope.names.lookup y.1 = some .local := by decide +kernel) (hs : ∀ y, foldedSetIterable iter X.env y = pure y := by intro _; rfl) :
    PE X (.ListComp elt [⟨tg, iter, ifs, 0⟩] scope pos) (tCompG O.length is wi g tt te) := by
  intro pins s σ H Q I h
  rw [eval_ListComp]
  obtain ⟨cl, hcf, hcl, hca⟩ := closure_ok (scope := scope) (env := X.env) fun y hy hf => I.ok.has y.1 (.inl (hfc y hy hf))
  refine wpAny_comprehension_free (use := none) (cl := cl) rfl hs hcf hkind hnames (wpAny_mono (hi pins s σ H _ I h) (fun v s1 h1 => wpAny_mono h1 (fun itv s2 h2 => ?_) fun _ _ e => e) fun _ _ e => e)
  obtain ⟨it, fp, tn, J, H2, e, I2, T, st2, f2, R2⟩ := h2
  subst e
  refine comp_blockG (O := O) (F := F) (is := is) (Q := Q) (RR := fun acc C => compPost (model X.prog X.w) X.A X.xe none (EP X pins σ Q) acc C) hc hkind hcell hcl (fun y hy => ?_) hF hG hT hE I2 T st2 f2 R2 ?_
  · obtain ⟨z, hz, e1, e2⟩ := hrl y hy
    subst e1
    exact hca z hz e2
  · rintro D C H' s' I' f' ⟨m, hn⟩ q
    obtain ⟨f0, f1, f2', f3, f4, f5⟩ := f'
    refine ⟨m, hn, fun h' sb => ⟨.ref D, H', I'.turned (t' := s'.toks) (fun b o hb e => (sb.2 b hb).trans e) f0 f1 f3 f4 f5, rfl, q⟩⟩
/-- name = [elt for targets in iter (if c)] -/
theorem ps_setCompG {elt iter tg : Expr} {y : Str} {py pos spos : Pos} {ifs : List Expr} {scope : Scope} {wi : TI} {g : TG} {tt : TT} {te : TE} {i : Nat} (O F : List Str) (is : List Nat) (hN : X.N.Nodup) (hi0 : X.N[i]? = some y) (hy : Loc X.env.scope y) (hc : X.calm = true) (hi : PI X tg iter wi)
    (hG : ∀ cl C s₀ H₀ ex, PG (Cx.blockG X scope cl C (O ++ F) s₀ H₀ ex) tg g) (hT : ∀ cl C s₀ H₀ ex, PTs (Cx.blockG X scope cl C (O ++ F) s₀ H₀ ex) ifs tt) (hE : ∀ cl C s₀ H₀ ex, PE (Cx.blockG X scope cl C (O ++ F) s₀ H₀ ex) elt te)
    (hF : Caught X scope F is) (hfc : ∀ y ∈ scope.names, y.2 = .free → X.env.kindOf y.1 = some .cell) (hrl : ∀ y, (relabel scope X.env).names.lookup y = some .cell ∨ (relabel scope X.env).names.lookup y = some .free → ∃ z ∈ scope.names, z.1 = y ∧ z.2 = .free)
    (hsw : swapsWith (.ListComp elt [⟨tg, iter, ifs, 0⟩] scope pos) (some (.Name y py)) spos.line X.env = pure true := by rfl)
    (hkind : scope.kind = .function := by rfl) (hcell : ∀ y ∈ scope.names, y.2 ≠ .cell := by decide +kernel)
    (hnames : ∀ y ∈ scope.names, y.2 = .local → scope.names.lookup y.1 = some .local := by decide +kernel) (hs : ∀ y, foldedSetIterable iter X.env y = pure y := by intro _; rfl)
    (hf : X.fn y = true ∨ X.env.scope.names.lookup y = some .local := by first | exact .inl rfl | exact .inr rfl | assumption) :
    PS X (.Assign [.Name y py] (.ListComp elt [⟨tg, iter, ifs, 0⟩] scope pos) spos) (tAsg (tCompG O.length is wi g tt te) (gName i)) := by
  intro pins s σ H D I h
  rw [exec_Assign_Name_used _ _ _ _ hsw]
  obtain ⟨cl, hcf, hcl, hca⟩ := closure_ok (scope := scope) (env := X.env) fun y hy hf => I.ok.has y.1 (.inl (hfc y hy hf))
  refine wpAny_bind (wpAny_standAt (wpAny_bind ?_))
  show wpAny _ X.A (do let _ ← comprehension (.ListComp elt [⟨tg, iter, ifs, 0⟩] scope pos) scope X.env _ (newList []) false (eval iter X.env) (some (assign (.Name y py) X.env))) _ _ s
  refine wpAny_bind (wpAny_mono (wpAny_comprehension_free (use := some (assign (.Name y py) X.env)) (cl := cl) (Q := fun _ s' => SP X pins D .next s') rfl hs hcf hkind hnames
    (wpAny_mono (hi pins s σ H _ I h) (fun v s1 h1 => wpAny_mono h1 (fun itv s2 h2 => ?_) fun _ _ e => e) fun _ _ e => e)) (fun _ s' hq => wpAny_pure (wpAny_pure hq)) fun _ _ e => e)
  obtain ⟨it, fp, tn, J, H2, e, I2, T, st2, f2, R2⟩ := h2
  subst e
  refine comp_blockG (O := O) (F := F) (is := is) (Q := fun v H1 => gName i v σ H1 D.nx) (RR := fun acc C => compPost (model X.prog X.w) X.A X.xe (some (assign (.Name y py) X.env)) (fun _ s' => SP X pins D .next s') acc C) hc hkind hcell hcl (fun y hy => ?_) hF hG hT hE I2 T st2 f2 R2 ?_
  · obtain ⟨z, hz, e1, e2⟩ := hrl y hy
    subst e1
    exact hca z hz e2
  · rintro D' C H' s' I' f' ⟨m, hn⟩ q
    obtain ⟨f0, f1, f2', f3, f4, f5⟩ := f'
    show wpAny _ X.A (assign (.Name y py) X.env (.ref D')) _ _ _
    refine wpAny_assign_Name (store_ok2 I' hN hi0 hy (v := .ref D') rfl (fun s'' I'' ⟨a, sb, ha⟩ => ?_) hf)
    have ne : C ≠ a := by
      rcases ha with e | e
      · rw [e]; exact f1
      · exact fun z => f4 _ _ e z.symm
    exact ⟨m, hn.sameBut sb ne, fun h' sb' => ⟨_, H', I''.turned (t' := s''.toks) (fun b o hb e => (sb'.2 b hb).trans e) f0 f1 f3 f4 f5, q⟩⟩
theorem ix_tupK {K : PySem.W.Frag} (hK : X.K = K) : IxR X (rIxT K) := hK ▸ ix_tup
theorem pg_tupK {K : PySem.W.Frag} {es : List Expr} {k : Nat} {t : TGs} {n : Nat} {pos : Pos} (hK : X.K = K) (hc : X.calm = true) (h : PGs X es t)
    (hn : (assignEach es X.env).length = n := by rfl) (hst : (assignEach es X.env).findIdx? (·.1) = none := by rfl) : PG X (.Tuple es k pos) (gTup K n t) := hK ▸ pg_tup hc h hn hst
theorem relabel_free {scope : Scope} {env : Env} {y : Str} (hcell : ∀ z ∈ scope.names, z.2 ≠ .cell) (h : (relabel scope env).names.lookup y = some .cell ∨ (relabel scope env).names.lookup y = some .free) : ∃ z ∈ scope.names, z.1 = y ∧ z.2 = .free := by
  have key : ∀ (l : List (Str × NameKind)) (k : NameKind), l.lookup y = some k → (y, k) ∈ l := by
    intro l k
    induction l with
    | nil => intro e; cases e
    | cons p r ih =>
      intro e
      obtain ⟨n, k'⟩ := p
      rw [List.lookup_cons] at e
      cases hb : y == n with
      | true =>
        rw [hb] at e
        cases e
        rw [eq_of_beq hb]
        exact List.mem_cons_self
      | false => rw [hb] at e; exact List.mem_cons_of_mem _ (ih e)
  have fin : ∀ k, (relabel scope env).names.lookup y = some k → k = .cell ∨ k = .free → ∃ z ∈ scope.names, z.1 = y ∧ z.2 = .free := fun k e hk => by
    obtain ⟨z, hz, ez⟩ := List.mem_map.mp (key _ _ e)
    obtain ⟨n, k0⟩ := z
    dsimp only at ez
    split at ez
    · rename_i hc
      simp only [Bool.and_eq_true, beq_iff_eq] at hc
      cases ez
      exact ⟨(y, k0), hz, rfl, hc.1.1⟩
    · cases ez
      rcases hk with rfl | rfl
      · exact absurd rfl (hcell _ hz)
      · exact ⟨_, hz, rfl, rfl⟩
  rcases h with h | h
  · exact fin _ h (.inl rfl)
  · exact fin _ h (.inr rfl)
theorem caught_one {scope : Scope} {y : Str} {k : Nat} (h1 : X.N[k]? = some y) (h2 : X.env.kindOf y = some .cell) (h3 : (relabel scope X.env).names.lookup y = some .cell) : Caught X scope [y] [k] := ⟨rfl, fun j z i e1 e2 => by
  cases j with
  | zero =>
    have g1 : y = z := by simpa using e1
    have g2 : k = i := by simpa using e2
    subst g1 g2
    exact ⟨h1, h2, h3⟩
  | succ j => simp at e1⟩
theorem caught_two {scope : Scope} {y y' : Str} {k k' : Nat} (h1 : X.N[k]? = some y) (h1' : X.N[k']? = some y') (h2 : X.env.kindOf y = some .cell) (h2' : X.env.kindOf y' = some .cell) (h3 : (relabel scope X.env).names.lookup y = some .cell) (h3' : (relabel scope X.env).names.lookup y' = some .cell) :
    Caught X scope [y, y'] [k, k'] := ⟨rfl, fun j z i e1 e2 => by
  match j with
  | 0 =>
    have g1 : y = z := by simpa using e1
    have g2 : k = i := by simpa using e2
    subst g1 g2
    exact ⟨h1, h2, h3⟩
  | 1 =>
    have g1 : y' = z := by simpa using e1
    have g2 : k' = i := by simpa using e2
    subst g1 g2
    exact ⟨h1', h2', h3'⟩
  | j + 2 => simp at e1⟩
theorem free_one {scope : Scope} {n : Str} (h : ∀ y ∈ scope.names, y.2 = .free → y.1 = n) (k : X.env.kindOf n = some .cell) : ∀ y ∈ scope.names, y.2 = .free → X.env.kindOf y.1 = some .cell := fun y hy hf => by rw [h y hy hf]; exact k
theorem free_two {scope : Scope} {n m : Str} (h : ∀ y ∈ scope.names, y.2 = .free → y.1 = n ∨ y.1 = m) (k : X.env.kindOf n = some .cell) (k' : X.env.kindOf m = some .cell) : ∀ y ∈ scope.names, y.2 = .free → X.env.kindOf y.1 = some .cell := fun y hy hf => by
  rcases h y hy hf with e | e
  · rw [e]; exact k
  · rw [e]; exact k'
end
section
variable {K : PySem.W.Frag} {σ : L2.St} {H : Hp} {Q : VK}
theorem r_compG {n : Nat} {is : List Nat} {wi : TI} {g : TG} {tt : TT} {te : TE} (h : wi σ H fun J H1 => CompH n (is.map fun k => σ.getD k none) J g tt te Q H1) : tCompG n is wi g tt te σ H Q := h
/-- one turn more -/
def Nx (n : Nat) (Pv : Addr → Nat → List V → Hp → Prop) (D : Addr) (i : Nat) (ys : List V) (H2 : Hp) : Prop := ∃ m', m' < n - i ∧ m' = n - (i + 1) ∧ i + 1 ≤ n ∧ Pv D (i + 1) ys H2
theorem nx_mk {n : Nat} {Pv : Addr → Nat → List V → Hp → Prop} {D : Addr} {i : Nat} {ys : List V} {H2 : Hp} (hi : i < n) (p : Pv D (i + 1) ys H2) : Nx n Pv D i ys H2 := ⟨_, by omega, rfl, hi, p⟩
end
end Stow
namespace Stow
open PySem L2 PyProof.Rows
/-! ### min of a list whose items are compared by what stands in the heap -/
section
variable {prog : Program} {w : World} {A : Around} {R : Result → Shared → Prop} {I : Addr} {fp wr : List Addr} {n : Nat} {P : Nat → Value → Prop} {St : Nat → Heap → Prop}
end
section
variable {prog : Program} {w : World} {A : Around} {E : Value → Shared → Prop} {s : Shared}
end
/-- the place of the least one, the first of alike ones -/
def minAt (xs : List (List Int)) : Nat → Nat
  | 0 => 0
  | k + 1 => if HT.lexLt (xs.getD (k + 1) []) (xs.getD (minAt xs k) []) then k + 1 else minAt xs k
theorem minAt_le (xs : List (List Int)) : ∀ k, minAt xs k ≤ k
  | 0 => Nat.le_refl 0
  | k + 1 => by
    unfold minAt
    have := minAt_le xs k
    split <;> omega
section
variable {X : Cx}
end
end Stow
namespace Stow
open PySem L2 PyProof.Rows
/-! ### own objects: isinstance, and the steps of their readings -/
structure InsK (K : PySem.W.Frag) (C : Addr) : Prop where
  cl : Cls K C
  ha : PySem.W.findIn K (.ref C) "__class__" = some (some (.builtin "object.__class__"))
  hn : PySem.W.specialIn K (.builtin "object.__class__") "__get__" = some (some (.builtin "getset_descriptor.__get__"))
  htk : PySem.W.takesIn K (.builtin "object.__class__") = some true
  hm : PySem.W.mroIn K C (.type "object") = some true
section
variable {X : Cx}
end
section
variable {K : PySem.W.Frag} {σ : L2.St} {H : Hp} {Q : VK} {D : Ends}
theorem r_isiO {a C dx C' : Addr} {fs : List (Str × V)} {b : Bool} {P : Bool → Prop} (h : H a = some (.ins C dx fs)) (z : InsK K C) (e : PySem.W.kitOne K (.ref C) (.ref C') = some b) (q : P b) :
    ∃ a' C1 dx' fs' C2 b', [V.ref a, V.ref C'] = [V.ref a', V.ref C2] ∧ H a' = some (.ins C1 dx' fs') ∧ InsK K C1 ∧ PySem.W.kitOne K (.ref C1) (.ref C2) = some b' ∧ P b' := ⟨a, C, dx, fs, C', b, rfl, h, z, e, q⟩
theorem r_sat {a C dx : Addr} {fs : List (Str × V)} {f : Str} {R : Addr → Addr → Addr → List (Str × V) → Prop} (h : H a = some (.ins C dx fs)) (c : Cls K C) (n : NoAttr K C f) (l : fs.length < 1000) (q : R a C dx fs) :
    ∃ a' C' dx' fs', V.ref a = V.ref a' ∧ H a' = some (.ins C' dx' fs') ∧ Cls K C' ∧ NoAttr K C' f ∧ fs'.length < 1000 ∧ R a' C' dx' fs' := ⟨a, C, dx, fs, rfl, h, c, n, l, q⟩
theorem r_mat {a C dx : Addr} {fs : List (Str × V)} {m : Str} {P : Prop} (h : H a = some (.ins C dx fs)) (l : fs.lookup m = none) (q : P) :
    ∃ a' dx' fs', V.ref a = V.ref a' ∧ H a' = some (.ins C dx' fs') ∧ fs'.lookup m = none ∧ P := ⟨a, dx, fs, rfl, h, l, q⟩
theorem r_make {C : Addr} {sp : Sp} {E : XK} {t : TA} (h : t σ H fun vs H1 => ∀ x dx, H1 x = none → H1 dx = none → dx ≠ x → sp (.ref x :: vs) (upd (upd H1 dx (.own x)) x (.ins C dx [])) (fun v H2 => v = .non ∧ Q (.ref x) H2) E) : tMake C sp [] E t σ H Q := by
  unfold tMake
  simp only [List.append_nil]
  exact h
end
section
variable {X : Cx}
end
/-- all but x stays -/
def KeepX (x : Addr) (H H' : Hp) : Prop := ∀ b o, b ≠ x → H b = some o → H' b = some o
theorem KeepX.refl {x : Addr} {H : Hp} : KeepX x H H := fun _ _ _ h => h
theorem KeepX.of {x : Addr} {H H' : Hp} (s : Same H H') : KeepX x H H' := fun b o _ h => s b o h
theorem KeepX.trans {x : Addr} {H H' H'' : Hp} (s : KeepX x H H') (t : KeepX x H' H'') : KeepX x H H'' := fun b o n h => t b o n (s b o n h)
theorem KeepX.put {x : Addr} {H H' : Hp} {o : HO} (s : KeepX x H H') : KeepX x H (upd H' x o) := fun b o' n h => look_ne n (s b o' n h)
end Stow

set_option Elab.async false
set_option linter.all false
set_option maxRecDepth 100000
set_option maxHeartbeats 4000000
namespace Stow
/-! ### blocks of a power of two (numbers alone) -/
end Stow
namespace Stow
open PySem L2 PyProof.Rows
/-! ### a method with a default; a try over an if; steps -/
structure MethD (P : Program) (w : World) (K : PySem.W.Frag) (mg : Str → Option Value) (base : Heap) (C : Addr) (m : Str) (j : Nat) (ps : List Str) (dvs : List V) (sp : Sp) : Prop where
  all : Methx P w K mg base C m j ps [] sp
  less : Methx P w K mg base C m j ps dvs sp
abbrev TXS := Ends → XK → L2.St → Hp → Prop
def xSet (i : Nat) (t : TX) : TXS := fun D EX σ H => t σ H (fun v H2 => D.nx (σ.set i (some v)) H2) EX
def xIf (c : TT) (t u : TXS) : TXS := fun D EX σ H => c σ H fun b H1 => if b = true then t D EX σ H1 else u D EX σ H1
def tTryS (t : TXS) (th : TH) : TS := fun D σ H => t D (fun c od H2 => ∃ C, c = .ref C ∧ ∀ x, H2 x = none → th x C D σ (upd H2 x (ExcO x C od))) σ H
section
variable {X : Cx} {e c : Expr} {t : TX} {tc : TT} {ta tb ts : TXS} {a b ss : List Stmt} {pos epos : Pos} {hs : List ExceptHandler} {th : TH}
end
section
variable {K : PySem.W.Frag} {σ : L2.St} {H : Hp} {Q : VK} {D : Ends} {EX : XK}
theorem r_tryS {t : TXS} {th : TH} (h : t D (fun c od H2 => ∃ C, c = .ref C ∧ ∀ x, H2 x = none → th x C D σ (upd H2 x (ExcO x C od))) σ H) : tTryS t th D σ H := h
theorem r_xSet {i : Nat} {t : TX} (h : t σ H (fun v H2 => D.nx (σ.set i (some v)) H2) EX) : xSet i t D EX σ H := h
theorem r_xIf {c : TT} {t u : TXS} (h : c σ H fun b H1 => if b = true then t D EX σ H1 else u D EX σ H1) : xIf c t u D EX σ H := h
theorem r_xMethD {C : Addr} {m : Str} {sp : Sp} {ta : TE} {t : TA} {dvs : List V} (h : ta σ H fun x H1 => ∃ a dx fs, x = .ref a ∧ H1 a = some (.ins C dx fs) ∧ fs.lookup m = none ∧ t σ H1 fun vs H2 => sp (x :: (vs ++ dvs)) H2 Q EX) : xMeth C m sp dvs ta t σ H Q EX := h
theorem r_xMake {C : Addr} {sp : Sp} {t : TA} (h : t σ H fun vs H1 => ∀ x dx, H1 x = none → H1 dx = none → dx ≠ x → sp (.ref x :: vs) (upd (upd H1 dx (.own x)) x (.ins C dx [])) (fun v H2 => v = .non ∧ Q (.ref x) H2) EX) : xMake C sp [] t σ H Q EX := by
  unfold xMake
  simp only [List.append_nil]
  exact h
theorem r_notIn {x : V} {p : Addr} {xs : List V} {P : Bool → Prop} (h : H p = some (.lst xs)) (f : flatV x = true) (fs : xs.all flatV = true) (q : P (!inV x xs)) : ∃ p' ys, V.ref p = V.ref p' ∧ (SqL K H p' ys ∨ SqT K H p' ys) ∧ flatV x = true ∧ ys.all flatV = true ∧ P (if true = true then !inV x ys else inV x ys) :=
  ⟨p, xs, rfl, .inl (SqL.of h), f, fs, q⟩
end
end Stow

set_option Elab.async false
set_option linter.all false
set_option maxRecDepth 100000
set_option maxHeartbeats 4000000
namespace Stow
/-! ### shelves (numbers alone) -/
/-- cells behind one another: the marks of the first ones, then those of the others as they lie there -/
theorem Marks.app {cs ds : List Int} {ps qs : List Pc} (h0 : EndBy ps cs.length) (m : Marks cs ps) (h1 : FromOn qs 0) (k : Marks ds qs) :
    Marks (cs ++ ds) (ps ++ qs.map fun q => ⟨q.a + cs.length, q.l, q.v⟩) := by
  intro p hp
  rcases List.mem_append.mp hp with h | h
  · obtain ⟨a0, a1, a2⟩ := h0 p h
    obtain ⟨m1, m2⟩ := m p h
    exact ⟨by rw [List.getElem?_append_left (by omega)]; exact m1, by rw [List.getElem?_append_left (by omega)]; exact m2⟩
  · obtain ⟨q, hq, rfl⟩ := List.mem_map.mp h
    obtain ⟨b0, b1⟩ := h1 q hq
    obtain ⟨m1, m2⟩ := k q hq
    constructor
    · show (cs ++ ds)[(q.a + cs.length).toNat]? = some (mkOf q.l q.v)
      rw [List.getElem?_append_right (by omega), show (q.a + cs.length).toNat - cs.length = q.a.toNat by omega]
      exact m1
    · show (cs ++ ds)[(q.a + cs.length + q.l - 1).toNat]? = some (mkOf q.l q.v)
      rw [List.getElem?_append_right (by omega), show (q.a + cs.length + q.l - 1).toNat - cs.length = (q.a + q.l - 1).toNat by omega]
      exact m2
end Stow
namespace Stow
open PySem L2 PyProof.Rows
/-! ### three names of the def around in a comprehension; range with a step -/
section
variable {X : Cx}
theorem caught_three {scope : Scope} {y y' y'' : Str} {k k' k'' : Nat} (h1 : X.N[k]? = some y) (h1' : X.N[k']? = some y') (h1'' : X.N[k'']? = some y'') (h2 : X.env.kindOf y = some .cell) (h2' : X.env.kindOf y' = some .cell) (h2'' : X.env.kindOf y'' = some .cell)
    (h3 : (relabel scope X.env).names.lookup y = some .cell) (h3' : (relabel scope X.env).names.lookup y' = some .cell) (h3'' : (relabel scope X.env).names.lookup y'' = some .cell) : Caught X scope [y, y', y''] [k, k', k''] := ⟨rfl, fun j z i e1 e2 => by
  match j with
  | 0 =>
    have g1 : y = z := by simpa using e1
    have g2 : k = i := by simpa using e2
    subst g1 g2
    exact ⟨h1, h2, h3⟩
  | 1 =>
    have g1 : y' = z := by simpa using e1
    have g2 : k' = i := by simpa using e2
    subst g1 g2
    exact ⟨h1', h2', h3'⟩
  | 2 =>
    have g1 : y'' = z := by simpa using e1
    have g2 : k'' = i := by simpa using e2
    subst g1 g2
    exact ⟨h1'', h2'', h3''⟩
  | j + 3 => simp at e1⟩
theorem free_three {scope : Scope} {n m o : Str} (h : ∀ y ∈ scope.names, y.2 = .free → y.1 = n ∨ y.1 = m ∨ y.1 = o) (k : X.env.kindOf n = some .cell) (k' : X.env.kindOf m = some .cell) (k'' : X.env.kindOf o = some .cell) : ∀ y ∈ scope.names, y.2 = .free → X.env.kindOf y.1 = some .cell := fun y hy hf => by
  rcases h y hy hf with e | e | e
  · rw [e]; exact k
  · rw [e]; exact k'
  · rw [e]; exact k''
end
section
variable {X : Cx} {tg : Expr}
end
theorem compH_range {H : Hp} {Q : VK} {lo : Int} {n k : Nat} {fs : L2.St} {g : TG} {tt : TT} {te : TE} (Pv : Addr → Nat → List V → Hp → Prop) (h0 : ∀ D, H D = none → Pv D 0 [] (upd H D (.lst [])))
    (hs : ∀ D i ys H2, H D = none → i < n → Pv D i ys H2 → ∀ τ : L2.St, τ.length = k → g (.int (lo + i)) (τ ++ fs) H2 fun σ1 H4 => (∃ τ' : L2.St, τ'.length = k ∧ σ1 = τ' ++ fs) ∧ tt σ1 H4 fun b H5 =>
      if b = true then te σ1 H5 fun y H6 => H6 D = some (.lst ys) ∧ ys.length < sizeLine ∧ Nx n Pv D i (ys ++ [y]) (upd H6 D (.lst (ys ++ [y]))) else Nx n Pv D i ys H5)
    (hd : ∀ D ys H2, H D = none → Pv D n ys H2 → Q (.ref D) H2) : CompH k fs (Itr lo n) g tt te Q H := by
  intro D hD
  refine ⟨fun i m ys H2 => m = n - i ∧ i ≤ n ∧ Pv D i ys H2, ⟨_, rfl, Nat.zero_le _, h0 D hD⟩, ?_⟩
  rintro i m ys H2 ⟨rfl, hi, p⟩
  by_cases hlt : i < n
  · refine .inr ⟨hlt, fun x H3 y τ hτ => ?_⟩
    obtain ⟨e, y⟩ := y
    subst e y
    exact hs D i ys _ hD hlt p τ hτ
  · have e : i = n := by omega
    subst e
    exact .inl ⟨Nat.le_refl _, hd D ys H2 hD p⟩
end Stow

set_option Elab.async false
set_option linter.all false
set_option maxRecDepth 100000
set_option maxHeartbeats 4000000
namespace Stow
open PySem L2 PyProof.Rows
/-! ### built-in functions called with keywords -/
/-! ### sum of a list of whole numbers -/
/-! ### min with a default -/
section
variable {prog : Program} {w : World} {A : Around} {R : Result → Shared → Prop} {I : Addr} {fp wr : List Addr} {n : Nat} {P : Nat → Value → Prop} {St : Nat → Heap → Prop} {kw : List (Str × Value)}
end
section
variable {prog : Program} {w : World} {A : Around} {E : Value → Shared → Prop} {s : Shared}
end
section
variable {X : Cx}
end
/-! ### the best so far -/
end Stow
namespace Stow
open PySem L2 PyProof.Rows
section
variable {K : PySem.W.Frag} {σ : L2.St} {H : Hp} {Q : VK}
end
/-! ### starts, stops and plans -/
def pr (q : Int × Int) : List V := [.int q.1, .int q.2]
/-- what is told of a plan -/
def planV (H : Hp) (v : V) (o : Option (List Int)) : Prop := match o with
  | none => v = .non
  | some x => ∃ t, v = .ref t ∧ H t = some (.tup (x.map V.int))
theorem planV.same {H H' : Hp} {v : V} {o : Option (List Int)} (h : planV H v o) (s : Same H H') : planV H' v o := by
  cases o with
  | none => exact h
  | some x => obtain ⟨t, e1, e2⟩ := h; exact ⟨t, e1, s t _ e2⟩
theorem planV.mono {H H' : Hp} {v : V} {o : Option (List Int)} (h : planV H v o) (k : ∀ b xs, H b = some (.tup xs) → H' b = some (.tup xs)) : planV H' v o := by
  cases o with
  | none => exact h
  | some x => obtain ⟨t, e1, e2⟩ := h; exact ⟨t, e1, k t _ e2⟩
end Stow
namespace Stow
open PySem L2 PyProof.Rows
theorem KeepX.new {x t : Addr} {H H' : Hp} {o : HO} (s : KeepX x H H') (ht : H' t = none) : KeepX x H (upd H' t o) := fun b o' n h => look_put ht (s b o' n h)
theorem KeepX.tups {x : Addr} {H H' : Hp} {l us : List V} {xs : List (List V)} (s : KeepX x H H') (hx : H x = some (.lst l)) (h : TupsAt H us xs) : TupsAt H' us xs := h.mono fun b ys e => s b _ (fun z => by rw [z, hx] at e; cases e) e
end Stow

set_option Elab.async false
set_option linter.all false
set_option maxRecDepth 100000
set_option maxHeartbeats 4000000
namespace Stow
open PySem L2 PyProof.Rows
/-! ### tuples of two whole numbers and a bool: compared, the least of a list of them -/
inductive NumsP : List Value → List Value → List Int → List Int → Prop
  | nil : NumsP [] [] [] []
  | int {vs ws : List Value} {ns ms : List Int} (a : Int) (t : Tok) (c : Int) (u : Tok) : NumsP vs ws ns ms → NumsP (.int a t :: vs) (.int c u :: ws) (a :: ns) (c :: ms)
  | bool {vs ws : List Value} {ns ms : List Int} (p q : Bool) : NumsP vs ws ns ms → NumsP (.bool p :: vs) (.bool q :: ws) (b2i p :: ns) (b2i q :: ms)
section
open PySem.SeqAt
open PySem.AutoSeq1 (wpAny_loadPart')
open PySem.MeetsSeq PySem.MeetsSeq2 PySem.MeetsSeq3
end
section
variable {prog : Program} {w : World} {A : Around} {E : Value → Shared → Prop} {s : Shared}
end
abbrev K3 := Int × Int × Bool
def kv (x : K3) : List V := [.int x.1, .int x.2.1, .bl x.2.2]
def kn (x : K3) : List Int := [x.1, x.2.1, b2i x.2.2]
def k0 : K3 := (0, 0, false)
def bestK (xs : List K3) : K3 := xs.getD (minAt (xs.map kn) (xs.length - 1)) k0
section
variable {X : Cx}
end
end Stow
namespace Stow
open PySem L2 PyProof.Rows
end Stow
namespace Stow
open PySem L2 PyProof.Rows
/-! ### the least of tuples of three -/
theorem lex3g (a b c d e f : Int) : HT.lexLt [a, b, c] [d, e, f] = decide (a < d ∨ (a = d ∧ (b < e ∨ (b = e ∧ c < f)))) := by
  rw [HT.lexLt_cons]
  by_cases h1 : a = d
  · rw [if_pos h1, HT.lexLt_cons]
    by_cases h2 : b = e
    · rw [if_pos h2, HT.lexLt_cons]
      by_cases h3 : c = f
      · rw [if_pos h3, HT.lexLt_nil_nil]
        exact (decide_eq_false (by omega)).symm
      · rw [if_neg h3]
        congr 1
        exact propext ⟨fun h => by omega, fun h => by omega⟩
    · rw [if_neg h2]
      congr 1
      exact propext ⟨fun h => by omega, fun h => by omega⟩
  · rw [if_neg h1]
    congr 1
    exact propext ⟨fun h => by omega, fun h => by omega⟩
/-- none has a first number below the least one's -/
theorem minAt_first {xs : List (List Int)} (h3 : ∀ k, k < xs.length → ∃ a b c, xs.getD k [] = [a, b, c]) : ∀ j, j < xs.length → ∀ k, k ≤ j → (xs.getD (minAt xs j) []).getD 0 0 ≤ (xs.getD k []).getD 0 0
  | 0, hj, k, hk => by
    have : k = 0 := by omega
    subst this
    exact Int.le_refl _
  | j + 1, hj, k, hk => by
    have ih := minAt_first h3 j (by omega)
    have hm := minAt_le xs j
    obtain ⟨a, b, c, e1⟩ := h3 (j + 1) hj
    obtain ⟨d, e, f, e2⟩ := h3 (minAt xs j) (by omega)
    unfold minAt
    rw [e1, e2, lex3g]
    by_cases hlt : (a < d ∨ (a = d ∧ (b < e ∨ (b = e ∧ c < f))))
    · rw [if_pos (decide_eq_true hlt)]
      by_cases ek : k = j + 1
      · subst ek; exact Int.le_refl _
      · have := ih k (by omega)
        rw [e2] at this
        rw [e1]
        have t2 : d ≤ (xs.getD k []).getD 0 0 := this
        show a ≤ _
        omega
    · rw [if_neg (by rw [decide_eq_false hlt]; exact Bool.false_ne_true)]
      by_cases ek : k = j + 1
      · subst ek
        rw [e1, e2]
        show d ≤ a
        omega
      · exact ih k (by omega)
theorem kn3 (x : K3) : ∃ a b c, kn x = [a, b, c] := ⟨_, _, _, rfl⟩
theorem bestK_le {xs : List K3} {x : K3} (h : x ∈ xs) : (bestK xs).1 ≤ x.1 := by
  obtain ⟨k, hk, rfl⟩ := List.mem_iff_getElem.mp h
  have hl : (xs.map kn).length = xs.length := List.length_map _
  have kg : ∀ i, i < xs.length → (xs.map kn).getD i [] = kn (xs.getD i k0) := fun i hi => by simp [hi]
  have := minAt_first (xs := xs.map kn) (fun k hk => by rw [kg k (by omega)]; exact kn3 _) (xs.length - 1) (by omega) k (by omega)
  have hm := minAt_le (xs.map kn) (xs.length - 1)
  rw [kg _ (by omega), kg k hk] at this
  have ex : xs.getD k k0 = xs[k] := by simp [hk]
  rw [ex] at this
  exact this
/-! ### what must be changed for a piece; the cheapest ways -/
def lackF (cs : List Int) (k l : Int) (v : Bool) : Int := (if cs.getD k.toNat 0 = mkOf l v then 0 else 1) + (if l = 1 ∨ cs.getD (k + l - 1).toNat 0 = mkOf l v then 0 else 1)
def fitA (e : Int) (v : Bool) (n : Nat) : List Pc := (List.range n).map fun a : Nat => (⟨(a : Int), e - (a : Int), v⟩ : Pc)
def fitP (e : Nat) : List Pc := fitA e false e ++ fitA e true (e - 2)
theorem mem_fitA {e : Int} {v : Bool} {n : Nat} {z : Pc} : z ∈ fitA e v n ↔ ∃ a : Nat, a < n ∧ z = ⟨a, e - a, v⟩ := by
  unfold fitA
  constructor
  · intro h
    obtain ⟨a, h1, h2⟩ := List.mem_map.mp h
    exact ⟨a, List.mem_range.mp h1, h2.symm⟩
  · rintro ⟨a, h1, rfl⟩
    exact List.mem_map.mpr ⟨a, List.mem_range.mpr h1, rfl⟩
theorem mem_fitP {e : Nat} {z : Pc} (h : z ∈ fitP e) : 0 ≤ z.a ∧ 1 ≤ z.l ∧ z.a + z.l = e ∧ (z.v = true → 3 ≤ z.l) := by
  rcases List.mem_append.mp h with h | h
  · obtain ⟨a, h1, rfl⟩ := mem_fitA.mp h
    exact ⟨by show (0 : Int) ≤ a; omega, by show (1 : Int) ≤ (e : Int) - a; omega, by show (a : Int) + ((e : Int) - a) = e; omega, fun h => by cases h⟩
  · obtain ⟨a, h1, rfl⟩ := mem_fitA.mp h
    exact ⟨by show (0 : Int) ≤ a; omega, by show (1 : Int) ≤ (e : Int) - a; omega, by show (a : Int) + ((e : Int) - a) = e; omega, fun _ => by show (3 : Int) ≤ (e : Int) - a; omega⟩
def fitOne (cs : List Int) (W : List K3) (z : Pc) : K3 := ((W.getD z.a.toNat k0).1 + lackF cs z.a z.l z.v, z.a, z.v)
def fitK (cs : List Int) (W : List K3) (e : Nat) : List K3 := (fitP e).map (fitOne cs W)
def wayF (cs : List Int) : Nat → List K3
  | 0 => [k0]
  | e + 1 => wayF cs e ++ [bestK (fitK cs (wayF cs e) (e + 1))]
theorem wayF_len (cs : List Int) : ∀ e, (wayF cs e).length = e + 1
  | 0 => rfl
  | e + 1 => by
    unfold wayF
    rw [List.length_append, wayF_len cs e]
    rfl
/-- the e-th way -/
def wayG (cs : List Int) (e : Nat) : K3 := (wayF cs e).getD e k0
theorem wayF_get (cs : List Int) : ∀ (n k : Nat), k ≤ n → (wayF cs n).getD k k0 = wayG cs k
  | 0, k, h => by
    have : k = 0 := by omega
    subst this
    rfl
  | n + 1, k, h => by
    by_cases e : k = n + 1
    · subst e; rfl
    · have := wayF_get cs n k (by omega)
      rw [← this]
      show (wayF cs n ++ [_]).getD k k0 = _
      rw [List.getD_eq_getElem?_getD, List.getD_eq_getElem?_getD, List.getElem?_append_left (by rw [wayF_len]; omega)]
theorem wayG_succ (cs : List Int) (e : Nat) : wayG cs (e + 1) = bestK (fitK cs (wayF cs e) (e + 1)) := by
  show (wayF cs e ++ [_]).getD (e + 1) k0 = _
  rw [List.getD_eq_getElem?_getD, List.getElem?_append_right (by rw [wayF_len]; omega), wayF_len, Nat.sub_self]
  rfl
theorem way_le (cs : List Int) {e : Nat} {z : Pc} (h : z ∈ fitP (e + 1)) : (wayG cs (e + 1)).1 ≤ (wayG cs z.a.toNat).1 + lackF cs z.a z.l z.v := by
  obtain ⟨z0, z1, z2, _⟩ := mem_fitP h
  rw [wayG_succ]
  have := bestK_le (xs := fitK cs (wayF cs e) (e + 1)) (List.mem_map.mpr ⟨z, h, rfl⟩)
  unfold fitOne at this
  rw [wayF_get cs e z.a.toNat (by omega)] at this
  exact this
def priceF (cs : List Int) (e : Nat) : Int := (wayG cs e).1
theorem price_zero (cs : List Int) : priceF cs 0 = 0 := rfl
theorem price_free (cs : List Int) {a e : Nat} (h : a < e) : priceF cs e ≤ priceF cs a + lackF cs a ((e : Int) - a) false := by
  obtain ⟨d, rfl⟩ : ∃ d, e = d + 1 := ⟨e - 1, by omega⟩
  have := way_le cs (e := d) (z := ⟨a, ((d + 1 : Nat) : Int) - a, false⟩) (List.mem_append.mpr (.inl (mem_fitA.mpr ⟨a, by omega, rfl⟩)))
  exact this
theorem price_live (cs : List Int) {a e : Nat} (h : a + 3 ≤ e) : priceF cs e ≤ priceF cs a + lackF cs a ((e : Int) - a) true := by
  obtain ⟨d, rfl⟩ : ∃ d, e = d + 1 := ⟨e - 1, by omega⟩
  have := way_le cs (e := d) (z := ⟨a, ((d + 1 : Nat) : Int) - a, true⟩) (List.mem_append.mpr (.inr (mem_fitA.mpr ⟨a, by omega, rfl⟩)))
  exact this
end Stow
namespace Stow
open PySem L2 PyProof.Rows
/-! ### how many cells are unlike -/
def df (cs ds : List Int) (a : Nat) : Nat → Int
  | 0 => 0
  | n + 1 => df cs ds a n + (if cs.getD (a + n) 0 = ds.getD (a + n) 0 then 0 else 1)
theorem df_add (cs ds : List Int) (a n : Nat) : ∀ m, df cs ds a (n + m) = df cs ds a n + df cs ds (a + n) m
  | 0 => by simp [df]
  | m + 1 => by
    show df cs ds a (n + m) + (if cs.getD (a + (n + m)) 0 = ds.getD (a + (n + m)) 0 then 0 else 1) = df cs ds a n + (df cs ds (a + n) m + (if cs.getD (a + n + m) 0 = ds.getD (a + n + m) 0 then 0 else 1))
    rw [df_add cs ds a n m, show a + (n + m) = a + n + m by omega]
    omega
theorem df_nonneg (cs ds : List Int) (a : Nat) : ∀ n, 0 ≤ df cs ds a n
  | 0 => Int.le_refl _
  | n + 1 => by
    have := df_nonneg cs ds a n
    show 0 ≤ df cs ds a n + _
    split <;> omega
theorem df_zero {cs ds : List Int} {a : Nat} : ∀ {n : Nat}, (∀ k, a ≤ k → k < a + n → cs.getD k 0 = ds.getD k 0) → df cs ds a n = 0
  | 0, _ => rfl
  | n + 1, h => by
    show df cs ds a n + _ = 0
    rw [df_zero (n := n) (fun k h1 h2 => h k h1 (by omega)), if_pos (h (a + n) (by omega) (by omega))]
    rfl
theorem df_same {cs ds es : List Int} {a : Nat} : ∀ {n : Nat}, (∀ k, a ≤ k → k < a + n → es.getD k 0 = ds.getD k 0) → df cs ds a n = df cs es a n
  | 0, _ => rfl
  | n + 1, h => by
    show df cs ds a n + _ = df cs es a n + _
    rw [df_same (n := n) (fun k h1 h2 => h k h1 (by omega)), h (a + n) (by omega) (by omega)]
theorem df_one (cs ds : List Int) (a : Nat) : df cs ds a 1 = if cs.getD a 0 = ds.getD a 0 then 0 else 1 := by
  show (0 : Int) + _ = _
  rw [Int.zero_add]
  rfl
/-- a piece whose marks stand, and whose other cells are as ahead: just what it lacks -/
theorem df_piece {cs ds : List Int} {a n : Nat} {v : Bool} (hn : 1 ≤ n) (h1 : ds.getD a 0 = mkOf n v) (h2 : ds.getD (a + n - 1) 0 = mkOf n v) (h : ∀ k, a < k → k + 1 < a + n → cs.getD k 0 = ds.getD k 0) : df cs ds a n = lackF cs a n v := by
  unfold lackF
  rw [show ((a : Nat) : Int).toNat = a by omega]
  by_cases e : n = 1
  · subst e
    rw [df_one, h1, if_pos (show ((1 : Nat) : Int) = 1 ∨ _ from .inl rfl), Int.add_zero]
  · obtain ⟨m, rfl⟩ : ∃ m, n = 1 + (m + 1) := ⟨n - 2, by omega⟩
    rw [show ((a : Nat) : Int) + ((1 + (m + 1) : Nat) : Int) - 1 = ((a + 1 + m : Nat) : Int) by omega, Int.toNat_natCast]
    rw [show a + (1 + (m + 1)) - 1 = a + 1 + m by omega] at h2
    rw [df_add, df_one, h1]
    show _ + (df cs ds (a + 1) m + _) = _
    rw [df_zero (n := m) (fun k g1 g2 => h k (by omega) (by omega)), h2, Int.zero_add]
    congr 1
    by_cases hc : cs.getD (a + 1 + m) 0 = mkOf ((1 + (m + 1) : Nat) : Int) v
    · rw [if_pos hc, if_pos (.inr hc)]
    · rw [if_neg hc, if_neg (fun z => z.elim (fun z => by omega) hc)]
/-- what a piece lacks is no more than what is unlike there -/
theorem lack_le {cs ds : List Int} {a n : Nat} {v : Bool} (hn : 1 ≤ n) (h1 : ds.getD a 0 = mkOf n v) (h2 : ds.getD (a + n - 1) 0 = mkOf n v) : lackF cs a n v ≤ df cs ds a n := by
  unfold lackF
  rw [show ((a : Nat) : Int).toNat = a by omega]
  by_cases e : n = 1
  · subst e
    rw [df_one, h1, if_pos (show ((1 : Nat) : Int) = 1 ∨ _ from .inl rfl), Int.add_zero]
    exact Int.le_refl _
  · obtain ⟨m, rfl⟩ : ∃ m, n = 1 + (m + 1) := ⟨n - 2, by omega⟩
    rw [show ((a : Nat) : Int) + ((1 + (m + 1) : Nat) : Int) - 1 = ((a + 1 + m : Nat) : Int) by omega, Int.toNat_natCast]
    rw [show a + (1 + (m + 1)) - 1 = a + 1 + m by omega] at h2
    rw [df_add, df_one, h1]
    have hm := df_nonneg cs ds (a + 1) m
    show _ ≤ _ + (df cs ds (a + 1) m + _)
    rw [h2]
    by_cases hc : cs.getD (a + 1 + m) 0 = mkOf ((1 + (m + 1) : Nat) : Int) v
    · rw [if_pos (show ((1 + (m + 1) : Nat) : Int) = 1 ∨ cs.getD (a + 1 + m) 0 = mkOf ((1 + (m + 1) : Nat) : Int) v from .inr hc), if_pos hc]
      omega
    · rw [if_neg (show ¬ (((1 + (m + 1) : Nat) : Int) = 1 ∨ cs.getD (a + 1 + m) 0 = mkOf ((1 + (m + 1) : Nat) : Int) v) from fun z => z.elim (fun z => by omega) hc), if_neg hc]
      omega
theorem getD_some {ns : List Int} {k : Nat} {x : Int} (h : ns[k]? = some x) : ns.getD k 0 = x := by rw [List.getD_eq_getElem?_getD, h]; rfl
/-- no cells that tell pieces are nearer than the price -/
theorem price_chain {cs ds : List Int} : ∀ {ps : List Pc} {s e : Nat}, Chain s ps e → Marks ds ps → priceF cs e ≤ priceF cs s + df cs ds s (e - s)
  | [], s, e, c, _ => by
    have c : (s : Int) = e := c
    have : s = e := by omega
    subst this
    rw [Nat.sub_self]
    show _ ≤ _ + (0 : Int)
    omega
  | z :: r, s, e, c, m => by
    obtain ⟨ea, h1, h3, c2⟩ := c
    have hle := c2.le
    obtain ⟨n, en⟩ : ∃ n : Nat, z.l = n := ⟨z.l.toNat, by omega⟩
    rw [en] at c2
    have ih := price_chain (s := s + n) (e := e) (ps := r) (cs := cs) (ds := ds) (by rw [show ((s + n : Nat) : Int) = (s : Int) + n by omega]; exact c2) (fun p hp => m p (List.mem_cons_of_mem _ hp))
    obtain ⟨m1, m2⟩ := m z List.mem_cons_self
    have g1 := getD_some m1
    have g2 := getD_some m2
    have e1 : z.mk' = mkOf n z.v := by show mkOf z.l z.v = _; rw [en]
    rw [ea, show ((s : Nat) : Int).toNat = s by omega, e1] at g1
    rw [ea, en, show ((s : Nat) : Int) + ((n : Nat) : Int) - 1 = ((s + n - 1 : Nat) : Int) by omega, Int.toNat_natCast, e1] at g2
    have hl := lack_le (cs := cs) (a := s) (n := n) (v := z.v) (by omega) g1 g2
    have hes : s + n ≤ e := by rw [en] at hle; omega
    have hd := df_add cs ds s n (e - (s + n))
    rw [show n + (e - (s + n)) = e - s by omega] at hd
    have hp : priceF cs (s + n) ≤ priceF cs s + lackF cs s n z.v := by
      cases hv : z.v with
      | false =>
        have := price_free cs (a := s) (e := s + n) (by omega)
        rw [show ((s + n : Nat) : Int) - (s : Int) = n by omega] at this
        exact this
      | true =>
        have := h3 hv
        have := price_live cs (a := s) (e := s + n) (by omega)
        rw [show ((s + n : Nat) : Int) - (s : Int) = n by omega] at this
        exact this
    omega
/-- mending, from the end down -/
structure Mnd (cs : List Int) (e : Nat) (R : List Int) : Prop where
  len : R.length = cs.length
  le : e ≤ cs.length
  low : ∀ k, k < e → R[k]? = cs[k]?
  rest : ∃ rs, Chain e rs cs.length ∧ Marks R rs
  cost : df cs R e (cs.length - e) = priceF cs cs.length - priceF cs e
theorem Mnd.start (cs : List Int) : Mnd cs cs.length cs := ⟨rfl, Nat.le_refl _, fun _ _ => rfl, ⟨[], rfl, Marks.nil _⟩, by rw [Nat.sub_self, Int.sub_self]; rfl⟩
theorem Mnd.step {cs R : List Int} {a n : Nat} {v : Bool} (m : Mnd cs (a + n) R) (hn : 1 ≤ n) (h3 : v = true → 3 ≤ n) (hw : wayG cs (a + n) = (priceF cs a + lackF cs a n v, (a : Int), v)) : Mnd cs a (laidI R a n v) := by
  obtain ⟨hl, hle, hlow, ⟨rs, c, mk⟩, hcost⟩ := m
  have hlen : (laidI R a n v).length = cs.length := by rw [laidI_len]; exact hl
  have out : ∀ j : Nat, ((j : Int) < a ∨ (a : Int) + n ≤ j) → (laidI R a n v)[j]? = R[j]? := fun j h => laidI_out (by omega) (by omega) h
  have f1 := laidI_first (cs := R) (k := a) (l := n) (v := v) (by omega) (by omega) (by omega)
  have f2 := laidI_last (cs := R) (k := a) (l := n) (v := v) (by omega) (by omega) (by omega)
  rw [show ((a : Nat) : Int).toNat = a by omega] at f1
  rw [show ((a : Nat) : Int) + ((n : Nat) : Int) - 1 = ((a + n - 1 : Nat) : Int) by omega, Int.toNat_natCast] at f2
  refine ⟨hlen, by omega, fun k hk => (out k (.inl (by omega))).trans (hlow k (by omega)), ⟨⟨a, n, v⟩ :: rs, ⟨rfl, by show (1 : Int) ≤ n; omega, fun h => by have := h3 h; show (3 : Int) ≤ n; omega, by show Chain ((a : Int) + n) rs cs.length; rw [show (a : Int) + n = ((a + n : Nat) : Int) by omega]; exact c⟩, ?_⟩, ?_⟩
  · have := Marks.lay (cs := R) (ds := []) (rs := rs) (k := a) (l := n) (v := v) (by omega) (by omega) (by omega) (fun p hp => by cases hp) (by rw [show (a : Int) + n = ((a + n : Nat) : Int) by omega]; exact c.fromOn) mk
    exact this
  · have e1 : priceF cs (a + n) = priceF cs a + lackF cs a n v := congrArg (·.1) hw
    have hd := df_add cs (laidI R a n v) a n (cs.length - (a + n))
    rw [show n + (cs.length - (a + n)) = cs.length - a by omega] at hd
    have hp : df cs (laidI R a n v) a n = lackF cs a n v := df_piece hn (getD_some f1) (getD_some f2) (fun k h1 h2 => by
      have : (laidI R a n v)[k]? = R[k]? := by
        unfold laidI
        rw [List.getElem?_set_ne (by omega), List.getElem?_set_ne (by omega)]
      rw [List.getD_eq_getElem?_getD, List.getD_eq_getElem?_getD, this, hlow k (by omega)])
    have hq : df cs (laidI R a n v) (a + n) (cs.length - (a + n)) = df cs R (a + n) (cs.length - (a + n)) := df_same (fun k h1 h2 => by
      rw [List.getD_eq_getElem?_getD, List.getD_eq_getElem?_getD, out k (.inr (by omega))])
    omega
theorem Mnd.fin {cs R : List Int} (m : Mnd cs 0 R) : R.length = cs.length ∧ (∃ rs, Chain 0 rs R.length ∧ Marks R rs) ∧ df cs R 0 cs.length = priceF cs cs.length := by
  obtain ⟨hl, _, _, ⟨rs, c, mk⟩, hcost⟩ := m
  refine ⟨hl, ⟨rs, by rw [hl]; exact c, mk⟩, ?_⟩
  rw [Nat.sub_zero, price_zero, Int.sub_zero] at hcost
  exact hcost
theorem df_pos {cs ds : List Int} {a : Nat} : ∀ {n : Nat}, df cs ds a n = 0 → ∀ k, a ≤ k → k < a + n → cs.getD k 0 = ds.getD k 0
  | 0, _, k, h1, h2 => by omega
  | n + 1, h, k, h1, h2 => by
    have h0 := df_nonneg cs ds a n
    have h : df cs ds a n + (if cs.getD (a + n) 0 = ds.getD (a + n) 0 then 0 else 1) = 0 := h
    by_cases e : cs.getD (a + n) 0 = ds.getD (a + n) 0
    · rw [if_pos e] at h
      by_cases ek : k = a + n
      · subst ek; exact e
      · exact df_pos (n := n) (by omega) k h1 (by omega)
    · rw [if_neg e] at h
      omega
theorem df_eq {cs ds : List Int} (hl : ds.length = cs.length) (h : df cs ds 0 cs.length = 0) : ds = cs := by
  refine List.ext_getElem? fun k => ?_
  by_cases hk : k < cs.length
  · have := df_pos h k (by omega) (by omega)
    rw [List.getElem?_eq_getElem (by omega), List.getElem?_eq_getElem hk]
    rw [List.getD_eq_getElem?_getD, List.getD_eq_getElem?_getD, List.getElem?_eq_getElem (by omega), List.getElem?_eq_getElem (by omega)] at this
    exact congrArg some this.symm
  · rw [List.getElem?_eq_none (by omega), List.getElem?_eq_none (by omega)]
theorem df_self (cs : List Int) (a n : Nat) : df cs cs a n = 0 := df_zero fun _ _ _ => rfl
/-- mended once more, or a room mended: the same -/
theorem Mnd.same {cs R : List Int} {ps : List Pc} (m : Mnd cs 0 R) (c : Chain 0 ps cs.length) (mk : Marks cs ps) : R = cs := by
  obtain ⟨hl, _, hcost⟩ := m.fin
  have h := price_chain (cs := cs) (ds := cs) (s := 0) (e := cs.length) c mk
  rw [Nat.sub_zero, df_self, price_zero] at h
  have := df_nonneg cs R 0 cs.length
  exact df_eq hl (by omega)
end Stow
namespace Stow
open PySem L2 PyProof.Rows
end Stow

set_option Elab.async false
set_option linter.all false
set_option maxRecDepth 100000
set_option maxHeartbeats 4000000
namespace Stow
open PySem L2 PyProof.Rows
inductive Are {α : Type} (R : Value → α → Prop) : List Value → List α → Prop
  | nil : Are R [] []
  | cons {v : Value} {x : α} {vs : List Value} {xs : List α} (h : R v x) (t : Are R vs xs) : Are R (v :: vs) (x :: xs)
theorem Are.length {α : Type} {R : Value → α → Prop} {vs : List Value} {xs : List α} (h : Are R vs xs) : vs.length = xs.length := by
  induction h with
  | nil => rfl
  | cons _ _ ih => rw [List.length_cons, List.length_cons, ih]
section
open PySem.SeqAt
open PySem.AutoSeq1 (wpAny_loadPart')
open PySem.MeetsSeq PySem.MeetsSeq2 PySem.MeetsSeq3
end
abbrev Pr := Int × Int
def prV (z : Pr) : List V := [.int z.1, .int z.2]
/-- a row of pairs; rows of such rows -/
def PrsAt (H : Hp) (us : List V) (l : List Pr) : Prop := us.length = l.length ∧ ∀ (j : Nat) (z : Pr), l[j]? = some z → ∃ t, us[j]? = some (V.ref t) ∧ H t = some (.tup (prV z))
def LysAt (H : Hp) (vs : List V) (ls : List (List Pr)) : Prop := vs.length = ls.length ∧ ∀ (j : Nat) (l : List Pr), ls[j]? = some l → ∃ t us, vs[j]? = some (V.ref t) ∧ H t = some (.tup us) ∧ PrsAt H us l
theorem PrsAt.tail {H : Hp} {u : V} {us : List V} {z : Pr} {l : List Pr} (h : PrsAt H (u :: us) (z :: l)) : PrsAt H us l :=
  ⟨by have := h.1; simpa using this, fun j z' hz => by
    obtain ⟨t, e1, e2⟩ := h.2 (j + 1) z' (by simpa using hz)
    exact ⟨t, by simpa using e1, e2⟩⟩
def ltP (z y : Pr) : Bool := HT.lexLt [z.1, z.2] [y.1, y.2]
section
variable {X : Cx} {pins : List (Addr × Obj)} {σ : L2.St} {H : Hp} {s : Shared} {A : Around}
end
section
variable {X : Cx}
end
/-! ### the layouts, in the program's order -/
theorem LysAt.same {H H' : Hp} {vs : List V} {ls : List (List Pr)} (h : LysAt H vs ls) (s : Same H H') : LysAt H' vs ls := ⟨h.1, fun j l hl => by
  obtain ⟨t, us, e1, e2, e3⟩ := h.2 j l hl
  exact ⟨t, us, e1, s t _ e2, e3.1, fun j z hz => by
    obtain ⟨t', f1, f2⟩ := e3.2 j z hz
    exact ⟨t', f1, s t' _ f2⟩⟩⟩
theorem PrsAt.mono {H H' : Hp} {us : List V} {l : List Pr} (h : PrsAt H us l) (k : ∀ t xs, H t = some (.tup xs) → H' t = some (.tup xs)) : PrsAt H' us l := ⟨h.1, fun j z hz => by
  obtain ⟨t', f1, f2⟩ := h.2 j z hz
  exact ⟨t', f1, k t' _ f2⟩⟩
theorem LysAt.mono {H H' : Hp} {vs : List V} {ls : List (List Pr)} (h : LysAt H vs ls) (k : ∀ t xs, H t = some (.tup xs) → H' t = some (.tup xs)) : LysAt H' vs ls := ⟨h.1, fun j l hl => by
  obtain ⟨t, us, e1, e2, e3⟩ := h.2 j l hl
  exact ⟨t, us, e1, k t _ e2, e3.mono k⟩⟩
theorem LysAt.nil {H : Hp} : LysAt H [] [] := ⟨rfl, fun j l h => by simp at h⟩
theorem LysAt.append {H : Hp} {vs ws : List V} {ls ms : List (List Pr)} (h : LysAt H vs ls) (g : LysAt H ws ms) : LysAt H (vs ++ ws) (ls ++ ms) := ⟨by rw [List.length_append, List.length_append, h.1, g.1], fun j l hl => by
  rcases Nat.lt_or_ge j ls.length with hj | hj
  · rw [List.getElem?_append_left hj] at hl
    obtain ⟨t, us, e1, e2⟩ := h.2 j l hl
    exact ⟨t, us, by rw [List.getElem?_append_left (by rw [h.1]; exact hj)]; exact e1, e2⟩
  · rw [List.getElem?_append_right hj] at hl
    obtain ⟨t, us, e1, e2⟩ := g.2 _ l hl
    exact ⟨t, us, by rw [List.getElem?_append_right (by rw [h.1]; exact hj), h.1]; exact e1, e2⟩⟩
theorem LysAt.one {H : Hp} {t : Addr} {us : List V} {l : List Pr} (h : H t = some (.tup us)) (p : PrsAt H us l) : LysAt H [.ref t] [l] := ⟨rfl, fun j m hl => by
  cases j with
  | zero =>
    have : l = m := by simpa using hl
    subst this
    exact ⟨t, us, rfl, h, p⟩
  | succ j => simp at hl⟩
theorem PrsAt.nil {H : Hp} : PrsAt H [] [] := ⟨rfl, fun j l h => by simp at h⟩
theorem PrsAt.cons {H : Hp} {t : Addr} {z : Pr} {us : List V} {l : List Pr} (h : H t = some (.tup (prV z))) (p : PrsAt H us l) : PrsAt H (.ref t :: us) (z :: l) := ⟨by rw [List.length_cons, List.length_cons, p.1], fun j m hl => by
  cases j with
  | zero =>
    have : z = m := by simpa using hl
    subst this
    exact ⟨t, rfl, h⟩
  | succ j =>
    obtain ⟨t', e1, e2⟩ := p.2 j m (by simpa using hl)
    exact ⟨t', by simpa using e1, e2⟩⟩
theorem LysAt.get {H : Hp} {vs : List V} {ls : List (List Pr)} (h : LysAt H vs ls) {i : Nat} {v : V} (hv : vs[i]? = some v) : ∃ t us l, v = .ref t ∧ ls[i]? = some l ∧ H t = some (.tup us) ∧ PrsAt H us l := by
  have hi : i < ls.length := by rw [← h.1]; exact (List.getElem?_eq_some_iff.mp hv).1
  obtain ⟨t, us, e1, e2, e3⟩ := h.2 i ls[i] (by simp [hi])
  rw [hv] at e1
  exact ⟨t, us, _, Option.some.inj e1, by simp [hi], e2, e3⟩
end Stow

set_option Elab.async false
set_option linter.all false
set_option maxRecDepth 100000
set_option maxHeartbeats 4000000
namespace Stow
open PySem L2 PyProof.Rows PySem.W
/-! ### sorted of a tuple of tuples of whole numbers -/
/-- the tree of questions run with an order of the places below n -/
def kasRun {α : Type} (n : Nat) (lt : Nat → Nat → Bool) : KasT α → Option α
  | .ret a => some a
  | .ask i j k => if i < n ∧ j < n then kasRun n lt (k (lt i j)) else none
theorem kasRun_wp {α : Type} {n : Nat} {lt : Nat → Nat → Bool} {cmp : Nat → Nat → (Bool → Shared → Prop) → Shared → Prop} {Q : α → Shared → Prop} {s : Shared} (hc : ∀ i j (C : Bool → Shared → Prop), i < n → j < n → C (lt i j) s → cmp i j C s) :
    ∀ (t : KasT α) (a : α), kasRun n lt t = some a → Q a s → t.kasWp cmp Q s
  | .ret b, a, e, q => by
    unfold kasRun at e
    cases e; exact q
  | .ask i j k, a, e, q => by
    unfold kasRun at e
    by_cases h : i < n ∧ j < n
    · rw [if_pos h] at e
      exact hc i j _ h.1 h.2 (kasRun_wp hc (k (lt i j)) a e q)
    · rw [if_neg h] at e; cases e
/-- a rising row with one more at its end, whose place is k -/
def insLt (n k i j : Nat) : Bool := if i + 1 = n then (if j + 1 = n then false else decide (k ≤ j)) else if j + 1 = n then decide (i < k) else decide (i < j)
def insP (n k : Nat) : List Nat := List.range k ++ (n - 1) :: List.range' k (n - 1 - k)
theorem ins_all : ∀ n, n < 9 → ∀ k, k < n → 2 ≤ n → kasRun n (insLt n k) (kas_sort n) = some (List.toArray (insP n k)) := by decide +kernel
section
variable {prog : Program} {w : World} {A : Around} {E : Value → Shared → Prop} {s : Shared}
theorem list_sort_kp {a : Addr} {n : Nat} {vs : List Value} {p : List Nat} {P : PySem.Fin → Shared → Prop} (κ : SortKind) (ho : s.heap.get? a = some (seqObj "list" vs.toArray n)) (h2 : 2 ≤ vs.length) (h64 : vs.length < 64) (hp : p.length = vs.length)
    (hk : ∀ h', (∀ b o, b ≠ a → s.heap.get? b = some o → h'.get? b = some o) → ∀ (Q : SortKind → Shared → Prop) (E : Value → Shared → Prop), Q κ { s with heap := h' } → wpAny (model prog w) A (keyKind' vs.toArray) Q E { s with heap := h' })
    (hr : ∀ h', (∀ b o, b ≠ a → s.heap.get? b = some o → h'.get? b = some o) → ∀ (Q : Array Nat → Shared → Prop), Q p.toArray { s with heap := h' } → (kas_sort vs.length).kasWp (kas_ask prog w A κ vs) Q { s with heap := h' })
    (fin : ∀ h' c, (∀ b o, b ≠ a → s.heap.get? b = some o → h'.get? b = some o) → h'.get? a = some (seqObj "list" (List.toArray (p.map fun i => vs.getD i Value.none)) c) → P (.done (.ret .none)) { s with heap := h' }) :
    wpAny (model prog w) A (Builtin.«list.sort» ⟨[.ref a], []⟩) P E s := by
  have ha : a < s.heap.objs.size := Heap.lt_size ho
  have s1 := Heap.SameBut.update s.heap a (Obj.mapSeq fun _ => (#[] : Array Value))
  obtain ⟨e1, ho1⟩ : ∃ e1, (s.heap.update a (Obj.mapSeq fun _ => (#[] : Array Value))).get? a = some (seqObj "list" #[] e1) := ⟨_, get?_update_seq ho fun _ => #[]⟩
  have ho3 : (((s.heap.update a (Obj.mapSeq fun _ => (#[] : Array Value))).push (seqObj "tuple" vs.toArray 0)).push (seqObj "list" #[] 0)).get? a = some (seqObj "list" #[] e1) := Heap.get?_push_of_some _ (Heap.get?_push_of_some _ ho1)
  have kp : ∀ b o, b ≠ a → s.heap.get? b = some o → (((s.heap.update a (Obj.mapSeq fun _ => (#[] : Array Value))).push (seqObj "tuple" vs.toArray 0)).push (seqObj "list" #[] 0)).get? b = some o := fun b o ne e =>
    Heap.get?_push_of_some _ (Heap.get?_push_of_some _ ((s1.2 b ne).trans e))
  rw [list_sort_plain]
  refine wpAny_bind (listItems_at ho rfl ?_)
  refine wpAny_bind (listUpdate_at ho rfl ?_ (by rw [List.size_toArray, sizeLine_eq]; omega) (Nat.zero_le _))
  refine wpAny_bind (seqEpoch_at ho1 rfl ?_)
  refine wpAny_bind (wpAny_newTuple ?_ (by show vs.length ≤ _; rw [sizeLine_eq]; omega))
  refine wpAny_bind (wpAny_newList ?_ (Nat.zero_le _))
  refine wpAny_holding ?_
  show wpAny (model prog w) A _ P E { s with heap := ((s.heap.update a (Obj.mapSeq fun _ => (#[] : Array Value))).push (seqObj "tuple" vs.toArray 0)).push (seqObj "list" #[] 0) }
  dsimp only
  have hn2 : ¬ vs.toArray.size < 2 := by rw [List.size_toArray]; omega
  rw [if_neg hn2, if_neg hn2]
  refine wpAny_bind (hk _ kp _ _ ?_)
  refine wpAny_bind (wpAny_mono (kat_run (Q := fun st' s' => s' = { s with heap := ((s.heap.update a (Obj.mapSeq fun _ => (#[] : Array Value))).push (seqObj "tuple" vs.toArray 0)).push (seqObj "list" #[] 0) } ∧ arrOf st' = p.toArray.map (kas_item (vs.toArray.zip vs.toArray)) ∧ failedOf st' = none)
    (G := fun q s' => q = p.toArray ∧ s' = { s with heap := ((s.heap.update a (Obj.mapSeq fun _ => (#[] : Array Value))).push (seqObj "tuple" vs.toArray 0)).push (seqObj "list" #[] 0) })
    rfl h2 h64 (fun p' st' s' a1 a2 a3 a4 => ⟨a4.2, a4.1 ▸ a2, a3⟩) (hr _ kp _ ⟨rfl, rfl⟩)) ?_ fun _ _ e => e)
  rintro ⟨⟨⟩, st'⟩ s' ⟨rfl, har, hf⟩
  dsimp only
  have hout := kat_snds (ks := vs) rfl har
  have hsz : (List.toArray (p.map fun i => vs.getD i Value.none)).size = vs.length := by rw [List.size_toArray, List.length_map, hp]
  rw [hout]
  have s2 := Heap.SameBut.update (((s.heap.update a (Obj.mapSeq fun _ => (#[] : Array Value))).push (seqObj "tuple" vs.toArray 0)).push (seqObj "list" #[] 0)) a (Obj.mapSeq fun _ => List.toArray (p.map fun i => vs.getD i Value.none))
  refine wpAny_bind (seqEpoch_at ho3 rfl ?_)
  refine wpAny_bind (listUpdate_at ho3 rfl ?_ (Nat.zero_le _) (Nat.le_trans (Nat.le_of_eq hsz) (by rw [sizeLine_eq]; omega)))
  rw [hf]
  simp only [bne_self_eq_false, Bool.false_eq_true, if_false]
  exact wpAny_pure (fin _ _ (fun b o ne e => (s2.2 b ne).trans (kp b o ne e)) (get?_update_seq ho3 fun _ => List.toArray (p.map fun i => vs.getD i Value.none)))
theorem list_sort_one {a : Addr} {n : Nat} {v : Value} {P : PySem.Fin → Shared → Prop} (ho : s.heap.get? a = some (seqObj "list" #[v] n))
    (fin : ∀ h' c, (∀ b o, b ≠ a → s.heap.get? b = some o → h'.get? b = some o) → h'.get? a = some (seqObj "list" #[v] c) → P (.done (.ret .none)) { s with heap := h' }) :
    wpAny (model prog w) A (Builtin.«list.sort» ⟨[.ref a], []⟩) P E s := by
  have s1 := Heap.SameBut.update s.heap a (Obj.mapSeq fun _ => (#[] : Array Value))
  obtain ⟨e1, ho1⟩ : ∃ e1, (s.heap.update a (Obj.mapSeq fun _ => (#[] : Array Value))).get? a = some (seqObj "list" #[] e1) := ⟨_, get?_update_seq ho fun _ => #[]⟩
  have ho3 : (((s.heap.update a (Obj.mapSeq fun _ => (#[] : Array Value))).push (seqObj "tuple" #[v] 0)).push (seqObj "list" #[] 0)).get? a = some (seqObj "list" #[] e1) := Heap.get?_push_of_some _ (Heap.get?_push_of_some _ ho1)
  have kp : ∀ b o, b ≠ a → s.heap.get? b = some o → (((s.heap.update a (Obj.mapSeq fun _ => (#[] : Array Value))).push (seqObj "tuple" #[v] 0)).push (seqObj "list" #[] 0)).get? b = some o := fun b o ne e =>
    Heap.get?_push_of_some _ (Heap.get?_push_of_some _ ((s1.2 b ne).trans e))
  rw [list_sort_plain]
  refine wpAny_bind (listItems_at ho rfl ?_)
  refine wpAny_bind (listUpdate_at ho rfl ?_ (by rw [sizeLine_eq]; show 1 ≤ 16777216 + 0; omega) (Nat.zero_le _))
  refine wpAny_bind (seqEpoch_at ho1 rfl ?_)
  refine wpAny_bind (wpAny_newTuple ?_ (by show 1 ≤ _; rw [sizeLine_eq]; omega))
  refine wpAny_bind (wpAny_newList ?_ (Nat.zero_le _))
  refine wpAny_holding ?_
  show wpAny (model prog w) A _ P E { s with heap := ((s.heap.update a (Obj.mapSeq fun _ => (#[] : Array Value))).push (seqObj "tuple" #[v] 0)).push (seqObj "list" #[] 0) }
  dsimp only
  have hn2 : (#[v] : Array Value).size < 2 := Nat.lt_succ_self 1
  rw [if_pos hn2, if_pos hn2]
  refine wpAny_bind (wpAny_pure ?_)
  refine wpAny_bind (wpAny_pure ?_)
  dsimp only
  have s2 := Heap.SameBut.update (((s.heap.update a (Obj.mapSeq fun _ => (#[] : Array Value))).push (seqObj "tuple" #[v] 0)).push (seqObj "list" #[] 0)) a (Obj.mapSeq fun _ => #[v])
  refine wpAny_bind (seqEpoch_at ho3 rfl ?_)
  have hout : (arrOf (SortSt.mk' general' ((#[v] : Array Value).zip #[v]) #[] 7 none)).map (·.2) = #[v] := by
    show ((#[v] : Array Value).zip #[v]).map (·.2) = #[v]
    simp
  rw [hout]
  refine wpAny_bind (listUpdate_at ho3 rfl ?_ (Nat.zero_le _) (by rw [sizeLine_eq]; exact Nat.le_of_lt (by show 1 < _; omega)))
  simp only [bne_self_eq_false, Bool.false_eq_true, if_false]
  exact wpAny_pure (fin _ _ (fun b o ne e => (s2.2 b ne).trans (kp b o ne e)) (get?_update_seq ho3 fun _ => #[v]))
theorem collect_tup {l : Addr} {vs : List Value} {Q : List Value → Shared → Prop} (hl : s.heap.IsTuple l vs.toArray)
    (h : Q vs { s with heap := (s.heap.push (seqObj "list" #[] 0)).update s.heap.objs.size (Obj.mapSeq (· ++ vs.toArray)) }) (hsz : vs.length ≤ sizeLine) :
    wpAny (model prog w) A (collect (.ref l)) Q E s := by
  obtain ⟨o, ho, hc, n, hd⟩ := id hl
  unfold collect
  refine wpAny_bind (wpAny_runValue (codeAny_builtin entry_proto_collect' ?_))
  show wpAny _ _ (do again (.builtin "list.__iadd__" ⟨[← newList [], .ref l], []⟩)) _ _ s
  refine wpAny_bind (wpAny_newList (wpAny_pure ⟨Code.quiet_builtin _ (by decide +kernel), codeAny_builtin entry_list_iadd' ?_⟩))
  show wpAny _ _ (Builtin.List.listExtendWith (.ref s.heap.objs.size) (.ref l) (.ref s.heap.objs.size)) _ _ { s with heap := s.heap.push (seqObj "list" #[] 0) }
  unfold Builtin.List.listExtendWith
  have ho' : (s.heap.push (seqObj "list" #[] 0)).get? l = some o := Heap.get?_push_of_some _ ho
  refine wpAny_bind (wpAny_typeOf (T := "tuple") ⟨o, ho', hc⟩ ?_)
  have ht : (Value.type "tuple" == Value.type "tuple") = true := by rfl
  rw [if_pos (by rw [ht]; simp)]
  refine wpAny_bind (listItems_at ho' hd ?_)
  refine wpAny_bind (listItems_at (xs := #[]) (n := 0) (Heap.get?_push_size _ rfl) rfl ?_)
  rw [if_neg (by simp)]
  refine wpAny_bind (listUpdate_at (xs := #[]) (n := 0) (Heap.get?_push_size _ rfl) rfl ?_ (Nat.zero_le _) (by show (#[] ++ vs.toArray).size ≤ sizeLine + 1; simp only [Array.size_append, List.size_toArray, List.length_nil]; omega))
  refine wpAny_pure ?_
  show wpAny (model prog w) A (do
      let o ← load s.heap.objs.size
      match o.data with
      | .seq xs _ => pure xs.toList
      | _ => unsupported "internal:collect") Q E { s with heap := (s.heap.push (seqObj "list" #[] 0)).update s.heap.objs.size (Obj.mapSeq (· ++ vs.toArray)) }
  refine wpAny_bind (wpAny_load (get?_update_seq (Heap.get?_push_size _ rfl) _) ?_)
  show wpAny _ _ (pure ((#[] : Array Value) ++ vs.toArray).toList) Q E _
  rw [show ((#[] : Array Value) ++ vs.toArray).toList = vs by simp]
  exact wpAny_pure h
theorem sorted_tupC {l : Addr} {vs : List Value} {Q : Value → Shared → Prop} (hl : s.heap.IsTuple l vs.toArray) (hz : vs.length < 64)
    (body : ∀ h' D, (∀ b o, s.heap.get? b = some o → b ≠ D ∧ h'.get? b = some o) → h'.get? D = some (seqObj "list" vs.toArray 0) → s.heap.objs.size ≤ D →
      wpAny (model prog w) A.in1.in1 (Builtin.«list.sort» ⟨[.ref D], []⟩) (fun f s' => f = .done (.ret .none) ∧ Q (.ref D) s') (fun _ _ => False) { s with heap := h' }) :
    wpAny (model prog w) A (call (.builtin "sorted") [.ref l]) Q E s := by
  refine Calls.call_function_entry kind_sorted plain_sorted entry_sorted (args_sorted1 _) ?_
  unfold Builtin.«sorted»
  refine wpAny_bind (m := checkCount "sorted" 1 1 _) (wpAny_pure ?_)
  refine wpAny_bind (collect_tup hl ?_ (by rw [sizeLine_eq]; omega))
  refine wpAny_bind (wpAny_newList ?_ (by rw [sizeLine_eq]; omega))
  have hsz : ((s.heap.push (seqObj "list" #[] 0)).update s.heap.objs.size (Obj.mapSeq (· ++ vs.toArray))).objs.size = s.heap.objs.size + 1 := by
    rw [Heap.size_update, size_push']
  have hoL : (((s.heap.push (seqObj "list" #[] 0)).update s.heap.objs.size (Obj.mapSeq (· ++ vs.toArray))).push (seqObj "list" vs.toArray 0)).get? (s.heap.objs.size + 1) = some (seqObj "list" vs.toArray 0) := by
    rw [← hsz]; exact Heap.get?_push_size _ rfl
  have keep : ∀ b o, s.heap.get? b = some o → b ≠ s.heap.objs.size + 1 ∧ (((s.heap.push (seqObj "list" #[] 0)).update s.heap.objs.size (Obj.mapSeq (· ++ vs.toArray))).push (seqObj "list" vs.toArray 0)).get? b = some o := fun b o q => by
    have hlt : b < s.heap.objs.size := Heap.lt_size q
    refine ⟨Nat.ne_of_lt (Nat.lt_succ_of_lt hlt), ?_⟩
    rw [Heap.get?_push_ne _ _ _ (by rw [hsz]; exact Nat.ne_of_lt (Nat.lt_succ_of_lt hlt)), Heap.get?_update_ne _ _ _ _ (Nat.ne_of_lt hlt), Heap.get?_push_ne _ _ _ (Nat.ne_of_lt hlt)]
    exact q
  show wpAny _ _ _ _ _ { s with heap := ((s.heap.push (seqObj "list" #[] 0)).update s.heap.objs.size (Obj.mapSeq (· ++ vs.toArray))).push (seqObj "list" vs.toArray 0) }
  rw [hsz]
  refine wpAny_bind (wpAny_holding (wpAny_call_entry slot_list_sort ⟨_, hoL, rfl⟩ entry_list_sort ?body (args_list_sort _)))
  case body =>
    refine wpAny_mono (body _ _ keep hoL (Nat.le_succ _)) (fun f s' hf => ?_) fun _ _ x => x.elim
    obtain ⟨rfl, q⟩ := hf
    exact ⟨_, rfl, wpAny_pure ⟨_, rfl, q⟩⟩
end
section
variable {X : Cx}
/-- the row rising by the first numbers, with one more at its end: what sorted tells -/
def insV {α : Type} (us : List α) (u : α) (k : Nat) : List α := us.take k ++ u :: us.drop k
theorem insP_map {α β : Type} (us : List α) (u : α) (k : Nat) (hk : k ≤ us.length) (d : β) (f : α → β) : (insP (us.length + 1) k).map (fun i => ((us ++ [u]).map f).getD i d) = (insV us u k).map f := by
  apply List.ext_getElem
  · simp [insP, insV]; omega
  · intro i h1 h2
    simp only [insP, insV, List.getElem_map, List.getElem_append, List.getElem_cons, List.length_range, List.getElem_range, List.getElem_range', Nat.add_sub_cancel, List.length_take]
    have h3 : i < us.length + 1 := by simpa [insP, Nat.add_sub_cancel, show k + (us.length - k + 1) = us.length + 1 by omega] using h1
    by_cases c1 : i < k
    · have : i < min k us.length := by omega
      simp [c1, this, List.getD, List.getElem?_append, show i < us.length by omega]
    · have c1' : ¬ i < min k us.length := by omega
      have e : min k us.length = k := by omega
      simp only [c1, c1', dif_neg, not_false_eq_true, e]
      by_cases c2 : i - k = 0
      · simp [c2, List.getD]
      · simp only [c2, dif_neg, not_false_eq_true]
        have e2 : k + 1 * (i - k - 1) = i - 1 := by omega
        have e3 : k + (i - k - 1) = i - 1 := by omega
        simp [List.getD, e2, e3, List.getElem?_append, show i - 1 < us.length by omega]
theorem vals_cons {x : V} {xs : List V} {its : List Value} (r : Vals (x :: xs) its) : ∃ v its', its = v :: its' ∧ RelV x v ∧ Vals xs its' := by
  cases r with
  | cons a b => exact ⟨_, _, rfl, a, b⟩
theorem vals_ins {us : List V} {u : V} {its : List Value} {k : Nat} (r : Vals (us ++ [u]) its) (hk : k ≤ us.length) : Vals (insV us u k) ((insP (us.length + 1) k).map fun i => its.getD i Value.none) := by
  have r1 := r.take us.length
  have r2 := r.drop us.length
  rw [List.take_left'  rfl] at r1
  rw [List.drop_left' rfl] at r2
  obtain ⟨v, _, e, rv, rn⟩ := vals_cons r2
  cases rn
  have e2 : its = its.take us.length ++ [v] := by rw [← e, List.take_append_drop]
  have l1 := r1.length
  generalize its.take us.length = js at e2 r1 l1
  subst e2
  have e3 := insP_map js v k (by omega) Value.none id
  rw [List.map_id, List.map_id] at e3
  rw [l1, e3]
  exact (r1.take k).append (.cons rv (r1.drop k))
/-- what stands first in a tuple -/
noncomputable def firstV (h : Heap) (v : Value) : Value := match v with
  | .ref a => match h.get? a with
    | some o => match o.data with
      | .seq xs _ => (xs[0]?).getD .none
      | _ => .none
    | none => .none
  | _ => .none
theorem firstV_is {h : Heap} {a : Addr} {o : Obj} {v : Value} {r : List Value} {n : Nat} (h1 : h.get? a = some o) (h2 : o.data = .seq (List.toArray (v :: r)) n) : firstV h (.ref a) = v := by
  unfold firstV
  simp only [h1, h2]
  rfl
theorem katTups_of {h : Heap} : ∀ {its : List Value}, (∀ v ∈ its, ∃ t o xs n, v = .ref t ∧ h.get? t = some o ∧ o.cls = .type "tuple" ∧ o.data = .seq (List.toArray xs) n ∧ ∃ (v1 : Value) (r : List Value), xs = v1 :: r) → KatTups h its (its.map fun v => firstV h v)
  | [], _ => KatTups.nil
  | v :: r, hv => by
    obtain ⟨t, o, xs, n, rfl, h1, h2, h3, v1, r', rfl⟩ := hv _ (.head _)
    rw [List.map_cons, firstV_is h1 h3]
    exact KatTups.cons h1 h2 h3 rfl (katTups_of fun v hm => hv v (.tail _ hm))
end
section
variable {X : Cx}
theorem ltP_eq (z r : Pr) : ltP z r = if z.1 = r.1 then decide (z.2 < r.2) else decide (z.1 < r.1) := by
  unfold ltP
  by_cases h : z.1 = r.1
  · rw [if_pos h]; simp [HT.lexLt, h]; omega
  · rw [if_neg h]; simp [HT.lexLt, h]
/-- two tuples of two whole numbers compared as sort does -/
theorem kat_lt2 {prog : Program} {w : World} {A : Around} {E : Value → Shared → Prop} {Q : Bool → Shared → Prop} {s : Shared} {x y : Addr} {its its2 : List Value} {z r : Pr} (hx : s.heap.IsTuple x its.toArray) (hy : s.heap.IsTuple y its2.toArray) (rx : Vals (prV z) its) (ry : Vals (prV r) its2) (q : Q (ltP z r) s) :
    wpAny (model prog w) A (keyLt' (tuples' true) (.ref x) (.ref y)) Q E s := by
  obtain ⟨ox, h1, _, n1, d1⟩ := hx
  obtain ⟨oy, h2, _, n2, d2⟩ := hy
  refine kat_lt h1 d1 h2 d2 ?_
  unfold prV at rx ry
  obtain ⟨v1, its, rfl, ra, rx⟩ := vals_cons rx
  obtain ⟨v2, its, rfl, rb, rx⟩ := vals_cons rx
  cases rx
  obtain ⟨v3, its2, rfl, rc, ry⟩ := vals_cons ry
  obtain ⟨v4, its2, rfl, rd, ry⟩ := vals_cons ry
  cases ry
  obtain ⟨t1, rfl⟩ := ra
  obtain ⟨t2, rfl⟩ := rb
  obtain ⟨t3, rfl⟩ := rc
  obtain ⟨t4, rfl⟩ := rd
  show KatLex prog w A true _ Q [(Value.int z.1 t1, Value.int r.1 t3), (Value.int z.2 t2, Value.int r.2 t4)] 0 s
  rw [ltP_eq] at q
  refine kat_cons (wpAny_eqBool_int ?_)
  by_cases h : z.1 = r.1
  · rw [if_pos h] at q
    rw [show (z.1 == r.1) = true by simpa using h]
    refine kat_yes (kat_cons (wpAny_eqBool_int ?_))
    by_cases h' : z.2 = r.2
    · rw [show (z.2 == r.2) = true by simpa using h']
      refine kat_yes (kat_nil ?_)
      rw [decide_eq_false (by omega)] at q
      exact q
    · rw [show (z.2 == r.2) = false by simpa using h']
      refine kat_no ?_
      exact kat_one _ _ (PyProof.Rows.lt_int (show PySem.W.BoolBack Q (.bool (decide (z.2 < r.2))) s from q))
  · rw [if_neg h] at q
    rw [show (z.1 == r.1) = false by simpa using h]
    exact kat_no (oneLt_int q)
theorem call_sortedP (hc : X.calm = true) : CallR X (.builtin "sorted") (fun vs H Q => ∃ p us u l z k, vs = [.ref p] ∧ H p = some (.tup (us ++ [u])) ∧ PrsAt H (us ++ [u]) (l ++ [z]) ∧ us.length ≤ 7 ∧ k ≤ us.length ∧
    (∀ i j, i < us.length + 1 → j < us.length + 1 → ltP ((l ++ [z]).getD i (0, 0)) ((l ++ [z]).getD j (0, 0)) = insLt (us.length + 1) k i j) ∧ ∀ D, H D = none → Q (.ref D) (upd H D (.lst (insV us u k)))) := by
  intro pins s σ H vs us' Q I r h
  obtain ⟨p, us, u, l, z, k, rfl, hp, pa, h7, hk, hlt, q⟩ := h
  obtain ⟨u0, rfl, rx⟩ := vals1 r
  cases rx
  obtain ⟨its, r1, p1, _⟩ := I.tuple (SqT.of hp)
  have l1 := r1.length
  rw [List.length_append, List.length_singleton] at l1
  have l2 := pa.1
  rw [List.length_append, List.length_append, List.length_singleton, List.length_singleton] at l2
  have tups : ∀ i, i < us.length + 1 → ∃ t its2, its[i]? = some (.ref t) ∧ s.heap.IsTuple t (List.toArray its2) ∧ Vals (prV ((l ++ [z]).getD i (0, 0))) its2 := fun i hi => by
    have hi2 : i < (l ++ [z]).length := by rw [List.length_append, List.length_singleton]; omega
    obtain ⟨t, e1, e2⟩ := pa.2 i (l ++ [z])[i] (by rw [List.getElem?_eq_getElem hi2])
    obtain ⟨u1, g1, q1⟩ := r1.get e1
    cases q1
    obtain ⟨its2, r2, p2, _⟩ := I.tuple (SqT.of e2)
    refine ⟨t, its2, g1, p2, ?_⟩
    rw [List.getD_eq_getElem?_getD, List.getElem?_eq_getElem hi2]
    exact r2
  have rel : ∀ k, k ≤ us.length → ∃ out, Vals (insV us u k) out ∧ out = (insP (us.length + 1) k).map (fun i => its.getD i Value.none) := fun k hk => ⟨_, vals_ins r1 hk, rfl⟩
  have done : ∀ (D : Addr) (h' : Heap) (c : Nat) (out : List Value), s.heap.objs.size ≤ D → (∀ b o, s.heap.get? b = some o → h'.get? b = some o) → Vals (insV us u k) out → h'.get? D = some (seqObj "list" (List.toArray out) c) → EP X pins σ Q (.ref D) { s with heap := h' } := fun D h' c out hD kp rv e =>
    ⟨.ref D, _, I.laid (t' := s.toks) kp hD (show ObjOk X.prog X.w _ h' _ (.lst (insV us u k)) from ⟨by
      have := rv.length
      have e2 : (insV us u k).length = us.length + 1 := by unfold insV; rw [List.length_append, List.length_cons, List.length_take, List.length_drop]; omega
      rw [e2]; exact Nat.le_of_lt (small4000 (by omega)), out, c, rv, e⟩), rfl, q _ (I.hok.fresh hD)⟩
  obtain ⟨out, ro, eo⟩ := rel k hk
  refine sorted_tupC (vs := its) p1 (by omega) fun h' D kp hD hs => ?_
  by_cases h1 : us.length = 0
  · obtain ⟨v, rfl⟩ : ∃ v, its = [v] := by
      match its, l1 with
      | [v], _ => exact ⟨v, rfl⟩
      | [], e => simp at e
      | _ :: _ :: _, e => simp at e; omega
    refine list_sort_one hD fun h2 c kp2 e => ⟨rfl, ?_⟩
    have hk0 : k = 0 := by omega
    subst hk0
    rw [h1] at eo
    have eo2 : out = [v] := by rw [eo]; rfl
    exact done D h2 c out hs (fun b o e => kp2 b o (kp b o e).1 (kp b o e).2) ro (by rw [eo2]; exact e)
  · have hn : its.length = us.length + 1 := l1.symm
    have tk : ∀ h2 : Heap, (∀ b o, b ≠ D → h'.get? b = some o → h2.get? b = some o) → ∀ i, i < us.length + 1 → ∃ t its2, its[i]? = some (.ref t) ∧ h2.IsTuple t (List.toArray its2) ∧ Vals (prV ((l ++ [z]).getD i (0, 0))) its2 := fun h2 kp2 i hi => by
      obtain ⟨t, its2, e1, ⟨o, f1, f2, f3⟩, e3⟩ := tups i hi
      exact ⟨t, its2, e1, ⟨o, kp2 t o (kp t o f1).1 (kp t o f1).2, f2, f3⟩, e3⟩
    refine list_sort_kp (p := insP (us.length + 1) k) (tuples' true) hD (by omega) (by omega) (by unfold insP; simp; omega) ?_ ?_ ?_
    · intro h2 kp2 Q' E' hq
      have kt : KatTups h2 its (its.map fun v => firstV h2 v) := katTups_of fun v hv => by
        obtain ⟨i, hi, rfl⟩ := List.mem_iff_getElem.mp hv
        obtain ⟨t, its2, e1, ⟨o, f1, f2, n, f3⟩, e3⟩ := tk h2 kp2 i (by omega)
        rw [List.getElem?_eq_getElem hi] at e1
        unfold prV at e3
        obtain ⟨v1, its2, rfl, ra, _⟩ := vals_cons e3
        exact ⟨t, o, _, n, Option.some.inj e1, f1, f2, f3, v1, its2, rfl⟩
      refine kat_kind (T := .type "int") kt (by rw [List.length_map]; omega) ?_ (by decide) hq
      intro v hv
      obtain ⟨v0, hv0, rfl⟩ := List.mem_map.mp hv
      obtain ⟨i, hi, rfl⟩ := List.mem_iff_getElem.mp hv0
      obtain ⟨t, its2, e1, ⟨o, f1, f2, n, f3⟩, e3⟩ := tk h2 kp2 i (by omega)
      rw [List.getElem?_eq_getElem hi] at e1
      rw [Option.some.inj e1]
      unfold prV at e3
      obtain ⟨v1, its2, rfl, ra, _⟩ := vals_cons e3
      obtain ⟨t1, rfl⟩ := ra
      rw [firstV_is f1 f3]
      exact .now
    · intro h2 kp2 Q' hq
      refine kasRun_wp (n := its.length) (lt := insLt (us.length + 1) k) (fun i j C hi hj hC => ?_) _ _ ?_ hq
      · unfold kas_ask
        obtain ⟨t, its2, e1, e2, e3⟩ := tk h2 kp2 i (by omega)
        obtain ⟨t', its3, g1, g2, g3⟩ := tk h2 kp2 j (by omega)
        rw [show its.getD i Value.none = .ref t by rw [List.getD_eq_getElem?_getD, e1]; rfl, show its.getD j Value.none = .ref t' by rw [List.getD_eq_getElem?_getD, g1]; rfl]
        refine kat_lt2 e2 g2 e3 g3 ?_
        rw [hlt i j (by omega) (by omega)]
        exact hC
      · rw [hn]
        exact ins_all (us.length + 1) (by omega) k (by omega) (by omega)
    · intro h2 c kp2 e
      exact ⟨rfl, done D h2 c out hs (fun b o e => kp2 b o (kp b o e).1 (kp b o e).2) ro (by rw [eo]; exact e)⟩
end
section
variable {K : PySem.W.Frag} {σ : L2.St} {H : Hp} {Q : VK}
/-- a comprehension over a tuple, by an invariant of one's own -/
theorem compH_tup {a : Addr} {xs : List V} {n : Nat} {fs : L2.St} {g : TG} {tt : TT} {te : TE} (Pv : Addr → Nat → List V → Hp → Prop) (h0 : ∀ D, H D = none → Pv D 0 [] (upd H D (.lst [])))
    (hl : ∀ D i ys H2, i ≤ xs.length → Pv D i ys H2 → SqT K H2 a xs)
    (hs : ∀ D i x ys H2, H D = none → xs[i]? = some x → Pv D i ys H2 → ∀ τ : L2.St, τ.length = n → g x (τ ++ fs) H2 fun σ1 H4 => (∃ τ' : L2.St, τ'.length = n ∧ σ1 = τ' ++ fs) ∧ tt σ1 H4 fun b H5 =>
      if b = true then te σ1 H5 fun y H6 => H6 D = some (.lst ys) ∧ ys.length < sizeLine ∧ Nx xs.length Pv D i (ys ++ [y]) (upd H6 D (.lst (ys ++ [y]))) else Nx xs.length Pv D i ys H5)
    (hd : ∀ D ys H2, H D = none → Pv D xs.length ys H2 → Q (.ref D) H2) : CompH n fs (Itt K a) g tt te Q H := by
  intro D hD
  refine ⟨fun i m ys H2 => m = xs.length - i ∧ i ≤ xs.length ∧ Pv D i ys H2, ⟨_, rfl, Nat.zero_le _, h0 D hD⟩, ?_⟩
  rintro i m ys H2 ⟨rfl, hi, p⟩
  have q := hl D i ys H2 hi p
  by_cases hlt : i < xs.length
  · refine .inr ⟨⟨xs, xs[i], q, by simp [hlt]⟩, fun x H3 y τ hτ => ?_⟩
    obtain ⟨e, y⟩ := y
    subst e
    have ex := y xs q
    exact hs D i x ys _ hD ex p τ hτ
  · have e : i = xs.length := by omega
    subst e
    exact .inl ⟨⟨xs, q, Nat.le_refl _⟩, hd D ys H2 hD p⟩
end
section
variable {X : Cx}
theorem op_eqTT (hu : X.A.units + 64 < cLine) : OpR X (compareOp .Eq) (fun x y H Q => ∃ a b us ws l, x = .ref a ∧ y = .ref b ∧ H a = some (.tup us) ∧ H b = some (.tup ws) ∧ PrsAt H us l ∧ PrsAt H ws l ∧ Q (.bl true) H) := by
  intro pins s σ H x y v u Q I rx ry h
  obtain ⟨a, b, us, ws, l, rfl, rfl, ha, hb, pu, pw, q⟩ := h
  cases rx
  cases ry
  obtain ⟨its, r1, p1, _⟩ := I.tuple (SqT.of ha)
  obtain ⟨its2, r2, p2, _⟩ := I.tuple (SqT.of hb)
  have l1 := r1.length
  have l2 := r2.length
  have m1 := pu.1
  have m2 := pw.1
  have key := SeqAt.RcAt.tuples (e := fun _ => true) (A := X.A) p1 p2 (by omega) fun j h1 h2 => by
    rw [List.size_toArray] at h1 h2
    have hj : j < l.length := by omega
    obtain ⟨t1, e1, f1⟩ := pu.2 j l[j] (by simp [hj])
    obtain ⟨t2, e2, f2⟩ := pw.2 j l[j] (by simp [hj])
    obtain ⟨u1, g1, q1⟩ := r1.get e1
    obtain ⟨u2, g2, q2⟩ := r2.get e2
    cases q1
    cases q2
    obtain ⟨_, k1⟩ := List.getElem?_eq_some_iff.mp g1
    obtain ⟨_, k2⟩ := List.getElem?_eq_some_iff.mp g2
    have z := eq_tup_same (A := X.A.in1) (by show X.A.units + 1 < cLine; omega) I (SqT.of f1) (SqT.of f2) rfl
    rw [← k1, ← k2] at z
    simpa using z
  have e3 : ((List.range (min its.toArray.size its2.toArray.size)).all (fun _ => true) && its.toArray.size == its2.toArray.size) = true := by
    rw [Bool.and_eq_true]
    exact ⟨by simp, by rw [List.size_toArray, List.size_toArray, ← l1, ← l2, m1, m2]; exact beq_self_eq_true _⟩
  rw [e3] at key
  exact key _ _ _ _ ⟨.bl true, H, I, rfl, q⟩
/-- all(a list of bools) -/
theorem call_allB (hc : X.calm = true) : CallR X (.builtin "all") (fun vs H Q => ∃ p, ∃ bs : List Bool, vs = [.ref p] ∧ H p = some (.lst (bs.map V.bl)) ∧ Q (.bl (bs.all id)) H) := by
  intro pins s σ H vs us' Q I r h
  obtain ⟨p, bs, rfl, hp, q⟩ := h
  obtain ⟨u, rfl, rx⟩ : ∃ u, us' = [u] ∧ RelV (.ref p) u := by
    cases r with
    | cons a b => cases b; exact ⟨_, rfl, a⟩
  cases rx
  obtain ⟨its, r1, p1, _⟩ := I.list (SqL.of hp)
  have l1 := r1.length
  rw [List.length_map] at l1
  have lt : p < s.heap.objs.size := by obtain ⟨_, e, _⟩ := p1.isList; exact Heap.lt_size e
  refine call_all_walk (wpAny_pyIter_list p1.isList ?_)
  refine ⟨s.heap.objs.size, [s.heap.objs.size, p], [s.heap.objs.size], its.toArray.size, fun i v => its.toArray[i]? = some v, _, fun i => bs.getD i false, rfl, Walks.list (A := X.A.in1) (I.ok.hd hc) _ p (Nat.ne_of_lt lt) its.toArray,
    ⟨⟨_, Heap.get?_push_size _ rfl, rfl, rfl⟩, p1.isList.push _⟩, ?_, ?_⟩
  · intro i v s' Q' E' hv hq
    rw [List.getElem?_toArray] at hv
    have hi : i < bs.length := by have := (List.getElem?_eq_some_iff.mp hv).1; omega
    obtain ⟨u1, g1, q1⟩ := r1.get (i := i) (x := V.bl bs[i]) (by simp [hi])
    cases q1
    rw [hv] at g1
    cases g1
    have e : bs.getD i false = bs[i] := by simp [hi]
    have hq2 : Q' (bs.getD i false) s' := hq
    rw [e] at hq2
    exact wpAny_pure hq2
  · intro h' tk kk
    have e : (List.range its.toArray.size).all (fun i => bs.getD i false) = bs.all id := by
      rw [List.size_toArray, ← l1, Bool.eq_iff_iff, List.all_eq_true, List.all_eq_true]
      constructor
      · intro h b hb
        obtain ⟨i, hi, rfl⟩ := List.mem_iff_getElem.mp hb
        have := h i (List.mem_range.mpr hi)
        simpa [hi] using this
      · intro h i hi
        have hi' := List.mem_range.mp hi
        have := h bs[i] (List.getElem_mem hi')
        simpa [hi'] using this
    rw [e]
    refine ⟨.bl _, H, ?_, rfl, q⟩
    refine I.kept (t' := tk) fun b o e => kk b o (fun z => ?_) (Heap.get?_push_of_some _ e)
    have := Heap.lt_size e
    have z' : b = s.heap.objs.size := by simpa using z
    rw [z'] at this
    exact Nat.lt_irrefl _ this
end
section
variable {X : Cx}
/-- t + u, u not empty -/
def rCatA (K : PySem.W.Frag) : R2 := fun x y H Q => ∃ a b xs ys, x = .ref a ∧ y = .ref b ∧ SqT K H a xs ∧ SqT K H b ys ∧ ys ≠ [] ∧ xs.length + ys.length ≤ sizeLine ∧
  (xs = [] → Q (.ref b) H) ∧ (xs ≠ [] → ∀ p, H p = none → Q (.ref p) (upd H p (.tup (xs ++ ys))))
theorem op_catA {K : PySem.W.Frag} (hK : X.K = K) : OpR X (binaryOp .Add) (rCatA K) := by
  subst hK
  intro pins s σ H x y v u Q I rx ry h
  obtain ⟨a, b, xs, ys, rfl, rfl, ha, hb, hy, hz, q1, q2⟩ := h
  cases rx
  cases ry
  obtain ⟨its, r1, p1, _⟩ := I.tuple ha
  obtain ⟨its2, r2, p2, _⟩ := I.tuple hb
  by_cases hx : xs = []
  · obtain ⟨⟨cls, dd, data, sl⟩, ho, hc, n, hd⟩ := id p1
    obtain ⟨⟨cls2, dd2, data2, sl2⟩, ho2, hc2, n2, hd2⟩ := id p2
    simp only at hc hd hc2 hd2
    subst hc hd hc2 hd2
    have hi : its = [] := r1.nil_iff.mpr hx
    exact concat_meets ⟨_, ho, rfl⟩ ⟨_, ho2, rfl⟩ noFill_tuple_add seq_tuple_add PySem.F.slot_tuple_add PySem.F.entry_tuple_add (PySem.F.args_tuple_add_2 _ _)
      (tuple_addW0 a b its.toArray its2.toArray n n2 dd dd2 sl sl2 (by simp [hi])) ⟨ho, ho2, ⟨.ref b, H, I, rfl, q1 hx⟩⟩
  · refine HT.cat_tup p1 p2 (fun z => hx (r1.nil_iff.mp z)) (fun z => absurd (r2.nil_iff.mp z) hy) (fun z => ?_) (by rw [← r1.length, ← r2.length]; exact hz)
    refine ⟨.ref s.heap.objs.size, _, I.laid (t' := s.toks) (o := .tup (xs ++ ys)) (fun b ob q => Heap.get?_push_of_some _ q) (Nat.le_refl _) ?_, rfl, q2 hx _ (I.hok.fresh (Nat.le_refl _))⟩
    exact ⟨by rw [List.length_append]; exact hz, _, r1.append r2, IsTup.new _ _⟩
end
end Stow
namespace Stow
open PySem L2 PyProof.Rows
/-! ### layouts: pieces rising, apart (numbers alone) -/
def LayR : Int → Int → List Pr → Prop
  | lo, hi, [] => lo ≤ hi
  | lo, hi, z :: r => lo ≤ z.1 ∧ 1 ≤ z.2 ∧ LayR (z.1 + z.2) hi r
def freeB (at' sz : Int) (z : Pr) : Bool := decide (at' + sz ≤ z.1) || decide (z.1 + z.2 ≤ at')
theorem LayR.le : ∀ {lo hi : Int} {l : List Pr}, LayR lo hi l → lo ≤ hi
  | _, _, [], h => h
  | lo, hi, z :: r, ⟨h1, h2, h3⟩ => by have := LayR.le h3; omega
theorem LayR.len : ∀ {lo hi : Int} {l : List Pr}, LayR lo hi l → (l.length : Int) ≤ hi - lo
  | _, _, [], h => by have : _ ≤ _ := h; simp; omega
  | lo, hi, z :: r, ⟨h1, h2, h3⟩ => by have := LayR.len h3; rw [List.length_cons]; omega
theorem LayR.mem : ∀ {lo hi : Int} {l : List Pr}, LayR lo hi l → ∀ z ∈ l, lo ≤ z.1 ∧ 1 ≤ z.2 ∧ z.1 + z.2 ≤ hi
  | _, _, [], _, z, hz => by cases hz
  | lo, hi, y :: r, ⟨h1, h2, h3⟩, z, hz => by
    rcases List.mem_cons.mp hz with rfl | hz
    · exact ⟨h1, h2, h3.le⟩
    · have := LayR.mem h3 z hz
      omega
theorem LayR.snoc : ∀ {lo mid hi : Int} {l : List Pr} {z : Pr}, LayR lo mid l → mid ≤ z.1 → 1 ≤ z.2 → z.1 + z.2 ≤ hi → LayR lo hi (l ++ [z])
  | lo, mid, hi, [], z, h, h1, h2, h3 => ⟨by have : lo ≤ mid := h; omega, h2, h3⟩
  | lo, mid, hi, y :: r, z, ⟨g1, g2, g3⟩, h1, h2, h3 => ⟨g1, g2, LayR.snoc g3 h1 h2 h3⟩
theorem LayR.to : ∀ {lo mid hi : Int} {l : List Pr}, LayR lo mid l → mid ≤ hi → LayR lo hi l
  | lo, mid, hi, [], h, h1 => by have h : lo ≤ mid := h; exact Int.le_trans h h1
  | lo, mid, hi, y :: r, ⟨g1, g2, g3⟩, h1 => ⟨g1, g2, LayR.to g3 h1⟩
/-- where a free piece lies -/
theorem LayR.cut : ∀ {lo hi : Int} {l : List Pr} {a s : Int}, LayR lo hi l → 1 ≤ s → (∀ z ∈ l, freeB a s z = true) → ∃ X Y, l = X ++ Y ∧ (∀ z ∈ X, z.1 < a) ∧ (∀ z ∈ Y, a < z.1)
  | _, _, [], a, s, _, _, _ => ⟨[], [], rfl, (fun z h => by cases h), (fun z h => by cases h)⟩
  | lo, hi, y :: r, a, s, ⟨g1, g2, g3⟩, hs, hf => by
    by_cases h : y.1 < a
    · obtain ⟨X, Y, rfl, h1, h2⟩ := LayR.cut g3 hs fun z hz => hf z (.tail _ hz)
      refine ⟨y :: X, Y, rfl, fun z hz => ?_, h2⟩
      rcases List.mem_cons.mp hz with rfl | hz
      · exact h
      · exact h1 z hz
    · have hy := hf y (.head _)
      simp only [freeB, Bool.or_eq_true, decide_eq_true_eq] at hy
      refine ⟨[], y :: r, rfl, (fun z h => by cases h), fun z hz => ?_⟩
      rcases List.mem_cons.mp hz with rfl | hz
      · omega
      · have := g3.mem z hz
        omega
theorem LayR.rise : ∀ {lo hi : Int} {l : List Pr}, LayR lo hi l → ∀ i j, (h : i < j) → (hj : j < l.length) → (l[i]'(Nat.lt_trans h hj)).1 < l[j].1
  | lo, hi, y :: r, ⟨g1, g2, g3⟩, 0, j + 1, _, hj => by
    have hj' : j < r.length := by simpa using hj
    have := g3.mem r[j] (List.getElem_mem hj')
    show y.1 < r[j].1
    omega
  | lo, hi, y :: r, ⟨g1, g2, g3⟩, i + 1, j + 1, h, hj => LayR.rise g3 i j (by omega) (by simpa using hj)
theorem ltP_iff (z y : Pr) : ltP z y = true ↔ z.1 < y.1 ∨ (z.1 = y.1 ∧ z.2 < y.2) := by
  rw [ltP_eq]
  by_cases h : z.1 = y.1
  · rw [if_pos h, decide_eq_true_eq]; omega
  · rw [if_neg h, decide_eq_true_eq]; omega
theorem insLt_iff (n k i j : Nat) : insLt n k i j = true ↔ (i + 1 = n ∧ j + 1 ≠ n ∧ k ≤ j) ∨ (i + 1 ≠ n ∧ j + 1 = n ∧ i < k) ∨ (i + 1 ≠ n ∧ j + 1 ≠ n ∧ i < j) := by
  unfold insLt
  by_cases h1 : i + 1 = n
  · rw [if_pos h1]
    by_cases h2 : j + 1 = n
    · rw [if_pos h2]; simp only [Bool.false_eq_true, false_iff]; omega
    · rw [if_neg h2, decide_eq_true_eq]; omega
  · rw [if_neg h1]
    by_cases h2 : j + 1 = n
    · rw [if_pos h2, decide_eq_true_eq]; omega
    · rw [if_neg h2, decide_eq_true_eq]; omega
theorem lay_order {lo hi : Int} {X Y : List Pr} {z : Pr} (h : LayR lo hi (X ++ Y)) (h1 : ∀ y ∈ X, y.1 < z.1) (h2 : ∀ y ∈ Y, z.1 < y.1) :
    ∀ i j, i < (X ++ Y).length + 1 → j < (X ++ Y).length + 1 → ltP ((X ++ Y ++ [z]).getD i (0, 0)) ((X ++ Y ++ [z]).getD j (0, 0)) = insLt ((X ++ Y).length + 1) X.length i j := by
  have hat : ∀ i, (hi : i < (X ++ Y).length) → (X ++ Y ++ [z]).getD i (0, 0) = (X ++ Y)[i] := fun i hi => by
    rw [List.getD_eq_getElem?_getD, List.getElem?_append_left hi, List.getElem?_eq_getElem hi]; rfl
  have hlast : (X ++ Y ++ [z]).getD (X ++ Y).length (0, 0) = z := by rw [List.getD_eq_getElem?_getD]; simp
  have lowX : ∀ i, (hi : i < (X ++ Y).length) → i < X.length → (X ++ Y)[i].1 < z.1 := fun i hi hx => by
    rw [List.getElem_append_left hx]; exact h1 _ (List.getElem_mem _)
  have upY : ∀ i, (hi : i < (X ++ Y).length) → X.length ≤ i → z.1 < (X ++ Y)[i].1 := fun i hi hx => by
    rw [List.getElem_append_right hx]; exact h2 _ (List.getElem_mem _)
  have rise := h.rise
  obtain ⟨n, hn⟩ : ∃ n, n = (X ++ Y).length := ⟨_, rfl⟩
  rw [← hn] at hlast ⊢
  intro i j hi hj
  rw [Bool.eq_iff_iff, ltP_iff, insLt_iff]
  by_cases ei : i = n
  · subst ei
    rw [hlast]
    by_cases ej : j = i
    · subst ej
      rw [hlast]
      omega
    · rw [hat j (by omega)]
      by_cases hx : j < X.length
      · have := lowX j (by omega) hx
        omega
      · have := upY j (by omega) (by omega)
        omega
  · rw [hat i (by omega)]
    by_cases ej : j = n
    · subst ej
      rw [hlast]
      by_cases hx : i < X.length
      · have := lowX i (by omega) hx
        omega
      · have := upY i (by omega) (by omega)
        omega
    · rw [hat j (by omega)]
      rcases Nat.lt_trichotomy i j with c | c | c
      · have := rise i j c (by omega)
        omega
      · subst c
        omega
      · have := rise j i c (by omega)
        omega
theorem insV_at {α : Type} (X Y : List α) (z : α) : insV (X ++ Y) z X.length = X ++ z :: Y := by
  unfold insV
  rw [List.take_left' rfl, List.drop_left' rfl]
theorem filt_lt {X Y : List Pr} {a : Int} (h1 : ∀ y ∈ X, y.1 < a) (h2 : ∀ y ∈ Y, a < y.1) : (X ++ Y).filter (fun z => decide (z.1 < a)) = X := by
  rw [List.filter_append, List.filter_eq_self.mpr (fun z hz => by simpa using h1 z hz), List.filter_eq_nil_iff.mpr (fun z hz => by have := h2 z hz; simp; omega), List.append_nil]
theorem filt_gt {X Y : List Pr} {a : Int} (h1 : ∀ y ∈ X, y.1 < a) (h2 : ∀ y ∈ Y, a < y.1) : (X ++ Y).filter (fun z => decide (a < z.1)) = Y := by
  rw [List.filter_append, List.filter_eq_self (l := Y) |>.mpr (fun z hz => by simpa using h2 z hz), List.filter_eq_nil_iff.mpr (fun z hz => by have := h1 z hz; simp; omega), List.nil_append]
theorem filt_ne {X Y : List Pr} {a s : Int} (h1 : ∀ y ∈ X, y.1 < a) (h2 : ∀ y ∈ Y, a < y.1) : (X ++ (a, s) :: Y).filter (fun z => decide (z.1 ≠ a)) = X ++ Y := by
  rw [List.filter_append, List.filter_cons, List.filter_eq_self.mpr (fun z hz => by have := h1 z hz; simp; omega), if_neg (by simp), List.filter_eq_self.mpr (fun z hz => by have := h2 z hz; simp; omega)]
theorem PrsAt.app {H : Hp} {us us' : List V} {l l' : List Pr} (h : PrsAt H us l) (h' : PrsAt H us' l') : PrsAt H (us ++ us') (l ++ l') := ⟨by rw [List.length_append, List.length_append, h.1, h'.1], fun j z hz => by
  rcases Nat.lt_or_ge j l.length with hj | hj
  · rw [List.getElem?_append_left hj] at hz
    obtain ⟨t, e1, e2⟩ := h.2 j z hz
    exact ⟨t, by rw [List.getElem?_append_left (by rw [h.1]; exact hj)]; exact e1, e2⟩
  · rw [List.getElem?_append_right hj] at hz
    obtain ⟨t, e1, e2⟩ := h'.2 _ z hz
    exact ⟨t, by rw [List.getElem?_append_right (by rw [h.1]; exact hj), h.1]; exact e1, e2⟩⟩
theorem PrsAt.one {H : Hp} {t : Addr} {z : Pr} (h : H t = some (.tup (prV z))) : PrsAt H [.ref t] [z] := PrsAt.cons h PrsAt.nil
theorem PrsAt.take {H : Hp} {us : List V} {l : List Pr} (h : PrsAt H us l) (k : Nat) : PrsAt H (us.take k) (l.take k) := ⟨by rw [List.length_take, List.length_take, h.1], fun j z hz => by
  rw [List.getElem?_take] at hz
  by_cases c : j < k
  · rw [if_pos c] at hz
    obtain ⟨t, e1, e2⟩ := h.2 j z hz
    exact ⟨t, by rw [List.getElem?_take, if_pos c]; exact e1, e2⟩
  · rw [if_neg c] at hz; cases hz⟩
theorem PrsAt.drop {H : Hp} {us : List V} {l : List Pr} (h : PrsAt H us l) (k : Nat) : PrsAt H (us.drop k) (l.drop k) := ⟨by rw [List.length_drop, List.length_drop, h.1], fun j z hz => by
  rw [List.getElem?_drop] at hz
  obtain ⟨t, e1, e2⟩ := h.2 _ z hz
  exact ⟨t, by rw [List.getElem?_drop]; exact e1, e2⟩⟩
theorem PrsAt.ins {H : Hp} {us : List V} {l : List Pr} {t : Addr} {z : Pr} (h : PrsAt H us l) (ht : H t = some (.tup (prV z))) (k : Nat) : PrsAt H (insV us (.ref t) k) (insV l z k) := (h.take k).app (PrsAt.cons ht (h.drop k))
theorem PrsAt.get {H : Hp} {us : List V} {l : List Pr} (h : PrsAt H us l) {i : Nat} {v : V} (hv : us[i]? = some v) : ∃ u z, v = .ref u ∧ l[i]? = some z ∧ H u = some (.tup [.int z.1, .int z.2]) := by
  have hi : i < l.length := by rw [← h.1]; exact (List.getElem?_eq_some_iff.mp hv).1
  obtain ⟨u, e1, hu⟩ := h.2 i l[i] (by simp [hi])
  rw [hv] at e1
  exact ⟨u, l[i], Option.some.inj e1, by simp [hi], hu⟩
/-- a comprehension that keeps some of the pieces -/
def FilW (H : Hp) (l : List Pr) (p : Pr → Bool) (D : Addr) (i : Nat) (ys : List V) (H2 : Hp) : Prop := Same H H2 ∧ H2 D = some (.lst ys) ∧ PrsAt H2 ys ((l.take i).filter p)
theorem FilW.yes {H H2 : Hp} {l : List Pr} {p : Pr → Bool} {D u : Addr} {i : Nat} {ys : List V} {z : Pr} (h : FilW H l p D i ys H2) (hD : H D = none) (hz : l[i]? = some z) (hp : p z = true) (hu : H u = some (.tup [.int z.1, .int z.2])) : FilW H l p D (i + 1) (ys ++ [.ref u]) (upd H2 D (.lst (ys ++ [.ref u]))) := by
  obtain ⟨s, h1, h2⟩ := h
  have hu2 : H2 u = some (.tup (prV z)) := s u _ hu
  have k : ∀ t xs, H2 t = some (.tup xs) → upd H2 D (.lst (ys ++ [.ref u])) t = some (.tup xs) := fun t xs h => by
    rw [upd_ne (fun z => by rw [z, h1] at h; cases h)]
    exact h
  refine ⟨s.put hD, upd_same, ?_⟩
  rw [List.take_add_one, hz, List.filter_append]
  refine (h2.mono k).app ?_
  rw [show (Option.some z).toList = [z] from rfl, List.filter_cons, if_pos hp]
  exact PrsAt.one (k u _ hu2)
theorem FilW.no {H H2 : Hp} {l : List Pr} {p : Pr → Bool} {D : Addr} {i : Nat} {ys : List V} {z : Pr} (h : FilW H l p D i ys H2) (hz : l[i]? = some z) (hp : p z = false) : FilW H l p D (i + 1) ys H2 := by
  obtain ⟨s, h1, h2⟩ := h
  refine ⟨s, h1, ?_⟩
  rw [List.take_add_one, hz, List.filter_append, show (Option.some z).toList = [z] from rfl, List.filter_cons, if_neg (by rw [hp]; exact Bool.false_ne_true), List.filter_nil, List.append_nil]
  exact h2
theorem FilW.len {H H2 : Hp} {l : List Pr} {p : Pr → Bool} {D : Addr} {i : Nat} {ys : List V} (h : FilW H l p D i ys H2) : ys.length ≤ l.length := by
  rw [h.2.2.1]
  refine Nat.le_trans (List.length_filter_le _ _) ?_
  rw [List.length_take]
  omega
theorem FilW.all {H H2 : Hp} {l : List Pr} {p : Pr → Bool} {D : Addr} {n : Nat} {ys : List V} (h : FilW H l p D n ys H2) (hn : n = l.length) : PrsAt H2 ys (l.filter p) := by
  have := h.2.2
  rw [List.take_of_length_le (by omega)] at this
  exact this
theorem due_eq (c s : Int) (P : Int → Bool) (h1 : 1 ≤ c) (h2 : 1 ≤ s) : (((List.range c.toNat).map fun (i : Nat) => (i : Int)).filter fun x => decide (x + s ≤ c) && P x) = (((List.range (c - s + 1).toNat).map fun (i : Nat) => (i : Int)).filter P) := by
  obtain ⟨d, hd⟩ : ∃ d, c.toNat = (c - s + 1).toNat + d := ⟨c.toNat - (c - s + 1).toNat, by omega⟩
  rw [hd, List.range_add, List.map_append, List.filter_append]
  have e1 : (((List.range (c - s + 1).toNat).map fun (i : Nat) => (i : Int)).filter fun x => decide (x + s ≤ c) && P x) = (((List.range (c - s + 1).toNat).map fun (i : Nat) => (i : Int)).filter P) := by
    refine List.filter_congr fun x hx => ?_
    obtain ⟨i, hi, rfl⟩ := List.mem_map.mp hx
    have := List.mem_range.mp hi
    rw [decide_eq_true (by omega), Bool.true_and]
  have e2 : (((List.map (fun x => (c - s + 1).toNat + x) (List.range d)).map fun (i : Nat) => (i : Int)).filter fun x => decide (x + s ≤ c) && P x) = [] := by
    refine List.filter_eq_nil_iff.mpr fun x hx => ?_
    rw [List.map_map] at hx
    obtain ⟨i, hi, rfl⟩ := List.mem_map.mp hx
    have := List.mem_range.mp hi
    simp only [Function.comp]
    rw [decide_eq_false (by omega), Bool.false_and]
    exact Bool.false_ne_true
  rw [e1, e2, List.append_nil]
end Stow

local macro_rules
  | `(tactic| walk_at "set") => `(tactic| first
    | exact Stow.set0_c
    | exact Stow.set0_1
    | exact Stow.set0_0
    | ((refine Stow.setS_c (r := ?r) ?h); (case h => walk_at "set"))
    | ((refine Stow.setS_1 (r := ?r) ?h); (case h => walk_at "set"))
    | ((refine Stow.setS_0 (r := ?r) ?h); (case h => walk_at "set")))
local macro_rules
  | `(tactic| walk_at "look") => `(tactic| first
    | with_reducible assumption
    | exact L2.upd_same
    | ((with_reducible refine Stow.look_ne ?a ?b); (case a => (first | assumption | exact Ne.symm (by assumption))); (case b => walk_at "look"))
    | ((with_reducible refine Stow.look_put ?a ?b); (case a => (first | assumption | walk_at "look")); (case b => walk_at "look"))
    | ((with_reducible refine Stow.look_tup (ys := ?ys) ?a ?b); (case a => walk_at "look"); (case b => walk_at "look"))
    | assumption)
local macro_rules
  | `(tactic| walk_at "seq") => `(tactic| first
    | with_reducible assumption
    | exact L2.SqL.of (by walk_at "look")
    | ((with_reducible refine Stow.seq_put ?a ?b); (case a => assumption); (case b => walk_at "seq"))
    | assumption)
local macro_rules
  | `(tactic| walk_at "num") => `(tactic| first | assumption | omega | (simp only [List.length_map, List.length_set, List.length_append, List.length_cons, List.length_nil] <;> omega))
local macro_rules
  | `(tactic| walk_at "size") => `(tactic| first | exact Stow.small4000 (by first | omega | (simp only [List.length_map, List.length_set, List.length_append, List.length_cons, List.length_nil] <;> omega)))
local macro_rules
  | `(tactic| walk_at "side") => `(tactic| first
    | (show (0 : Int) < _; first | decide | omega)
    | (show (0 : Int) ≤ _; first | decide | omega)
    | exact Or.inr ⟨by decide, by decide⟩
    | exact Or.inl ⟨by decide, by decide⟩
    | exact ⟨by decide, by decide⟩
    | exact ⟨by decide, by decide, by decide⟩
    | exact ⟨by decide, by decide, by assumption⟩
    | exact ⟨by decide, by decide, by omega⟩
    | exact ⟨by omega, by omega, by decide⟩
    | exact Or.inr ⟨by omega, by omega⟩
    | exact Or.inl ⟨by omega, by omega⟩
    | exact ⟨by omega, by omega⟩)
local macro_rules
  | `(tactic| walk_at "ty") => `(tactic| first | exact L2.TyOf.int _ | exact L2.TyOf.bl _ | exact L2.TyOf.non | ((refine L2.TyOf.lst (xs := ?xs) ?h); (case h => walk_at "look")) | ((refine L2.TyOf.tup (xs := ?xs) ?h); (case h => walk_at "look")) | exact L2.TyOf.str _)
local macro_rules
  | `(tactic| walk_at "kit") => `(tactic| first | exact Stow.kit_ii | exact Stow.kit_ib | exact Stow.kit_bb | exact Stow.kit_ll | exact Stow.kit_tt)
local macro_rules
  | `(tactic| walk_at "sp") => `(tactic| fail "no promise")
local macro_rules
  | `(tactic| walk_at "st") => `(tactic| first
    | ((with_reducible refine Stow.r_var (v := ?v) ?e ?_); (case e => exact rfl))
    | (with_reducible refine Stow.r_seq ?_)
    | (with_reducible refine Stow.r_nx ?_)
    | (with_reducible refine Stow.r_asg ?_)
    | ((with_reducible refine Stow.r_gnameN (σ' := ?s) ?e ?_); (case e => with_reducible (walk_at "set")))
    | (with_reducible refine Stow.r_gname ?_)
    | (with_reducible refine Stow.r_op ?_)
    | (with_reducible refine Stow.r_cons ?_)
    | (with_reducible refine Stow.r_nil ?_)
    | (with_reducible refine Stow.r_c ?_)
    | (with_reducible refine Stow.r_rI0 ?_)
    | (with_reducible refine Stow.r_call ?_)
    | (with_reducible refine Stow.r_cb ?_)
    | (with_reducible refine Stow.r_test ?_)
    | (with_reducible refine Stow.r_tB ?_)
    | (with_reducible refine Stow.r_bl ?_)
    | (with_reducible refine Stow.r_ifS ?_)
    | (with_reducible refine Stow.r_ret ?_)
    | (with_reducible refine Stow.r_rt ?_)
    | (with_reducible refine Stow.r_drop ?_)
    | (with_reducible refine Stow.r_next ?_)
    | (with_reducible refine Stow.r_not ?_)
    | (with_reducible refine Stow.r_and ?_)
    | (with_reducible refine Stow.r_or ?_)
    | (with_reducible refine Stow.r_andV ?_)
    | (with_reducible refine Stow.r_orV ?_)
    | (with_reducible refine Stow.r_notV ?_)
    | (with_reducible refine Stow.r_ifE ?_)
    | (with_reducible refine Stow.r_ifN ?_)
    | (with_reducible refine Stow.r_eqI ?_)
    | (with_reducible refine Stow.r_neI ?_)
    | (with_reducible refine Stow.r_isN ?_)
    | (with_reducible refine Stow.r_int ?_)
    | (with_reducible refine Stow.r_eqB ?_)
    | (with_reducible refine Stow.r_neB ?_)
    | (with_reducible refine Stow.r_tup ?_)
    | (with_reducible refine Stow.r_lst ?_)
    | (with_reducible refine Stow.r_bm ?_)
    | (with_reducible refine Stow.r_bm0 ?_)
    | (with_reducible refine Stow.r_sl ?_)
    | (with_reducible refine Stow.r_part ?_)
    | (with_reducible refine Stow.r_nopart ?_)
    | (with_reducible refine Stow.r_un ?_)
    | (with_reducible refine Stow.r_rU ?_)
    | (with_reducible refine Stow.r_intB ?_)
    | (with_reducible refine Stow.r_intI ?_)
    | (with_reducible refine Stow.r_truB ?_)
    | (with_reducible refine Stow.r_gsub ?_)
    | (with_reducible refine Stow.r_retN ?_)
    | (with_reducible refine Stow.r_ct ?_)
    | (with_reducible refine Stow.r_bk ?_)
    | (with_reducible refine Stow.r_break ?_)
    | (with_reducible refine Stow.r_cont ?_)
    | (with_reducible refine L2.iteT ?_)
    | (with_reducible refine L2.iteF ?_)
    | ((with_reducible refine Stow.r_rI ?c ?_); (case c => walk_at "side"))
    | ((with_reducible refine Stow.r_tyL (xs := ?xs) ?h ?_); (case h => walk_at "look"))
    | ((with_reducible refine Stow.r_appendI (ns := ?ns) ?h ?z ?_); (case h => walk_at "look"); (case z => walk_at "size"))
    | ((with_reducible refine Stow.r_append (xs := ?xs) ?h ?z ?_); (case h => walk_at "look"); (case z => walk_at "size"))
    | ((with_reducible refine Stow.r_gtup (xs := ?xs) ?h ?l ?_); (case h => walk_at "look"); (case l => exact rfl))
    | (with_reducible refine Stow.r_gcons ?_)
    | (with_reducible refine Stow.r_gnil ?_)
    | ((with_reducible refine Stow.r_ixI (ns := ?ns) ?h ?a ?b ?_); (case h => walk_at "seq"); (case a => walk_at "num"); (case b => walk_at "num"))
    | ((with_reducible refine Stow.r_ixT (xs := ?xs) (v := ?v) ?h ?e ?_); (case h => walk_at "look"); (case e => exact rfl))
    | ((with_reducible refine Stow.r_setI (ns := ?ns) ?h ?a ?b ?_); (case h => walk_at "look"); (case a => walk_at "num"); (case b => walk_at "num"))
    | ((with_reducible refine Stow.r_sllG (ns := ?ns) ?h ?_); (case h => walk_at "seq"))
    | ((with_reducible refine Stow.r_sll (xs := ?xs) ?h ?_); (case h => walk_at "seq"))
    | ((with_reducible refine Stow.r_lenI (ns := ?ns) ?h ?_); (case h => walk_at "seq"); (try rw [List.length_map]))
    | ((with_reducible refine Stow.r_lenL (xs := ?xs) ?h ?_); (case h => walk_at "look"))
    | ((with_reducible refine Stow.r_lenT (xs := ?xs) ?h ?_); (case h => walk_at "look"))
    | ((with_reducible refine Stow.r_listI (xs := ?xs) ?h ?_); (case h => walk_at "seq"))
    | ((with_reducible refine Stow.r_isi (t := ?t) (b := ?b) ?y ?e ?_); (case y => walk_at "ty"); (case e => walk_at "kit"))
    | ((with_reducible refine Stow.r_new ?h ?_); (case h => (first | exact Nat.zero_le _ | simp)))
    | ((with_reducible refine Stow.r_truL (xs := ?xs) ?h ?_); (case h => walk_at "seq"))
    | ((with_reducible refine Stow.r_ifdT ?c ?_); (case c => (first | omega | exact rfl)))
    | ((with_reducible refine Stow.r_ifdF ?c ?_); (case c => (first | omega | (intro h; cases h; done))))
    | (with_reducible refine Stow.r_raise ?_)
    | (with_reducible refine Stow.r_raiseI ?_)
    | (with_reducible refine Stow.r_tryAs ?_)
    | (with_reducible refine Stow.r_try ?_)
    | (with_reducible refine Stow.r_fldX ?_)
    | (with_reducible refine Stow.r_for ?_)
    | (with_reducible refine Stow.r_iL ?_)
    | (with_reducible refine Stow.r_iR1 ?_)
    | (with_reducible refine Stow.r_iR2 ?_)
    | (with_reducible refine Stow.r_comp ?_)
    | ((with_reducible refine Stow.r_isiX (C := ?C) (od := ?od) (b := ?b) ?h ?z ?e ?_); (case h => walk_at "look"); (case z => assumption); (case e => assumption))
    | ((with_reducible refine Stow.r_isiN (C := ?C) (od := ?od) (b := ?b) ?h ?z ?n ?e ?_); (case h => walk_at "look"); (case z => assumption); (case n => exact fun z => nomatch z); (case e => assumption))
    | (with_reducible refine Stow.r_makeX ?_)
    | (with_reducible refine Stow.r_makeI ?_)
    | (with_reducible refine Stow.r_fldN ?_)
    | ((with_reducible refine Stow.r_catG (xs := ?xs) (zs := ?zs) ?h ?g ?z ?_); (case h => walk_at "look"); (case g => walk_at "look"); (case z => walk_at "num"))
    | ((with_reducible refine Stow.r_cat (xs := ?xs) (zs := ?zs) ?h ?g ?z ?_); (case h => walk_at "look"); (case g => walk_at "look"); (case z => (refine Nat.le_of_lt (L2.small1000 ?_); first | omega | simp)))
    | ((with_reducible refine Stow.r_slS ?h ?_); (case h => decide))
    | (with_reducible refine Stow.r_max ?_)
    | (with_reducible refine Stow.r_fld ?_)
    | ((with_reducible refine Stow.r_at (C := ?C) (dx := ?dx) (fs := ?fs) (v := ?v) ?h ?c ?n ?l ?_); (case h => walk_at "look"); (case c => assumption); (case n => assumption); (case l => exact rfl))
    | (with_reducible refine Stow.r_sfld ?_)
    | ((with_reducible refine Stow.r_sat (C := ?C) (dx := ?dx) (fs := ?fs) ?h ?c ?n ?l ?_); (case h => walk_at "look"); (case c => assumption); (case n => assumption); (case l => (first | decide | simp)))
    | (with_reducible refine Stow.r_meth ?_)
    | ((with_reducible refine Stow.r_mat (dx := ?dx) (fs := ?fs) ?h ?l ?_); (case h => walk_at "look"); (case l => exact rfl))
    | (with_reducible refine Stow.r_make ?_)
    | (with_reducible refine Stow.r_compG ?_)
    | ((with_reducible refine Stow.r_isiO (C := ?C) (dx := ?dx) (fs := ?fs) (b := ?b) ?h ?z ?e ?_); (case h => walk_at "look"); (case z => assumption); (case e => assumption))
    | (with_reducible refine Stow.r_tryE ?_)
    | (with_reducible refine Stow.r_tryA ?_)
    | (with_reducible refine Stow.r_xCall ?_)
    | (with_reducible refine Stow.r_tryS ?_)
    | (with_reducible refine Stow.r_xSet ?_)
    | (with_reducible refine Stow.r_xIf ?_)
    | (with_reducible refine Stow.r_xMeth ?_)
    | (with_reducible refine Stow.r_xMethD ?_)
    | (with_reducible refine Stow.r_xMake ?_)
    | (with_reducible refine Stow.r_methD ?_)
    | (with_reducible refine Stow.r_isB ?_)
    | ((with_reducible refine Stow.r_notIn (xs := ?xs) ?h ?f ?g ?_); (case h => walk_at "look"); (case f => exact rfl); (case g => exact rfl))
    | walk_at "sp")
local macro_rules
  | `(tactic| walk_at "go") => `(tactic| repeat walk_at "st")
local macro_rules
  | `(tactic| walk_at "len") => `(tactic| first
    | (rintro ⟨e, _⟩; exact congrArg List.length e)
    | (rintro ⟨_, e, _⟩; exact congrArg List.length e)
    | (rintro ⟨_, _, e, _⟩; exact congrArg List.length e)
    | (rintro ⟨_, _, _, e, _⟩; exact congrArg List.length e)
    | (rintro ⟨_, _, _, _, e, _⟩; exact congrArg List.length e)
    | (rintro ⟨_, _, _, _, _, e, _⟩; exact congrArg List.length e)
    | (rintro ⟨_, _, _, _, _, _, e, _⟩; exact congrArg List.length e)
    | (rintro ⟨_, _, _, _, _, _, _, e, _⟩; exact congrArg List.length e)
    | (rintro ⟨_, _, _, _, _, _, _, _, e, _⟩; exact congrArg List.length e)
    | (rintro ⟨_, _, _, _, _, _, _, _, _, e, _⟩; exact congrArg List.length e)
    | (rintro ⟨_, _, _, _, _, _, _, _, _, _, e, _⟩; exact congrArg List.length e)
    | (rintro ⟨_, _, _, _, _, _, _, _, _, _, _, e, _⟩; exact congrArg List.length e)
    | (rintro ⟨_, _, _, _, _, _, _, _, _, _, _, _, e, _⟩; exact congrArg List.length e)
    | (rintro ⟨_, _, _, _, _, _, _, _, _, _, _, _, _, e, _⟩; exact congrArg List.length e)
    | (rintro ⟨_, _, _, _, _, _, _, _, _, _, _, _, _, _, e, _⟩; exact congrArg List.length e)
    | (rintro ⟨_, _, _, _, _, _, _, _, _, _, _, _, _, _, _, e, _⟩; exact congrArg List.length e)
    | (rintro ⟨_, _, _, _, _, _, _, _, _, _, _, _, _, _, _, _, e, _⟩; exact congrArg List.length e)
    | (rintro ⟨_, _, _, _, _, _, _, _, _, _, _, _, _, _, _, _, _, e, _⟩; exact congrArg List.length e))
local macro_rules
  | `(tactic| walk_at "gs") => `(tactic| repeat (first | (with_reducible refine Stow.r_nx ?_) | ((fail_if_success (with_reducible refine Stow.r_isIf ?_)); walk_at "st")))
local macro_rules
  | `(tactic| walk_at "ga") => `(tactic| repeat ((fail_if_success (with_reducible refine Stow.r_isAnd ?_)); (fail_if_success (with_reducible refine Stow.r_isOr ?_)); walk_at "st"))
local macro_rules
  | `(tactic| walk_at "ge") => `(tactic| repeat (first | (with_reducible refine Stow.r_nx ?_) | ((fail_if_success (with_reducible refine Stow.r_isSeq ?_)); walk_at "st")))
local macro_rules
  | `(tactic| walk_at "g1") => `(tactic| ((with_reducible refine Stow.r_seq ?_); walk_at "ge"))

local macro_rules
  | `(tactic| walk_at "sp") => `(tactic| first
    | (with_reducible refine Stow.i_long ?_)
    | (with_reducible refine Stow.i_live ?_)
    | (with_reducible refine Stow.i_whole ?_)
    | ((with_reducible refine Stow.i_cell (ns := ?ns) ?h ?a ?_); (case h => walk_at "seq"); (case a => walk_at "nn"))
    | ((with_reducible refine Stow.i_can (ns := ?ns) ?h ?a ?b ?_); (case h => walk_at "seq"); (case a => walk_at "num"); (case b => walk_at "num"))
    | ((with_reducible refine Stow.i_bad (ns := ?ns) ?h ?a ?b ?_); (case h => walk_at "seq"); (case a => walk_at "num"); (case b => walk_at "num")))
local macro_rules
  | `(tactic| walk_at "nn") => `(tactic| first | decide | omega | exact Int.emod_nonneg _ (by decide) | exact Int.emod_nonneg _ (by omega))

namespace Stow
open PySem L2 PyProof.Rows
def top (i : Nat) : Stmt := PySem.Challenge.pw_stow_k64_a_piece_more_or_less.main.body.getD i (.Pass ⟨0, 0, 0, 0⟩)
abbrev s_lies_free : Stmt := top 1
theorem sc_lies_free : FnScope ["layout", "at", "size"] ["layout", "at", "size"] (defScope s_lies_free) := ⟨rfl, rfl, rfl, by decide +kernel, rfl, by decide +kernel, by decide +kernel⟩
theorem bi_lies_free (kV doc pm : Value) (an : Option Addr) (cdv ct : Value) (us : List Value) (hl : us.length = ["layout", "at", "size"].length) : bindArgs (PySem.W.fnOf "lies_free" "lies_free" (defArgs s_lies_free) (defBody s_lies_free) (defScope s_lies_free) .none kV doc pm an cdv ct) ⟨us, []⟩ = pure ((["layout", "at", "size"] : List Str).zip us) := match us, hl with | [_, _, _], _ => rfl
abbrev s_free_places : Stmt := top 2
theorem sc_free_places : FnScope ["cells", "layout", "size"] ["cells", "layout", "size"] (defScope s_free_places) := ⟨rfl, rfl, rfl, by decide +kernel, rfl, by decide +kernel, by decide +kernel⟩
theorem bi_free_places (kV doc pm : Value) (an : Option Addr) (cdv ct : Value) (us : List Value) (hl : us.length = ["cells", "layout", "size"].length) : bindArgs (PySem.W.fnOf "free_places" "free_places" (defArgs s_free_places) (defBody s_free_places) (defScope s_free_places) .none kV doc pm an cdv ct) ⟨us, []⟩ = pure ((["cells", "layout", "size"] : List Str).zip us) := match us, hl with | [_, _, _], _ => rfl
abbrev s_with_piece : Stmt := top 3
theorem sc_with_piece : FnScope ["layout", "at", "long"] ["layout", "at", "long"] (defScope s_with_piece) := ⟨rfl, rfl, rfl, by decide +kernel, rfl, by decide +kernel, by decide +kernel⟩
theorem bi_with_piece (kV doc pm : Value) (an : Option Addr) (cdv ct : Value) (us : List Value) (hl : us.length = ["layout", "at", "long"].length) : bindArgs (PySem.W.fnOf "with_piece" "with_piece" (defArgs s_with_piece) (defBody s_with_piece) (defScope s_with_piece) .none kV doc pm an cdv ct) ⟨us, []⟩ = pure ((["layout", "at", "long"] : List Str).zip us) := match us, hl with | [_, _, _], _ => rfl
abbrev s_without_piece : Stmt := top 4
theorem sc_without_piece : FnScope ["layout", "at"] ["layout", "at"] (defScope s_without_piece) := ⟨rfl, rfl, rfl, by decide +kernel, rfl, by decide +kernel, by decide +kernel⟩
theorem bi_without_piece (kV doc pm : Value) (an : Option Addr) (cdv ct : Value) (us : List Value) (hl : us.length = ["layout", "at"].length) : bindArgs (PySem.W.fnOf "without_piece" "without_piece" (defArgs s_without_piece) (defBody s_without_piece) (defScope s_without_piece) .none kV doc pm an cdv ct) ⟨us, []⟩ = pure ((["layout", "at"] : List Str).zip us) := match us, hl with | [_, _], _ => rfl
abbrev s_L_cell_at : Stmt := top 6
theorem sc_L_cell_at : FnScope ["_law_script", "_law_k"] ["_law_script", "_law_k"] (defScope s_L_cell_at) := ⟨rfl, rfl, rfl, by decide +kernel, rfl, by decide +kernel, by decide +kernel⟩
theorem bi_L_cell_at (kV doc pm : Value) (an : Option Addr) (cdv ct : Value) (us : List Value) (hl : us.length = ["_law_script", "_law_k"].length) : bindArgs (PySem.W.fnOf "_law_cell_at" "_law_cell_at" (defArgs s_L_cell_at) (defBody s_L_cell_at) (defScope s_L_cell_at) .none kV doc pm an cdv ct) ⟨us, []⟩ = pure ((["_law_script", "_law_k"] : List Str).zip us) := match us, hl with | [_, _], _ => rfl
abbrev s_L_draw : Stmt := top 7
theorem sc_L_draw : FnScope ["_law_script", "_law_k", "_law_many"] ["_law_script", "_law_k", "_law_many"] (defScope s_L_draw) := ⟨rfl, rfl, rfl, by decide +kernel, rfl, by decide +kernel, by decide +kernel⟩
theorem bi_L_draw (kV doc pm : Value) (an : Option Addr) (cdv ct : Value) (us : List Value) (hl : us.length = ["_law_script", "_law_k", "_law_many"].length) : bindArgs (PySem.W.fnOf "_law_draw" "_law_draw" (defArgs s_L_draw) (defBody s_L_draw) (defScope s_L_draw) .none kV doc pm an cdv ct) ⟨us, []⟩ = pure ((["_law_script", "_law_k", "_law_many"] : List Str).zip us) := match us, hl with | [_, _, _], _ => rfl
abbrev s_L_whole : Stmt := top 8
theorem sc_L_whole : FnScope ["_law_found"] ["_law_found"] (defScope s_L_whole) := ⟨rfl, rfl, rfl, by decide +kernel, rfl, by decide +kernel, by decide +kernel⟩
theorem bi_L_whole (kV doc pm : Value) (an : Option Addr) (cdv ct : Value) (us : List Value) (hl : us.length = ["_law_found"].length) : bindArgs (PySem.W.fnOf "_law_whole" "_law_whole" (defArgs s_L_whole) (defBody s_L_whole) (defScope s_L_whole) .none kV doc pm an cdv ct) ⟨us, []⟩ = pure ((["_law_found"] : List Str).zip us) := match us, hl with | [_], _ => rfl
abbrev s_L_pair : Stmt := top 9
theorem sc_L_pair : FnScope ["_law_piece"] ["_law_piece"] (defScope s_L_pair) := ⟨rfl, rfl, rfl, by decide +kernel, rfl, by decide +kernel, by decide +kernel⟩
theorem bi_L_pair (kV doc pm : Value) (an : Option Addr) (cdv ct : Value) (us : List Value) (hl : us.length = ["_law_piece"].length) : bindArgs (PySem.W.fnOf "_law_pair" "_law_pair" (defArgs s_L_pair) (defBody s_L_pair) (defScope s_L_pair) .none kV doc pm an cdv ct) ⟨us, []⟩ = pure ((["_law_piece"] : List Str).zip us) := match us, hl with | [_], _ => rfl
abbrev s_L_lies_free : Stmt := top 10
theorem sc_L_lies_free : FnScope ["_law_layout_here", "_law_cells", "_law_at", "_law_size", "_law_piece"] ["_law_layout_here", "_law_cells", "_law_at", "_law_size"] (defScope s_L_lies_free) := ⟨rfl, rfl, rfl, by decide +kernel, rfl, by decide +kernel, by decide +kernel⟩
theorem bi_L_lies_free (kV doc pm : Value) (an : Option Addr) (cdv ct : Value) (us : List Value) (hl : us.length = ["_law_layout_here", "_law_cells", "_law_at", "_law_size"].length) : bindArgs (PySem.W.fnOf "_law_lies_free" "_law_lies_free" (defArgs s_L_lies_free) (defBody s_L_lies_free) (defScope s_L_lies_free) .none kV doc pm an cdv ct) ⟨us, []⟩ = pure ((["_law_layout_here", "_law_cells", "_law_at", "_law_size"] : List Str).zip us) := match us, hl with | [_, _, _, _], _ => rfl
abbrev s_L_grown : Stmt := top 11
theorem sc_L_grown : FnScope ["_law_layout_here", "_law_at", "_law_size", "_law_ahead", "_law_behind"] ["_law_layout_here", "_law_at", "_law_size"] (defScope s_L_grown) := ⟨rfl, rfl, rfl, by decide +kernel, rfl, by decide +kernel, by decide +kernel⟩
theorem bi_L_grown (kV doc pm : Value) (an : Option Addr) (cdv ct : Value) (us : List Value) (hl : us.length = ["_law_layout_here", "_law_at", "_law_size"].length) : bindArgs (PySem.W.fnOf "_law_grown" "_law_grown" (defArgs s_L_grown) (defBody s_L_grown) (defScope s_L_grown) .none kV doc pm an cdv ct) ⟨us, []⟩ = pure ((["_law_layout_here", "_law_at", "_law_size"] : List Str).zip us) := match us, hl with | [_, _, _], _ => rfl
abbrev s_L_less : Stmt := top 12
theorem sc_L_less : FnScope ["_law_layout_here", "_law_at"] ["_law_layout_here", "_law_at"] (defScope s_L_less) := ⟨rfl, rfl, rfl, by decide +kernel, rfl, by decide +kernel, by decide +kernel⟩
theorem bi_L_less (kV doc pm : Value) (an : Option Addr) (cdv ct : Value) (us : List Value) (hl : us.length = ["_law_layout_here", "_law_at"].length) : bindArgs (PySem.W.fnOf "_law_less" "_law_less" (defArgs s_L_less) (defBody s_L_less) (defScope s_L_less) .none kV doc pm an cdv ct) ⟨us, []⟩ = pure ((["_law_layout_here", "_law_at"] : List Str).zip us) := match us, hl with | [_, _], _ => rfl
abbrev s_L_layout : Stmt := top 13
theorem sc_L_layout : FnScope ["_law_script", "_law_cells", "_law_told", "_law_at", "_law_long"] ["_law_script", "_law_cells"] (defScope s_L_layout) := ⟨rfl, rfl, rfl, by decide +kernel, rfl, by decide +kernel, by decide +kernel⟩
theorem bi_L_layout (kV doc pm : Value) (an : Option Addr) (cdv ct : Value) (us : List Value) (hl : us.length = ["_law_script", "_law_cells"].length) : bindArgs (PySem.W.fnOf "_law_layout" "_law_layout" (defArgs s_L_layout) (defBody s_L_layout) (defScope s_L_layout) .none kV doc pm an cdv ct) ⟨us, []⟩ = pure ((["_law_script", "_law_cells"] : List Str).zip us) := match us, hl with | [_, _], _ => rfl
abbrev s_L_same : Stmt := top 14
theorem sc_L_same : FnScope ["_law_found", "_law_due", "_law_piece"] ["_law_found", "_law_due"] (defScope s_L_same) := ⟨rfl, rfl, rfl, by decide +kernel, rfl, by decide +kernel, by decide +kernel⟩
theorem bi_L_same (kV doc pm : Value) (an : Option Addr) (cdv ct : Value) (us : List Value) (hl : us.length = ["_law_found", "_law_due"].length) : bindArgs (PySem.W.fnOf "_law_same" "_law_same" (defArgs s_L_same) (defBody s_L_same) (defScope s_L_same) .none kV doc pm an cdv ct) ⟨us, []⟩ = pure ((["_law_found", "_law_due"] : List Str).zip us) := match us, hl with | [_, _], _ => rfl
abbrev s_law : Stmt := top 15
theorem sc_law : FnScope ["_law_script", "_law_cells", "_law_size", "_law_layout_here", "_law_due", "_law_found", "_law_at", "_law_grown_here", "_law_piece"] ["_law_script"] (defScope s_law) := ⟨rfl, rfl, rfl, by decide +kernel, rfl, by decide +kernel, by decide +kernel⟩
structure Txt (K : PySem.W.Frag) (mg : Str → Option Value) : Prop where
  n_all : mg "all" = none
  n_bool : mg "bool" = none
  n_int : mg "int" = none
  n_isinstance : mg "isinstance" = none
  n_len : mg "len" = none
  n_list : mg "list" = none
  n_min : mg "min" = none
  n_range : mg "range" = none
  n_sorted : mg "sorted" = none
  n_tuple : mg "tuple" = none
def spLFree : Sp := fun vs H Q _ => ∃ (a : Addr) (us : List V) (l : List Pr) (x s : Int), vs = [.ref a, .int x, .int s] ∧ H a = some (.tup us) ∧ PrsAt H us l ∧ l.length ≤ 60 ∧ ∀ H', Same H H' → Q (.bl (l.all (freeB x s))) H'
def LfW (H : Hp) (l : List Pr) (x s : Int) (D : Addr) (i : Nat) (ys : List V) (H2 : Hp) : Prop := Same H H2 ∧ H2 D = some (.lst ys) ∧ ys = ((l.take i).map (freeB x s)).map V.bl
theorem d_lies_free {P : Program} {w : World} {base : Heap} {K : PySem.W.Frag} {mg : Str → Option Value} (S : Src K mg "lies_free" s_lies_free) (T : Txt K mg)  : Defx P w K mg base "lies_free" 1 ["layout", "at", "size"] (spLFree) := by
  refine S.okx sc_lies_free bi_lies_free (fun vs H Q E h => by revert h; walk_at "len") (fun f cdv A outer s H vs Q E hr h => ?_)
  refine ⟨_, PSs.nox (pss_one (ps_ret (pe_callB (call_allB rfl) (by rfl) T.n_all PyProof.Rows.boot_all (pa_cons (pe_compG ["begin", "long"] ["at", "size"] [1, 2] rfl (pi_tup (pv 0)) (fun cl C s₀ H₀ ex => (pg_tupK (K := K) (n := 2) rfl rfl (pgs_cons (pg_name (i := 0) (show ((["begin", "long"] : List Str) ++ (["at", "size"] : List Str)).Nodup by decide +kernel) rfl (Or.inl rfl)) (pgs_cons (pg_name (i := 1) (show ((["begin", "long"] : List Str) ++ (["at", "size"] : List Str)).Nodup by decide +kernel) rfl (Or.inl rfl)) pgs_nil)))) (fun cl C s₀ H₀ ex => pts_nil) (fun cl C s₀ H₀ ex => (pe_or (pe_cmpR op_le (pe_op op_add (pv 2) (pv 3)) (pv 0) (nomark _)) (pe_one (pe_cmpR op_le (pe_op op_add (pv 0) (pv 1)) (pv 2) (nomark _))))) (caught_two rfl rfl rfl rfl rfl rfl) (free_two (n := "at") (m := "size") (by decide +kernel) rfl rfl) (fun y h => relabel_free (by decide +kernel) h)) pa_nil)))), ?_⟩
  obtain ⟨a, us, l, x, s, rfl, ha, pa, hl, q⟩ := h
  walk_at "go"
  refine ⟨_, rfl, a, rfl, ⟨_, SqT.of ha⟩, compH_tup (K := K) (a := a) (xs := us) (fs := [some (.int x), some (.int s)]) (LfW H l x s) (fun D hD => ⟨Same.new hD, upd_same, rfl⟩) (fun D i ys H2 _ h => SqT.of (h.1 a _ ha)) ?_ ?_⟩
  · rintro D i y ys H5 hD hi ⟨s5, hD5, hy5⟩ τ hτ
    have hil : i < l.length := by rw [← pa.1]; exact (List.getElem?_eq_some_iff.mp hi).1
    obtain ⟨u, e1, hu⟩ := pa.2 i l[i] (by simp [hil])
    rw [hi] at e1
    have e1 := Option.some.inj e1
    subst e1
    have htk : (l.take (i + 1)).map (freeB x s) = (l.take i).map (freeB x s) ++ [freeB x s l[i]] := by
      rw [List.take_add_one, List.getElem?_eq_getElem hil, List.map_append]
      rfl
    generalize l[i] = z at hu htk
    have hu5 : H5 u = some (.tup [.int z.1, .int z.2]) := s5 u _ hu
    match τ, hτ with
    | [τ0, τ1], _ =>
      walk_at "go"
      have fin : ∀ b, b = freeB x s z → H5 D = some (.lst ys) ∧ ys.length < sizeLine ∧ Nx us.length (LfW H l x s) D i (ys ++ [.bl b]) (upd H5 D (.lst (ys ++ [.bl b]))) := fun b hb => by
        have hyl : ys.length ≤ 60 := by rw [hy5, List.length_map, List.length_map, List.length_take]; omega
        refine ⟨hD5, small4000 (by omega), nx_mk (by rw [pa.1]; exact hil) ⟨s5.put hD, upd_same, ?_⟩⟩
        rw [htk, List.map_append, ← hy5, hb]
        rfl
      refine ⟨⟨[_, _], rfl, rfl⟩, ?_⟩
      walk_at "go"
      by_cases h1 : x + s ≤ z.1
      · rw [if_pos (decide_eq_true h1)]
        exact fin true (by unfold freeB; rw [decide_eq_true h1]; rfl)
      · rw [if_neg (by rw [decide_eq_false h1]; exact Bool.false_ne_true)]
        walk_at "go"
        exact fin _ (by unfold freeB; rw [decide_eq_false h1, Bool.false_or])
  · rintro D ys H5 hD ⟨s5, hD5, hy5⟩
    rw [List.take_of_length_le (by rw [pa.1]; exact Nat.le_refl _)] at hy5
    subst hy5
    walk_at "go"
    refine ⟨D, l.map (freeB x s), rfl, hD5, ?_⟩
    rw [List.all_map]
    exact q H5 s5
def spFPl : Sp := fun vs H Q _ => ∃ (a : Addr) (us : List V) (l : List Pr) (c s : Int), vs = [.int c, .ref a, .int s] ∧ H a = some (.tup us) ∧ PrsAt H us l ∧ l.length ≤ 60 ∧ 1 ≤ c ∧ c ≤ 6 ∧ 1 ≤ s ∧ s ≤ 7 ∧
  ∀ (p : Addr) (H' : Hp), H p = none → Same H H' → H' p = some (.lst ((((List.range (c - s + 1).toNat).map fun (i : Nat) => (i : Int)).filter fun x => l.all (freeB x s)).map V.int)) → Q (.ref p) H'
def FpW (H : Hp) (l : List Pr) (s : Int) (D : Addr) (i : Nat) (ys : List V) (H2 : Hp) : Prop := Same H H2 ∧ H2 D = some (.lst ys) ∧ ys = (((List.range i).map fun (i : Nat) => (i : Int)).filter fun x => l.all (freeB x s)).map V.int
theorem d_free_places {P : Program} {w : World} {base : Heap} {K : PySem.W.Frag} {mg : Str → Option Value} (S : Src K mg "free_places" s_free_places) (T : Txt K mg) (D_lies_free : Defx P w K mg base "lies_free" 1 ["layout", "at", "size"] (spLFree)) : Defx P w K mg base "free_places" 2 ["cells", "layout", "size"] (spFPl) := by
  refine S.okx sc_free_places bi_free_places (fun vs H Q E h => by revert h; walk_at "len") (fun f cdv A outer s H vs Q E hr h => ?_)
  refine ⟨_, PSs.nox (pss_one (ps_ret (pe_compG ["at"] ["layout", "size"] [1, 2] rfl (pi_range1 (by rfl) T.n_range (pa_cons (pe_op op_add (pe_op op_sub (pv 0) (pv 2)) pe_int) pa_nil)) (fun cl C s₀ H₀ ex => (pg_name (i := 0) (show ((["at"] : List Str) ++ (["layout", "size"] : List Str)).Nodup by decide +kernel) rfl (Or.inl rfl))) (fun cl C s₀ H₀ ex => (pts_one (pt_val (pe_defq D_lies_free hr (by rfl) (pa_cons (pv 1) (pa_cons (pv 0) (pa_cons (pv 2) pa_nil))))))) (fun cl C s₀ H₀ ex => (pv 0)) (caught_two rfl rfl rfl rfl rfl rfl) (free_two (n := "layout") (m := "size") (by decide +kernel) rfl rfl) (fun y h => relabel_free (by decide +kernel) h)))), ?_⟩
  obtain ⟨a, us, l, c, s, rfl, ha, pa, hl, c1, c6, s1, s7, q⟩ := h
  walk_at "go"
  refine ⟨_, rfl, by omega, by omega, compH_range (fs := [some (.ref a), some (.int s)]) (FpW H l s) (fun D hD => ⟨Same.new hD, upd_same, rfl⟩) ?_ ?_⟩
  · rintro D i ys H5 hD hi ⟨s5, hD5, hy5⟩ τ hτ
    have hyl : ys.length ≤ i := by
      rw [hy5, List.length_map]
      refine Nat.le_trans (List.length_filter_le _ _) ?_
      rw [List.length_map, List.length_range]
      exact Nat.le_refl _
    match τ, hτ with
    | [τ0], _ =>
      walk_at "go"
      refine ⟨⟨[_], rfl, rfl⟩, ?_⟩
      walk_at "go"
      refine ⟨a, us, l, 0 + (i : Int), s, rfl, s5 a _ ha, pa.mono fun t xs h => s5 t _ h, hl, fun H6 s6 => ?_⟩
      have hst : ∀ b, l.all (freeB (0 + (i : Int)) s) = b → (((List.range (i + 1)).map fun (i : Nat) => (i : Int)).filter fun x => l.all (freeB x s)).map V.int = ys ++ (if b = true then [V.int (0 + (i : Int))] else []) := fun b hb => by
        rw [Int.zero_add] at hb ⊢
        rw [List.range_succ, List.map_append, List.filter_append, List.map_append, ← hy5]
        cases b with
        | true => rw [List.map_singleton, List.filter_cons, if_pos hb]; rfl
        | false => rw [List.map_singleton, List.filter_cons, if_neg (by rw [hb]; exact Bool.false_ne_true)]; rfl
      cases hb : l.all (freeB (0 + (i : Int)) s) with
      | true =>
        have h2 := hst true hb
        rw [if_pos rfl] at h2
        walk_at "go"
        exact ⟨s6 D _ hD5, small4000 (by omega), nx_mk hi ⟨(s5.trans s6).put hD, upd_same, h2.symm⟩⟩
      | false =>
        have h2 := hst false hb
        rw [if_neg Bool.false_ne_true, List.append_nil] at h2
        walk_at "go"
        exact nx_mk hi ⟨s5.trans s6, s6 D _ hD5, h2.symm⟩
  · rintro D ys H5 hD ⟨s5, hD5, hy5⟩
    subst hy5
    walk_at "go"
    exact q D H5 hD s5 hD5
def spWith : Sp := fun vs H Q _ => ∃ (a : Addr) (us : List V) (X Y : List Pr) (x s lo hi : Int), vs = [.ref a, .int x, .int s] ∧ H a = some (.tup us) ∧ PrsAt H us (X ++ Y) ∧ LayR lo hi (X ++ Y) ∧ (∀ z ∈ X, z.1 < x) ∧ (∀ z ∈ Y, x < z.1) ∧ (X ++ Y).length ≤ 6 ∧
  ∀ (p : Addr) (ws : List V) (H' : Hp), H p = none → Same H H' → H' p = some (.tup ws) → PrsAt H' ws (X ++ (x, s) :: Y) → Q (.ref p) H'
theorem d_with_piece {P : Program} {w : World} {base : Heap} {K : PySem.W.Frag} {mg : Str → Option Value} (S : Src K mg "with_piece" s_with_piece) (T : Txt K mg)  : Defx P w K mg base "with_piece" 1 ["layout", "at", "long"] (spWith) := by
  refine S.okx sc_with_piece bi_with_piece (fun vs H Q E h => by revert h; walk_at "len") (fun f cdv A outer s H vs Q E hr h => ?_)
  refine ⟨_, PSs.nox (pss_one (ps_ret (pe_callTy call_tuple_of (by rfl) T.n_tuple PyProof.Rows.boot_tuple (pa_cons (pe_callB (call_sortedP rfl) (by rfl) T.n_sorted PyProof.Rows.boot_sorted (pa_cons (pe_op (op_catA (K := K) rfl) (pv 0) (pe_tup (pa_cons (pe_tup (pa_cons (pv 1) (pa_cons (pv 2) pa_nil))) pa_nil))) pa_nil)) pa_nil)))), ?_⟩
  obtain ⟨a, us, X, Y, x, s, lo, hi, rfl, ha, pa, hl, hX, hY, h6, q⟩ := h
  have hul : us.length ≤ 6 := by rw [pa.1]; exact h6
  walk_at "go"
  intro t1 ht1
  walk_at "go"
  intro t2 ht2
  have s2 : Same H (upd (upd H t1 (.tup [.int x, .int s])) t2 (.tup [.ref t1])) := (Same.new ht1).trans (Same.new ht2)
  have h12 : upd (upd H t1 (.tup [.int x, .int s])) t2 (.tup [.ref t1]) t1 = some (.tup (prV (x, s))) := by
    rw [upd_ne (ne_of_none upd_same ht2), upd_same]
    rfl
  have h22 : upd (upd H t1 (.tup [.int x, .int s])) t2 (.tup [.ref t1]) t2 = some (.tup [.ref t1]) := upd_same
  generalize upd (upd H t1 (.tup [.int x, .int s])) t2 (.tup [.ref t1]) = H2 at s2 h12 h22 ⊢
  refine ⟨a, t2, us, [.ref t1], rfl, rfl, SqT.of (s2 a _ ha), SqT.of h22, List.cons_ne_nil _ _, Nat.le_of_lt (small4000 (show us.length + 1 ≤ 4000 by omega)), fun he => ?_, fun hne t3 ht3 => ?_⟩
  · have h3 : H2 t2 = some (.tup (us ++ [.ref t1])) := by rw [he]; exact h22
    have s3 := s2
    have h1 := h12
    generalize H2 = H3 at s3 h3 h1 ⊢
    walk_at "go"
    refine ⟨t2, us, .ref t1, X ++ Y, (x, s), X.length, rfl, h3, (pa.mono fun t xs h => s3 t _ h).app (PrsAt.one h1), by omega, by rw [pa.1, List.length_append]; omega, by rw [pa.1]; exact lay_order hl hX hY, fun D hD => ?_⟩
    walk_at "go"
    refine ⟨D, _, rfl, .inl ⟨SqL.of upd_same, fun p hp => ?_⟩⟩
    have s4 : Same H3 (upd (upd H3 D (.lst (insV us (.ref t1) X.length))) p (.tup (insV us (.ref t1) X.length))) := (Same.new hD).trans (Same.new hp)
    have p4 := ((pa.mono fun t xs h => s3 t _ h).ins h1 X.length).mono fun t xs h => s4 t _ h
    rw [insV_at] at p4
    exact q p _ _ (s3.free ((Same.new hD).free hp)) (s3.trans s4) upd_same p4
  · have h3 : upd H2 t3 (.tup (us ++ [.ref t1])) t3 = some (.tup (us ++ [.ref t1])) := upd_same
    have s3 : Same H (upd H2 t3 (.tup (us ++ [.ref t1]))) := s2.trans (Same.new ht3)
    have h1 := (Same.new (o := .tup (us ++ [.ref t1])) ht3) t1 _ h12
    generalize upd H2 t3 (.tup (us ++ [.ref t1])) = H3 at s3 h3 h1 ⊢
    walk_at "go"
    refine ⟨t3, us, .ref t1, X ++ Y, (x, s), X.length, rfl, h3, (pa.mono fun t xs h => s3 t _ h).app (PrsAt.one h1), by omega, by rw [pa.1, List.length_append]; omega, by rw [pa.1]; exact lay_order hl hX hY, fun D hD => ?_⟩
    walk_at "go"
    refine ⟨D, _, rfl, .inl ⟨SqL.of upd_same, fun p hp => ?_⟩⟩
    have s4 : Same H3 (upd (upd H3 D (.lst (insV us (.ref t1) X.length))) p (.tup (insV us (.ref t1) X.length))) := (Same.new hD).trans (Same.new hp)
    have p4 := ((pa.mono fun t xs h => s3 t _ h).ins h1 X.length).mono fun t xs h => s4 t _ h
    rw [insV_at] at p4
    exact q p _ _ (s3.free ((Same.new hD).free hp)) (s3.trans s4) upd_same p4
def spWout : Sp := fun vs H Q _ => ∃ (a : Addr) (us : List V) (l : List Pr) (x : Int), vs = [.ref a, .int x] ∧ H a = some (.tup us) ∧ PrsAt H us l ∧ l.length ≤ 60 ∧
  ∀ (p : Addr) (ws : List V) (H' : Hp), H p = none → Same H H' → H' p = some (.tup ws) → PrsAt H' ws (l.filter fun z => decide (z.1 ≠ x)) → Q (.ref p) H'
theorem d_without_piece {P : Program} {w : World} {base : Heap} {K : PySem.W.Frag} {mg : Str → Option Value} (S : Src K mg "without_piece" s_without_piece) (T : Txt K mg)  : Defx P w K mg base "without_piece" 1 ["layout", "at"] (spWout) := by
  refine S.okx sc_without_piece bi_without_piece (fun vs H Q E h => by revert h; walk_at "len") (fun f cdv A outer s H vs Q E hr h => ?_)
  refine ⟨_, PSs.nox (pss_one (ps_ret (pe_callTy call_tuple_of (by rfl) T.n_tuple PyProof.Rows.boot_tuple (pa_cons (pe_compG ["pair"] ["at"] [1] rfl (pi_tup (pv 0)) (fun cl C s₀ H₀ ex => (pg_name (i := 0) (show ((["pair"] : List Str) ++ (["at"] : List Str)).Nodup by decide +kernel) rfl (Or.inl rfl))) (fun cl C s₀ H₀ ex => (pts_one (pt_cmpR op_ne (pe_ix (ix_tupK (K := K) rfl) (pv 0) pe_int (fun _ _ => rfl)) (pv 1) (nomark _)))) (fun cl C s₀ H₀ ex => (pv 0)) (caught_one rfl rfl rfl) (free_one (n := "at") (by decide +kernel) rfl) (fun y h => relabel_free (by decide +kernel) h)) pa_nil)))), ?_⟩
  obtain ⟨a, us, l, x, rfl, ha, pa, hl, q⟩ := h
  walk_at "go"
  refine ⟨_, rfl, a, rfl, ⟨_, SqT.of ha⟩, compH_tup (K := K) (a := a) (xs := us) (fs := [some (.int x)]) (FilW H l fun z => decide (z.1 ≠ x)) (fun D hD => ⟨Same.new hD, upd_same, PrsAt.nil⟩) (fun D i ys H2 _ h => SqT.of (h.1 a _ ha)) ?_ ?_⟩
  · rintro D i y ys H5 hD hi hW τ hτ
    obtain ⟨u, z, rfl, hz, hu⟩ := pa.get hi
    have hil : i < us.length := (List.getElem?_eq_some_iff.mp hi).1
    have hyl := hW.len
    have hu5 := hW.1 u _ hu
    match τ, hτ with
    | [τ0], _ =>
      walk_at "go"
      refine ⟨⟨[_], rfl, rfl⟩, ?_⟩
      walk_at "go"
      by_cases hc : z.1 = x
      · rw [if_pos (decide_eq_true hc)]
        exact nx_mk hil (hW.no hz (by simp [hc]))
      · rw [if_neg (by rw [decide_eq_false hc]; exact Bool.false_ne_true)]
        walk_at "go"
        exact ⟨hW.2.1, small4000 (by omega), nx_mk hil (hW.yes hD hz (by simp [hc]) hu)⟩
  · rintro D ys H5 hD hW
    have hp := hW.all pa.1
    walk_at "go"
    refine ⟨D, ys, rfl, .inl ⟨SqL.of hW.2.1, fun p np => ?_⟩⟩
    exact q p ys _ (hW.1.free np) (hW.1.trans (Same.new np)) upd_same (hp.mono fun t xs h => Same.new np t _ h)
theorem d_L_cell_at {P : Program} {w : World} {base : Heap} {K : PySem.W.Frag} {mg : Str → Option Value} (S : Src K mg "_law_cell_at" s_L_cell_at) (T : Txt K mg)  : Defx P w K mg base "_law_cell_at" 1 ["_law_script", "_law_k"] (spCell K) := by
  refine S.okx sc_L_cell_at bi_L_cell_at (fun vs H Q E h => by revert h; walk_at "len") (fun f cdv A outer s H vs Q E hr h => ?_)
  refine ⟨_, PSs.nox (pss_cons (ps_if (pt_cmpR op_lt (pv 1) (pe_callB call_len_seq (by rfl) T.n_len PySem.boot_len (pa_cons (pv 0) pa_nil)) (nomark _)) (pss_one (ps_ret (pe_ix ix_list (pv 0) (pv 1) (fun _ _ => rfl)))) pss_nil) (pss_one (ps_ret pe_int))), ?_⟩
  obtain ⟨a, ns, k, rfl, hS, h0, q⟩ := h
  walk_at "go"
  refine r_ifd (fun hc => ?_) (fun hc => ?_)
  · walk_at "go"
    exact q
  · walk_at "go"
    have e : ns.getD k.toNat 0 = 0 := by
      rw [List.getD_eq_getElem?_getD, List.getElem?_eq_none (by omega)]
      rfl
    rw [e] at q
    exact q
theorem d_L_whole {P : Program} {w : World} {base : Heap} {K : PySem.W.Frag} {mg : Str → Option Value} (S : Src K mg "_law_whole" s_L_whole) (T : Txt K mg)  : Defx P w K mg base "_law_whole" 1 ["_law_found"] (spWhole) := by
  refine S.okx sc_L_whole bi_L_whole (fun vs H Q E h => by revert h; walk_at "len") (fun f cdv A outer s H vs Q E hr h => ?_)
  refine ⟨_, PSs.nox (pss_one (ps_ret (pe_and (pe_callB call_isi (by rfl) T.n_isinstance PyProof.Rows.boot_isinstance (pa_cons (pv 0) (pa_cons (pe_bltn (v := .ty "int") (by rfl) T.n_int PyProof.Rows.boot_int rfl) pa_nil))) (pe_one (pe_not (pe_callB call_isi (by rfl) T.n_isinstance PyProof.Rows.boot_isinstance (pa_cons (pv 0) (pa_cons (pe_bltn (v := .ty "bool") (by rfl) T.n_bool PyProof.Rows.boot_bool rfl) pa_nil)))))))), ?_⟩
  obtain ⟨n, rfl, q⟩ := h
  walk_at "go"
  exact q
def spDraw (K : PySem.W.Frag) : Sp := fun vs H Q _ => ∃ (a : Addr) (ns : List Int) (k m : Int), vs = [.ref a, .int k, .int m] ∧ SqL K H a (ns.map V.int) ∧ 0 ≤ k ∧ k ≤ 1000 ∧ 1 ≤ m ∧ ∀ n : Int, 0 ≤ n → n < m → Q (.int n) H
theorem d_L_draw {P : Program} {w : World} {base : Heap} {K : PySem.W.Frag} {mg : Str → Option Value} (S : Src K mg "_law_draw" s_L_draw) (T : Txt K mg) (D_L_cell_at : Defx P w K mg base "_law_cell_at" 1 ["_law_script", "_law_k"] (spCell K)) : Defx P w K mg base "_law_draw" 2 ["_law_script", "_law_k", "_law_many"] (spDraw K) := by
  refine S.okx sc_L_draw bi_L_draw (fun vs H Q E h => by revert h; walk_at "len") (fun f cdv A outer s H vs Q E hr h => ?_)
  refine ⟨_, PSs.nox (pss_one (ps_ret (pe_op op_mod (pe_op op_mod (pe_op op_mul (pe_op op_add (pe_op op_mod (pe_defq D_L_cell_at hr (by rfl) (pa_cons (pv 0) (pa_cons (pv 1) pa_nil))) pe_int) (pe_op op_mul (pv 1) (pv 1))) pe_int) pe_int) (pv 2)))), ?_⟩
  obtain ⟨a, ns, k, m, rfl, hS, h0, hk, h1, q⟩ := h
  walk_at "go"
  exact q _ (Int.emod_nonneg _ (by omega)) (Int.emod_lt_of_pos _ (by omega))
def spPair : Sp := fun vs H Q _ => ∃ (a : Addr) (z : Pr), vs = [.ref a] ∧ H a = some (.tup (prV z)) ∧ Q (.bl true) H
theorem d_L_pair {P : Program} {w : World} {base : Heap} {K : PySem.W.Frag} {mg : Str → Option Value} (S : Src K mg "_law_pair" s_L_pair) (T : Txt K mg) (D_L_whole : Defx P w K mg base "_law_whole" 1 ["_law_found"] (spWhole)) : Defx P w K mg base "_law_pair" 2 ["_law_piece"] (spPair) := by
  refine S.okx sc_L_pair bi_L_pair (fun vs H Q E h => by revert h; walk_at "len") (fun f cdv A outer s H vs Q E hr h => ?_)
  refine ⟨_, PSs.nox (pss_cons (ps_if (PW.pt (pw_or (pt_not (pt_val (pe_callB call_isi (by rfl) T.n_isinstance PyProof.Rows.boot_isinstance (pa_cons (pv 0) (pa_cons (pe_bltn (v := .ty "tuple") (by rfl) T.n_tuple PyProof.Rows.boot_tuple rfl) pa_nil))))) (pw_or1 (pt_cmpR op_ne (pe_callB call_len_seq (by rfl) T.n_len PySem.boot_len (pa_cons (pv 0) pa_nil)) pe_int (nomark _))))) (pss_one (ps_ret pe_bl)) pss_nil) (pss_one (ps_ret (pe_and (pe_defq D_L_whole hr (by rfl) (pa_cons (pe_ix ix_tup (pv 0) pe_int (fun _ _ => rfl)) pa_nil)) (pe_one (pe_defq D_L_whole hr (by rfl) (pa_cons (pe_ix ix_tup (pv 0) pe_int (fun _ _ => rfl)) pa_nil))))))), ?_⟩
  obtain ⟨a, z, rfl, ha, q⟩ := h
  unfold prV at ha
  walk_at "go"
  exact q
def spLLf : Sp := fun vs H Q _ => ∃ (a : Addr) (us : List V) (l : List Pr) (c x s : Int), vs = [.ref a, .int c, .int x, .int s] ∧ H a = some (.tup us) ∧ PrsAt H us l ∧ 0 ≤ x ∧ Q (.bl (decide (x + s ≤ c) && l.all (freeB x s))) H
def LlW (a : Addr) (c x s : Int) (l : List Pr) (H : Hp) (i : Nat) (σ : L2.St) (H' : Hp) : Prop :=
  H = H' ∧ ∃ (x4 : Option V), σ = [some (.ref a), some (.int c), some (.int x), some (.int s), x4] ∧ l.all (freeB x s) = (l.drop i).all (freeB x s)
theorem d_L_lies_free {P : Program} {w : World} {base : Heap} {K : PySem.W.Frag} {mg : Str → Option Value} (S : Src K mg "_law_lies_free" s_L_lies_free) (T : Txt K mg)  : Defx P w K mg base "_law_lies_free" 1 ["_law_layout_here", "_law_cells", "_law_at", "_law_size"] (spLLf) := by
  refine S.okx sc_L_lies_free bi_L_lies_free (fun vs H Q E h => by revert h; walk_at "len") (fun f cdv A outer s H vs Q E hr h => ?_)
  refine ⟨_, PSs.nox (pss_cons (ps_if (PW.pt (pw_or (pt_cmpR op_lt (pv 2) pe_int (nomark _)) (pw_or1 (pt_cmpR op_gt (pe_op op_add (pv 2) (pv 3)) (pv 1) (nomark _))))) (pss_one (ps_ret pe_bl)) pss_nil) (pss_cons (ps_for PassesOwn.never rfl (pi_tup (pv 0)) (pg_name (i := 4) sc_L_lies_free.nd rfl (Or.inl rfl)) (pss_one (ps_if (PW.pt (pw_and (pt_cmpR op_lt (pv 2) (pe_op op_add (pe_ix ix_tup (pv 4) pe_int (fun _ _ => rfl)) (pe_ix ix_tup (pv 4) pe_int (fun _ _ => rfl))) (nomark _)) (pw_and1 (pt_cmpR op_lt (pe_ix ix_tup (pv 4) pe_int (fun _ _ => rfl)) (pe_op op_add (pv 2) (pv 3)) (nomark _))))) (pss_one (ps_ret pe_bl)) pss_nil))) (pss_one (ps_ret pe_bl)))), ?_⟩
  obtain ⟨a, us, l, c, x, s, rfl, ha, pa, h0, q⟩ := h
  by_cases h1 : x + s ≤ c
  · rw [decide_eq_true h1, Bool.true_and] at q
    walk_at "go"
    refine ⟨_, rfl, a, rfl, ⟨_, SqT.of ha⟩, for_tup (K := K) (a := a) (xs := us) (LlW a c x s l H) ⟨rfl, none, rfl, rfl⟩ (fun i σ H2 _ ⟨e, _⟩ => e ▸ SqT.of ha) ?_ ?_⟩
    · rintro i y σ H2 hi ⟨rfl, x4, rfl, h2⟩
      obtain ⟨u, z, rfl, hz, hu⟩ := pa.get hi
      obtain ⟨hil, hzi⟩ := List.getElem?_eq_some_iff.mp hz
      rw [List.drop_eq_getElem_cons hil, List.all_cons, hzi] at h2
      by_cases g1 : x + s ≤ z.1
      · have hf : freeB x s z = true := by unfold freeB; rw [decide_eq_true g1]; rfl
        rw [hf, Bool.true_and] at h2
        by_cases g3 : x < z.1 + z.2
        · walk_at "go"
          exact ⟨rfl, _, rfl, h2⟩
        · walk_at "go"
          exact ⟨rfl, _, rfl, h2⟩
      · by_cases g2 : z.1 + z.2 ≤ x
        · have hf : freeB x s z = true := by unfold freeB; rw [decide_eq_true g2, Bool.or_true]
          rw [hf, Bool.true_and] at h2
          walk_at "go"
          exact ⟨rfl, _, rfl, h2⟩
        · have hf : freeB x s z = false := by unfold freeB; rw [decide_eq_false g1, decide_eq_false g2]; rfl
          rw [hf, Bool.false_and] at h2
          rw [h2] at q
          walk_at "go"
          exact q
    · rintro σ H2 ⟨rfl, x4, rfl, h2⟩
      rw [List.drop_of_length_le (by rw [pa.1]; exact Nat.le_refl _)] at h2
      rw [h2] at q
      walk_at "go"
      exact q
  · rw [decide_eq_false h1, Bool.false_and] at q
    walk_at "go"
    exact q
theorem d_L_less {P : Program} {w : World} {base : Heap} {K : PySem.W.Frag} {mg : Str → Option Value} (S : Src K mg "_law_less" s_L_less) (T : Txt K mg)  : Defx P w K mg base "_law_less" 1 ["_law_layout_here", "_law_at"] (spWout) := by
  refine S.okx sc_L_less bi_L_less (fun vs H Q E h => by revert h; walk_at "len") (fun f cdv A outer s H vs Q E hr h => ?_)
  refine ⟨_, PSs.nox (pss_one (ps_ret (pe_callTy call_tuple_of (by rfl) T.n_tuple PyProof.Rows.boot_tuple (pa_cons (pe_compG ["_law_piece"] ["_law_at"] [1] rfl (pi_tup (pv 0)) (fun cl C s₀ H₀ ex => (pg_name (i := 0) (show ((["_law_piece"] : List Str) ++ (["_law_at"] : List Str)).Nodup by decide +kernel) rfl (Or.inl rfl))) (fun cl C s₀ H₀ ex => (pts_one (pt_cmpR op_ne (pe_ix (ix_tupK (K := K) rfl) (pv 0) pe_int (fun _ _ => rfl)) (pv 1) (nomark _)))) (fun cl C s₀ H₀ ex => (pv 0)) (caught_one rfl rfl rfl) (free_one (n := "_law_at") (by decide +kernel) rfl) (fun y h => relabel_free (by decide +kernel) h)) pa_nil)))), ?_⟩
  obtain ⟨a, us, l, x, rfl, ha, pa, hl, q⟩ := h
  walk_at "go"
  refine ⟨_, rfl, a, rfl, ⟨_, SqT.of ha⟩, compH_tup (K := K) (a := a) (xs := us) (fs := [some (.int x)]) (FilW H l fun z => decide (z.1 ≠ x)) (fun D hD => ⟨Same.new hD, upd_same, PrsAt.nil⟩) (fun D i ys H2 _ h => SqT.of (h.1 a _ ha)) ?_ ?_⟩
  · rintro D i y ys H5 hD hi hW τ hτ
    obtain ⟨u, z, rfl, hz, hu⟩ := pa.get hi
    have hil : i < us.length := (List.getElem?_eq_some_iff.mp hi).1
    have hyl := hW.len
    have hu5 := hW.1 u _ hu
    match τ, hτ with
    | [τ0], _ =>
      walk_at "go"
      refine ⟨⟨[_], rfl, rfl⟩, ?_⟩
      walk_at "go"
      by_cases hc : z.1 = x
      · rw [if_pos (decide_eq_true hc)]
        exact nx_mk hil (hW.no hz (by simp [hc]))
      · rw [if_neg (by rw [decide_eq_false hc]; exact Bool.false_ne_true)]
        walk_at "go"
        exact ⟨hW.2.1, small4000 (by omega), nx_mk hil (hW.yes hD hz (by simp [hc]) hu)⟩
  · rintro D ys H5 hD hW
    have hp := hW.all pa.1
    walk_at "go"
    refine ⟨D, ys, rfl, .inl ⟨SqL.of hW.2.1, fun p np => ?_⟩⟩
    exact q p ys _ (hW.1.free np) (hW.1.trans (Same.new np)) upd_same (hp.mono fun t xs h => Same.new np t _ h)
def spSame : Sp := fun vs H Q _ => ∃ (a b : Addr) (us ws : List V) (l : List Pr), vs = [.ref a, .ref b] ∧ H a = some (.tup us) ∧ H b = some (.tup ws) ∧ PrsAt H us l ∧ PrsAt H ws l ∧ Q (.bl true) H
def SmW (a b : Addr) (H : Hp) (i : Nat) (σ : L2.St) (H' : Hp) : Prop := H = H' ∧ ∃ (x2 : Option V), σ = [some (.ref a), some (.ref b), x2]
theorem d_L_same {P : Program} {w : World} {base : Heap} {K : PySem.W.Frag} {mg : Str → Option Value} (S : Src K mg "_law_same" s_L_same) (T : Txt K mg) (D_L_pair : Defx P w K mg base "_law_pair" 2 ["_law_piece"] (spPair)) : Defx P w K mg base "_law_same" 3 ["_law_found", "_law_due"] (spSame) := by
  refine S.okx sc_L_same bi_L_same (fun vs H Q E h => by revert h; walk_at "len") (fun f cdv A outer s H vs Q E hr h => ?_)
  refine ⟨_, PSs.nox (pss_cons (ps_if (pt_not (pt_val (pe_callB call_isi (by rfl) T.n_isinstance PyProof.Rows.boot_isinstance (pa_cons (pv 0) (pa_cons (pe_bltn (v := .ty "tuple") (by rfl) T.n_tuple PyProof.Rows.boot_tuple rfl) pa_nil))))) (pss_one (ps_ret pe_bl)) pss_nil) (pss_cons (ps_for PassesOwn.never rfl (pi_tup (pv 0)) (pg_name (i := 2) sc_L_same.nd rfl (Or.inl rfl)) (pss_one (ps_if (pt_not (pt_val (pe_defq D_L_pair hr (by rfl) (pa_cons (pv 2) pa_nil)))) (pss_one (ps_ret pe_bl)) pss_nil))) (pss_one (ps_ret (pe_cmpR (op_eqTT hr.units) (pv 0) (pv 1) (nomark _)))))), ?_⟩
  obtain ⟨a, b, us, ws, l, rfl, ha, hb, pu, pw, q⟩ := h
  walk_at "go"
  refine ⟨_, rfl, a, rfl, ⟨_, SqT.of ha⟩, for_tup (K := K) (a := a) (xs := us) (SmW a b H) ⟨rfl, none, rfl⟩ (fun i σ H2 _ ⟨e, _⟩ => e ▸ SqT.of ha) ?_ ?_⟩
  · rintro i y σ H2 hi ⟨rfl, x2, rfl⟩
    obtain ⟨u, z, rfl, hz, hu⟩ := pu.get hi
    walk_at "go"
    refine ⟨u, z, rfl, hu, ?_⟩
    walk_at "go"
    exact ⟨rfl, _, rfl⟩
  · rintro σ H2 ⟨rfl, x2, rfl⟩
    walk_at "go"
    refine ⟨a, b, us, ws, l, rfl, rfl, ha, hb, pu, pw, ?_⟩
    exact q
def spGrown : Sp := fun vs H Q _ => ∃ (a : Addr) (us : List V) (l : List Pr) (x s : Int), vs = [.ref a, .int x, .int s] ∧ H a = some (.tup us) ∧ PrsAt H us l ∧ l.length ≤ 60 ∧
  ∀ (p : Addr) (ws : List V) (H' : Hp), H p = none → Same H H' → H' p = some (.tup ws) → PrsAt H' ws ((l.filter fun z => decide (z.1 < x)) ++ (x, s) :: (l.filter fun z => decide (x < z.1))) → Q (.ref p) H'
theorem d_L_grown {P : Program} {w : World} {base : Heap} {K : PySem.W.Frag} {mg : Str → Option Value} (S : Src K mg "_law_grown" s_L_grown) (T : Txt K mg)  : Defx P w K mg base "_law_grown" 1 ["_law_layout_here", "_law_at", "_law_size"] (spGrown) := by
  refine S.okx sc_L_grown bi_L_grown (fun vs H Q E h => by revert h; walk_at "len") (fun f cdv A outer s H vs Q E hr h => ?_)
  refine ⟨_, PSs.nox (pss_cons (ps_setCompG (i := 3) ["_law_piece"] ["_law_at"] [1] sc_L_grown.nd rfl (Or.inl rfl) rfl (pi_tup (pv 0)) (fun cl C s₀ H₀ ex => (pg_name (i := 0) (show ((["_law_piece"] : List Str) ++ (["_law_at"] : List Str)).Nodup by decide +kernel) rfl (Or.inl rfl))) (fun cl C s₀ H₀ ex => (pts_one (pt_cmpR op_lt (pe_ix (ix_tupK (K := K) rfl) (pv 0) pe_int (fun _ _ => rfl)) (pv 1) (nomark _)))) (fun cl C s₀ H₀ ex => (pv 0)) (caught_one rfl rfl rfl) (free_one (n := "_law_at") (by decide +kernel) rfl) (fun y h => relabel_free (by decide +kernel) h)) (pss_cons (ps_setCompG (i := 4) ["_law_piece"] ["_law_at"] [1] sc_L_grown.nd rfl (Or.inl rfl) rfl (pi_tup (pv 0)) (fun cl C s₀ H₀ ex => (pg_name (i := 0) (show ((["_law_piece"] : List Str) ++ (["_law_at"] : List Str)).Nodup by decide +kernel) rfl (Or.inl rfl))) (fun cl C s₀ H₀ ex => (pts_one (pt_cmpR op_gt (pe_ix (ix_tupK (K := K) rfl) (pv 0) pe_int (fun _ _ => rfl)) (pv 1) (nomark _)))) (fun cl C s₀ H₀ ex => (pv 0)) (caught_one rfl rfl rfl) (free_one (n := "_law_at") (by decide +kernel) rfl) (fun y h => relabel_free (by decide +kernel) h)) (pss_one (ps_ret (pe_callTy call_tuple_of (by rfl) T.n_tuple PyProof.Rows.boot_tuple (pa_cons (pe_op op_cat (pe_op op_cat (pv 3) (pe_lst (pa_cons (pe_tup (pa_cons (pv 1) (pa_cons (pv 2) pa_nil))) pa_nil))) (pv 4)) pa_nil)))))), ?_⟩
  obtain ⟨a, us, l, x, s, rfl, ha, pa, hl, q⟩ := h
  walk_at "go"
  refine ⟨_, rfl, a, rfl, ⟨_, SqT.of ha⟩, compH_tup (K := K) (a := a) (xs := us) (fs := [some (.int x)]) (FilW H l fun z => decide (z.1 < x)) (fun D hD => ⟨Same.new hD, upd_same, PrsAt.nil⟩) (fun D i ys H2 _ h => SqT.of (h.1 a _ ha)) ?_ ?_⟩
  · rintro D i y ys H5 hD hi hW τ hτ
    obtain ⟨u, z, rfl, hz, hu⟩ := pa.get hi
    have hil : i < us.length := (List.getElem?_eq_some_iff.mp hi).1
    have hyl := hW.len
    have hu5 := hW.1 u _ hu
    match τ, hτ with
    | [τ0], _ =>
      walk_at "go"
      refine ⟨⟨[_], rfl, rfl⟩, ?_⟩
      walk_at "go"
      by_cases hc : z.1 < x
      · rw [if_pos (decide_eq_true hc)]
        walk_at "go"
        exact ⟨hW.2.1, small4000 (by omega), nx_mk hil (hW.yes hD hz (by simp [hc]) hu)⟩
      · rw [if_neg (by rw [decide_eq_false hc]; exact Bool.false_ne_true)]
        exact nx_mk hil (hW.no hz (by simp [hc]))
  · rintro D ys H1 hD hW1
    have pr1 := hW1.all pa.1
    have hyl1 := hW1.len
    obtain ⟨s1, hD1, _⟩ := hW1
    have ha1 := s1 a _ ha
    have pa1 : PrsAt H1 us l := pa.mono fun t xs h => s1 t _ h
    walk_at "go"
    refine ⟨_, rfl, a, rfl, ⟨_, SqT.of ha1⟩, compH_tup (K := K) (a := a) (xs := us) (fs := [some (.int x)]) (FilW H1 l fun z => decide (x < z.1)) (fun D hD => ⟨Same.new hD, upd_same, PrsAt.nil⟩) (fun D i ys H2 _ h => SqT.of (h.1 a _ ha1)) ?_ ?_⟩
    · rintro D i y ys H5 hD hi hW τ hτ
      obtain ⟨u, z, rfl, hz, hu⟩ := pa1.get hi
      have hil : i < us.length := (List.getElem?_eq_some_iff.mp hi).1
      have hyl := hW.len
      have hu5 := hW.1 u _ hu
      match τ, hτ with
      | [τ0], _ =>
        walk_at "go"
        refine ⟨⟨[_], rfl, rfl⟩, ?_⟩
        walk_at "go"
        by_cases hc : x < z.1
        · rw [if_pos (decide_eq_true hc)]
          walk_at "go"
          exact ⟨hW.2.1, small4000 (by omega), nx_mk hil (hW.yes hD hz (by simp [hc]) hu)⟩
        · rw [if_neg (by rw [decide_eq_false hc]; exact Bool.false_ne_true)]
          exact nx_mk hil (hW.no hz (by simp [hc]))
    · rintro E ys2 H2 hE hW2
      have pr2 := hW2.all pa.1
      have hyl2 := hW2.len
      obtain ⟨s2, hE2, _⟩ := hW2
      have hD2 := s2 D _ hD1
      have pr12 := pr1.mono fun t xs h => s2 t _ h
      walk_at "go"
      intro t1 ht1
      walk_at "go"
      intro p1 hp1
      have s3 : Same H2 (upd (upd H2 t1 (.tup [.int x, .int s])) p1 (.lst [.ref t1])) := (Same.new ht1).trans (Same.new hp1)
      have hp3 : upd (upd H2 t1 (.tup [.int x, .int s])) p1 (.lst [.ref t1]) p1 = some (.lst [.ref t1]) := upd_same
      have ht3 : upd (upd H2 t1 (.tup [.int x, .int s])) p1 (.lst [.ref t1]) t1 = some (.tup (prV (x, s))) := by
        rw [upd_ne (ne_of_none upd_same hp1), upd_same]
        rfl
      generalize upd (upd H2 t1 (.tup [.int x, .int s])) p1 (.lst [.ref t1]) = H3 at s3 hp3 ht3 ⊢
      refine ⟨D, p1, ys, [.ref t1], rfl, rfl, s3 D _ hD2, hp3, Nat.le_of_lt (small4000 (show ys.length + 1 ≤ 4000 by omega)), fun p2 hp2 => ?_⟩
      have s4 : Same H3 (upd H3 p2 (.lst (ys ++ [.ref t1]))) := Same.new hp2
      have h4 : upd H3 p2 (.lst (ys ++ [.ref t1])) p2 = some (.lst (ys ++ [.ref t1])) := upd_same
      generalize upd H3 p2 (.lst (ys ++ [.ref t1])) = H4 at s4 h4 ⊢
      walk_at "go"
      refine ⟨p2, E, ys ++ [.ref t1], ys2, rfl, rfl, h4, s4 E _ (s3 E _ hE2), Nat.le_of_lt (small4000 (by rw [List.length_append, List.length_singleton]; omega)), fun p3 hp3 => ?_⟩
      have s5 : Same H4 (upd H4 p3 (.lst (ys ++ [.ref t1] ++ ys2))) := Same.new hp3
      have h5 : upd H4 p3 (.lst (ys ++ [.ref t1] ++ ys2)) p3 = some (.lst (ys ++ [.ref t1] ++ ys2)) := upd_same
      generalize upd H4 p3 (.lst (ys ++ [.ref t1] ++ ys2)) = H5 at s5 h5 ⊢
      walk_at "go"
      refine ⟨p3, _, rfl, .inl ⟨SqL.of h5, fun p np => ?_⟩⟩
      have s35 : Same H3 (upd H5 p (.tup (ys ++ [.ref t1] ++ ys2))) := (s4.trans s5).trans (Same.new np)
      have pr := (((pr12.mono fun t xs h => s3 t _ h).app (PrsAt.one ht3)).app (pr2.mono fun t xs h => s3 t _ h)).mono fun t xs h => s35 t _ h
      rw [List.append_assoc _ [(x, s)], List.singleton_append] at pr
      exact q p _ _ (((((s1.trans s2).trans s3).trans s4).trans s5).free np) (((s1.trans s2).trans s3).trans s35) upd_same pr
def spLay (K : PySem.W.Frag) : Sp := fun vs H Q _ => ∃ (a : Addr) (ns : List Int) (c : Int), vs = [.ref a, .int c] ∧ SqL K H a (ns.map V.int) ∧ 1 ≤ c ∧ c ≤ 6 ∧
  ∀ (p : Addr) (ws : List V) (l : List Pr) (H' : Hp), H p = none → Same H H' → H' p = some (.tup ws) → PrsAt H' ws l → LayR 0 c l → Q (.ref p) H'
def LyW (a p : Addr) (c : Int) (H : Hp) (m : Nat) (σ : L2.St) (H' : Hp) : Prop :=
  ∃ (l : List Pr) (us : List V) (k : Int) (x4 : Option V), σ = [some (.ref a), some (.int c), some (.ref p), some (.int k), x4] ∧ m = (c - k).toNat ∧ 0 ≤ k ∧ k ≤ c ∧ LayR 0 k l ∧ Same H H' ∧ H' p = some (.lst us) ∧ PrsAt H' us l
theorem d_L_layout {P : Program} {w : World} {base : Heap} {K : PySem.W.Frag} {mg : Str → Option Value} (S : Src K mg "_law_layout" s_L_layout) (T : Txt K mg) (D_L_draw : Defx P w K mg base "_law_draw" 2 ["_law_script", "_law_k", "_law_many"] (spDraw K)) : Defx P w K mg base "_law_layout" 3 ["_law_script", "_law_cells"] (spLay K) := by
  refine S.okx sc_L_layout bi_L_layout (fun vs H Q E h => by revert h; walk_at "len") (fun f cdv A outer s H vs Q E hr h => ?_)
  refine ⟨_, PSs.nox (pss_cons (ps_set (i := 2) sc_L_layout.nd rfl (Or.inl rfl) (pe_lst pa_nil)) (pss_cons (ps_set (i := 3) sc_L_layout.nd rfl (Or.inl rfl) pe_int) (pss_cons (ps_while PassesOwn.never (pt_cmpR op_lt (pv 3) (pv 1) (nomark _)) (pss_cons (ps_set (i := 4) sc_L_layout.nd rfl (Or.inl rfl) (pe_callB (call_min2 rfl) (by rfl) T.n_min PyProof.Rows.boot_min (pa_cons (pe_op op_sub (pe_defq D_L_draw hr (by rfl) (pa_cons (pv 0) (pa_cons (pe_op op_add pe_int (pv 3)) (pa_cons pe_int pa_nil)))) pe_int) (pa_cons (pe_op op_sub (pv 1) (pv 3)) pa_nil)))) (pss_one (ps_if (pt_cmpR op_ge (pv 4) pe_int (nomark _)) (pss_cons (ps_expr (pe_bm PySem.F.plainAttrs_list PySem.F.slot_list_append PySem.F.type_list_append mt_append (pv 2) (pa_cons (pe_tup (pa_cons (pv 3) (pa_cons (pv 4) pa_nil))) pa_nil))) (pss_one (ps_set (i := 3) sc_L_layout.nd rfl (Or.inl rfl) (pe_op op_add (pv 3) (pv 4))))) (pss_one (ps_set (i := 3) sc_L_layout.nd rfl (Or.inl rfl) (pe_op op_add (pv 3) pe_int))))))) (pss_one (ps_ret (pe_callTy call_tuple_of (by rfl) T.n_tuple PyProof.Rows.boot_tuple (pa_cons (pv 2) pa_nil))))))), ?_⟩
  obtain ⟨a, ns, c, rfl, hS, c1, c6, q⟩ := h
  walk_at "go"
  intro p hp
  walk_at "go"
  refine ⟨LyW a p c H, ⟨_, [], [], 0, none, rfl, rfl, by omega, by omega, (show (0 : Int) ≤ 0 by omega), Same.new hp, upd_same, PrsAt.nil⟩, ?_⟩
  rintro m σ H1 ⟨l, us, k, x4, rfl, rfl, k0, kc, hl, s1, hp1, pu⟩
  have hul := pu.1
  have hll := hl.len
  have hS1 := s1.seq hS
  walk_at "go"
  refine r_ifd (fun hlt => ?_) (fun hlt => ?_)
  · refine ⟨fun σ' H'' => ∃ m', m' < (c - k).toNat ∧ LyW a p c H m' σ' H'', fun σ' H'' hw => hw, ?_⟩
    walk_at "go"
    refine ⟨a, ns, 2 + k, 7, rfl, hS1, by omega, by omega, by omega, fun n n0 n7 => ?_⟩
    walk_at "go"
    have hL : (if c - k < n - 2 then c - k else n - 2) ≤ c - k := by split <;> omega
    generalize (if c - k < n - 2 then c - k else n - 2) = L at hL ⊢
    by_cases hL1 : 1 ≤ L
    · rw [if_pos (decide_eq_true hL1)]
      have hul4 : us.length < sizeLine := small4000 (by omega)
      walk_at "go"
      intro t ht
      walk_at "go"
      have s2 : Same H1 (upd H1 t (.tup [.int k, .int L])) := Same.new ht
      have hp2 := s2 p _ hp1
      have ht2 : upd H1 t (.tup [.int k, .int L]) t = some (.tup (prV (k, L))) := upd_same
      have pu2 := pu.mono fun t xs h => s2 t _ h
      generalize upd H1 t (.tup [.int k, .int L]) = H2 at s2 hp2 ht2 pu2 ⊢
      have kp : ∀ t' xs, H2 t' = some (.tup xs) → upd H2 p (.lst (us ++ [.ref t])) t' = some (.tup xs) := fun t' xs h => by
        rw [upd_ne (fun z => by rw [z, hp2] at h; cases h)]
        exact h
      exact ⟨_, by omega, l ++ [(k, L)], us ++ [.ref t], k + L, _, rfl, rfl, by omega, by omega, hl.snoc (Int.le_refl _) hL1 (Int.le_refl _), (s1.trans s2).put hp, upd_same, (pu2.mono kp).app (PrsAt.one (kp t _ ht2))⟩
    · rw [if_neg (by rw [decide_eq_false hL1]; exact Bool.false_ne_true)]
      walk_at "go"
      exact ⟨_, by omega, l, us, k + 1, _, rfl, rfl, by omega, by omega, hl.to (by omega), s1, hp1, pu⟩
  · walk_at "go"
    refine ⟨p, us, rfl, .inl ⟨SqL.of hp1, fun r np => ?_⟩⟩
    have ek : k = c := by omega
    subst ek
    exact q r us l _ (s1.free np) (s1.trans (Same.new np)) upd_same (pu.mono fun t xs h => Same.new np t _ h) hl
def DuW (H : Hp) (l : List Pr) (c s : Int) (D : Addr) (i : Nat) (ys : List V) (H2 : Hp) : Prop := Same H H2 ∧ H2 D = some (.lst ys) ∧ ys = (((List.range i).map fun (i : Nat) => (i : Int)).filter fun x => decide (x + s ≤ c) && l.all (freeB x s)).map V.int
def K4W (sc b D p : Addr) (c s : Int) (H : Hp) (i : Nat) (σ : L2.St) (H' : Hp) : Prop :=
  Same H H' ∧ ∃ (x6 x7 x8 : Option V), σ = [some (.ref sc), some (.int c), some (.int s), some (.ref b), some (.ref D), some (.ref p), x6, x7, x8]
theorem ok_law {P : Program} {w : World} {base : Heap} {K : PySem.W.Frag} {mg : Str → Option Value} {f : Addr} {fd : FuncData} (F : Fun K "law" "law" s_law f fd) (T : Txt K mg) (D_L_draw : Defx P w K mg base "_law_draw" 2 ["_law_script", "_law_k", "_law_many"] (spDraw K)) (D_L_layout : Defx P w K mg base "_law_layout" 3 ["_law_script", "_law_cells"] (spLay K)) (D_L_lies_free : Defx P w K mg base "_law_lies_free" 1 ["_law_layout_here", "_law_cells", "_law_at", "_law_size"] (spLLf)) (D_free_places : Defx P w K mg base "free_places" 2 ["cells", "layout", "size"] (spFPl)) (D_L_whole : Defx P w K mg base "_law_whole" 1 ["_law_found"] (spWhole)) (D_with_piece : Defx P w K mg base "with_piece" 1 ["layout", "at", "long"] (spWith)) (D_L_grown : Defx P w K mg base "_law_grown" 1 ["_law_layout_here", "_law_at", "_law_size"] (spGrown)) (D_L_same : Defx P w K mg base "_law_same" 3 ["_law_found", "_law_due"] (spSame)) (D_without_piece : Defx P w K mg base "without_piece" 1 ["layout", "at"] (spWout)) (D_L_less : Defx P w K mg base "_law_less" 1 ["_law_layout_here", "_law_at"] (spWout)) : FnOk P w K mg base (CXe P w) 4 f fd ["_law_script"] (spLaw K) := by
  refine fun_okx F sc_law (fun vs H Q E h => by revert h; walk_at "len") (fun cdv A outer s H vs Q E hr h => ?_)
  refine ⟨_, PSs.nox (pss_cons (ps_set (i := 1) sc_law.nd rfl (Or.inr rfl) (pe_op op_add pe_int (pe_defq D_L_draw hr (by rfl) (pa_cons (pv 0) (pa_cons pe_int (pa_cons pe_int pa_nil)))))) (pss_cons (ps_set (i := 2) sc_law.nd rfl (Or.inr rfl) (pe_op op_add pe_int (pe_defq D_L_draw hr (by rfl) (pa_cons (pv 0) (pa_cons pe_int (pa_cons pe_int pa_nil)))))) (pss_cons (ps_set (i := 3) sc_law.nd rfl (Or.inr rfl) (pe_defq D_L_layout hr (by rfl) (pa_cons (pv 0) (pa_cons (pv 1) pa_nil)))) (pss_cons (ps_setCompG (i := 4) ["_law_at"] ["_law_layout_here", "_law_cells", "_law_size"] [3, 1, 2] sc_law.nd rfl (Or.inl rfl) rfl (pi_range1 (by rfl) T.n_range (pa_cons (pv 1) pa_nil)) (fun cl C s₀ H₀ ex => (pg_name (i := 0) (show ((["_law_at"] : List Str) ++ (["_law_layout_here", "_law_cells", "_law_size"] : List Str)).Nodup by decide +kernel) rfl (Or.inl rfl))) (fun cl C s₀ H₀ ex => (pts_one (pt_val (pe_defq D_L_lies_free hr (by rfl) (pa_cons (pv 1) (pa_cons (pv 2) (pa_cons (pv 0) (pa_cons (pv 3) pa_nil)))))))) (fun cl C s₀ H₀ ex => (pv 0)) (caught_three rfl rfl rfl rfl rfl rfl rfl rfl rfl) (free_three (n := "_law_layout_here") (m := "_law_cells") (o := "_law_size") (by decide +kernel) rfl rfl rfl) (fun y h => relabel_free (by decide +kernel) h)) (pss_cons (ps_set (i := 5) sc_law.nd rfl (Or.inl rfl) (pe_defq D_free_places hr (by rfl) (pa_cons (pv 1) (pa_cons (pv 3) (pa_cons (pv 2) pa_nil))))) (pss_cons (ps_if (pt_not (pt_val (pe_callB call_isi (by rfl) T.n_isinstance PyProof.Rows.boot_isinstance (pa_cons (pv 5) (pa_cons (pe_bltn (v := .ty "list") (by rfl) T.n_list PyProof.Rows.boot_list rfl) pa_nil))))) (pss_one (ps_ret pe_bl)) pss_nil) (pss_cons (ps_for PassesOwn.never rfl (pi_list (pv 5)) (pg_name (i := 6) sc_law.nd rfl (Or.inl rfl)) (pss_one (ps_if (pt_not (pt_val (pe_defq D_L_whole hr (by rfl) (pa_cons (pv 6) pa_nil)))) (pss_one (ps_ret pe_bl)) pss_nil))) (pss_cons (ps_if (pt_cmpR (op_neL hr.units) (pv 5) (pv 4) (nomark _)) (pss_one (ps_ret pe_bl)) pss_nil) (pss_cons (ps_for PassesOwn.never rfl (pi_list (pv 4)) (pg_name (i := 6) sc_law.nd rfl (Or.inl rfl)) (pss_cons (ps_set (i := 7) sc_law.nd rfl (Or.inl rfl) (pe_defq D_with_piece hr (by rfl) (pa_cons (pv 3) (pa_cons (pv 6) (pa_cons (pv 2) pa_nil))))) (pss_cons (ps_if (pt_not (pt_val (pe_defq D_L_same hr (by rfl) (pa_cons (pv 7) (pa_cons (pe_defq D_L_grown hr (by rfl) (pa_cons (pv 3) (pa_cons (pv 6) (pa_cons (pv 2) pa_nil)))) pa_nil))))) (pss_one (ps_ret pe_bl)) pss_nil) (pss_one (ps_if (pt_not (pt_val (pe_defq D_L_same hr (by rfl) (pa_cons (pe_defq D_without_piece hr (by rfl) (pa_cons (pv 7) (pa_cons (pv 6) pa_nil))) (pa_cons (pv 3) pa_nil))))) (pss_one (ps_ret pe_bl)) pss_nil))))) (pss_cons (ps_for PassesOwn.never rfl (pi_tup (pv 3)) (pg_name (i := 8) sc_law.nd rfl (Or.inl rfl)) (pss_one (ps_if (pt_not (pt_val (pe_defq D_L_same hr (by rfl) (pa_cons (pe_defq D_without_piece hr (by rfl) (pa_cons (pv 3) (pa_cons (pe_ix ix_tup (pv 8) pe_int (fun _ _ => rfl)) pa_nil))) (pa_cons (pe_defq D_L_less hr (by rfl) (pa_cons (pv 3) (pa_cons (pe_ix ix_tup (pv 8) pe_int (fun _ _ => rfl)) pa_nil))) pa_nil))))) (pss_one (ps_ret pe_bl)) pss_nil))) (pss_one (ps_ret pe_bl)))))))))))), ?_⟩
  obtain ⟨sc, ns, rfl, hS, hlen, kk⟩ := h
  walk_at "go"
  refine ⟨sc, ns, 0, 6, rfl, hS, by omega, by omega, by omega, fun n1 h1 h1' => ?_⟩
  walk_at "go"
  refine ⟨sc, ns, 1, 7, rfl, hS, by omega, by omega, by omega, fun n2 h2 h2' => ?_⟩
  walk_at "go"
  refine ⟨sc, ns, 1 + n1, rfl, hS, by omega, by omega, fun b us l H1 nb s1 hb pu hl => ?_⟩
  have hS1 := s1.seq hS
  obtain ⟨c, hc⟩ : ∃ c, c = 1 + n1 := ⟨_, rfl⟩
  obtain ⟨s, hs⟩ : ∃ s, s = 1 + n2 := ⟨_, rfl⟩
  rw [← hc] at hl ⊢
  rw [← hs]
  have c1 : 1 ≤ c := by omega
  have c6 : c ≤ 6 := by omega
  have z1 : 1 ≤ s := by omega
  have z7 : s ≤ 7 := by omega
  clear hc hs h1 h1' h2 h2'
  have hll := hl.len
  walk_at "go"
  refine ⟨_, rfl, by omega, by omega, compH_range (fs := [some (.ref b), some (.int c), some (.int s)]) (DuW H1 l c s) (fun D hD => ⟨Same.new hD, upd_same, rfl⟩) ?_ ?_⟩
  · rintro D i ys H5 hD hi ⟨s5, hD5, hy5⟩ τ hτ
    have hyl : ys.length ≤ i := by
      rw [hy5, List.length_map]
      refine Nat.le_trans (List.length_filter_le _ _) ?_
      rw [List.length_map, List.length_range]
      exact Nat.le_refl _
    match τ, hτ with
    | [τ0], _ =>
      walk_at "go"
      refine ⟨⟨[_], rfl, rfl⟩, ?_⟩
      walk_at "go"
      refine ⟨b, us, l, c, 0 + (i : Int), s, rfl, s5 b _ hb, pu.mono fun t xs h => s5 t _ h, by omega, ?_⟩
      have hst : ∀ b, (decide (0 + (i : Int) + s ≤ c) && l.all (freeB (0 + (i : Int)) s)) = b → (((List.range (i + 1)).map fun (i : Nat) => (i : Int)).filter fun x => decide (x + s ≤ c) && l.all (freeB x s)).map V.int = ys ++ (if b = true then [V.int (0 + (i : Int))] else []) := fun b hb => by
        rw [Int.zero_add] at hb ⊢
        rw [List.range_succ, List.map_append, List.filter_append, List.map_append, ← hy5]
        cases b with
        | true => rw [List.map_singleton, List.filter_cons, if_pos hb]; rfl
        | false => rw [List.map_singleton, List.filter_cons, if_neg (by rw [hb]; exact Bool.false_ne_true)]; rfl
      cases hb : (decide (0 + (i : Int) + s ≤ c) && l.all (freeB (0 + (i : Int)) s)) with
      | true =>
        have h2 := hst true hb
        rw [if_pos rfl] at h2
        walk_at "go"
        exact ⟨hD5, small4000 (by omega), nx_mk hi ⟨s5.put hD, upd_same, h2.symm⟩⟩
      | false =>
        have h2 := hst false hb
        rw [if_neg Bool.false_ne_true, List.append_nil] at h2
        walk_at "go"
        exact nx_mk hi ⟨s5, hD5, h2.symm⟩
  · rintro D ys H2 hD ⟨s2, hD2, hy2⟩
    rw [due_eq c s _ c1 z1] at hy2
    subst hy2
    have hb2 := s2 b _ hb
    have pu2 := pu.mono fun t xs h => s2 t _ h
    have hS2 := s2.seq hS1
    walk_at "go"
    refine ⟨b, us, l, c, s, rfl, hb2, pu2, by omega, c1, c6, z1, z7, fun p H3 np s3 hp3 => ?_⟩
    have hD3 := s3 D _ hD2
    have hb3 := s3 b _ hb2
    have pu3 := pu2.mono fun t xs h => s3 t _ h
    have hF : ∀ x ∈ (((List.range (c - s + 1).toNat).map fun (i : Nat) => (i : Int)).filter fun x => l.all (freeB x s)), 0 ≤ x ∧ l.all (freeB x s) = true := fun x hx => by
      obtain ⟨h1, h2⟩ := List.mem_filter.mp hx
      obtain ⟨i, hi, rfl⟩ := List.mem_map.mp h1
      exact ⟨by omega, h2⟩
    have hFl : (((List.range (c - s + 1).toNat).map fun (i : Nat) => (i : Int)).filter fun x => l.all (freeB x s)).length ≤ 60 := by
      refine Nat.le_trans (List.length_filter_le _ _) ?_
      rw [List.length_map, List.length_range]
      omega
    generalize (((List.range (c - s + 1).toNat).map fun (i : Nat) => (i : Int)).filter fun x => l.all (freeB x s)) = F at hD2 hD3 hp3 hF hFl
    have r3 : Same H3 H3 := fun a o h => h
    walk_at "go"
    refine ⟨p, rfl, ⟨_, SqL.of hp3⟩, for_list (K := K) (a := p) (xs := F.map V.int) (K4W sc b D p c s H3) ⟨r3, none, none, none, rfl⟩ (fun i σ H4 _ ⟨e, _⟩ => SqL.of (e p _ hp3)) ?_ ?_⟩
    · rintro i y σ H4 hi ⟨s4, x6, x7, x8, rfl⟩
      rw [List.getElem?_map] at hi
      obtain ⟨n, hn, rfl⟩ := Option.map_eq_some_iff.mp hi
      walk_at "go"
      exact ⟨s4, _, _, _, rfl⟩
    · rintro σ H4 ⟨s4, x6, x7, x8, rfl⟩
      have hD4 := s4 D _ hD3
      have hp4 := s4 p _ hp3
      have hb4 := s4 b _ hb3
      have pu4 := pu3.mono fun t xs h => s4 t _ h
      have r4 : Same H4 H4 := fun a o h => h
      walk_at "go"
      refine ⟨p, D, F, F, rfl, rfl, SqL.of hp4, SqL.of hD4, ?_⟩
      rw [decide_eq_true rfl]
      walk_at "go"
      refine ⟨D, rfl, ⟨_, SqL.of hD4⟩, for_list (K := K) (a := D) (xs := F.map V.int) (K4W sc b D p c s H4) ⟨r4, x6, x7, x8, rfl⟩ (fun i σ H5 _ ⟨e, _⟩ => SqL.of (e D _ hD4)) ?_ ?_⟩
      · rintro i y σ H5 hi ⟨s5, y6, y7, y8, rfl⟩
        rw [List.getElem?_map] at hi
        obtain ⟨n, hn, rfl⟩ := Option.map_eq_some_iff.mp hi
        obtain ⟨n0, hfr⟩ := hF n (List.mem_of_getElem? hn)
        obtain ⟨X, Y, e, hX, hY⟩ := hl.cut z1 (fun z hz => List.all_eq_true.mp hfr z hz)
        have hb5 := s5 b _ hb4
        have pu5 := pu4.mono fun t xs h => s5 t _ h
        have hlXY : LayR 0 c (X ++ Y) := e ▸ hl
        walk_at "go"
        refine ⟨b, us, X, Y, n, s, 0, c, rfl, hb5, e ▸ pu5, hlXY, hX, hY, by have := hlXY.len; omega, fun g gs H6 ng s6 hg6 pg6 => ?_⟩
        have hb6 := s6 b _ hb5
        have pu6 := pu5.mono fun t xs h => s6 t _ h
        walk_at "go"
        refine ⟨b, us, l, n, s, rfl, hb6, pu6, by omega, fun r rs H7 nr s7 hr7 pr7 => ?_⟩
        rw [e, filt_lt hX hY, filt_gt hX hY] at pr7
        have hg7 := s7 g _ hg6
        have pg7 := pg6.mono fun t xs h => s7 t _ h
        have hb7 := s7 b _ hb6
        have pu7 := pu6.mono fun t xs h => s7 t _ h
        walk_at "go"
        refine ⟨g, r, gs, rs, _, rfl, hg7, hr7, pg7, pr7, ?_⟩
        walk_at "go"
        refine ⟨g, gs, _, n, rfl, hg7, pg7, ?_, fun w ws H8 nw s8 hw8 pw8 => ?_⟩
        · have := hlXY.len
          rw [List.length_append] at this
          rw [List.length_append, List.length_cons]
          omega
        rw [filt_ne hX hY, ← e] at pw8
        have hb8 := s8 b _ hb7
        have pu8 := pu7.mono fun t xs h => s8 t _ h
        walk_at "go"
        refine ⟨w, b, ws, us, l, rfl, hw8, hb8, pw8, pu8, ?_⟩
        walk_at "go"
        exact ⟨((s5.trans s6).trans s7).trans s8, _, _, _, rfl⟩
      · rintro σ H5 ⟨s5, y6, y7, y8, rfl⟩
        have hb5 := s5 b _ hb4
        have pu5 := pu4.mono fun t xs h => s5 t _ h
        walk_at "go"
        refine ⟨_, rfl, b, rfl, ⟨_, SqT.of hb5⟩, for_tup (K := K) (a := b) (xs := us) (K4W sc b D p c s H5) ⟨Same.refl _, y6, y7, y8, rfl⟩ (fun i σ H6 _ ⟨e, _⟩ => SqT.of (e b _ hb5)) ?_ ?_⟩
        · rintro i y σ H6 hi ⟨s6, v6, v7, v8, rfl⟩
          have hb6 := s6 b _ hb5
          have pu6 := pu5.mono fun t xs h => s6 t _ h
          obtain ⟨u, z, rfl, hz, hu⟩ := pu6.get hi
          walk_at "go"
          refine ⟨b, us, l, z.1, rfl, hb6, pu6, by omega, fun w ws H7 nw s7 hw7 pw7 => ?_⟩
          have hb7 := s7 b _ hb6
          have hu7 := s7 u _ hu
          have pu7 := pu6.mono fun t xs h => s7 t _ h
          walk_at "go"
          refine ⟨b, us, l, z.1, rfl, hb7, pu7, by omega, fun r rs H8 nr s8 hr8 pr8 => ?_⟩
          have hw8 := s8 w _ hw7
          have pw8 := pw7.mono fun t xs h => s8 t _ h
          walk_at "go"
          refine ⟨w, r, ws, rs, _, rfl, hw8, hr8, pw8, pr8, ?_⟩
          walk_at "go"
          exact ⟨(s6.trans s7).trans s8, _, _, _, rfl⟩
        · rintro σ H6 ⟨s6, v6, v7, v8, rfl⟩
          walk_at "go"
          exact kk _
theorem all_mk {l : PySem.W.OpenLaw} {w : World} {K : PySem.W.Frag} {h : Heap} {mg : Str → Option Value} {fa : Addr} (X : K.In h) (G : h.Ns mainGlobals mg) (hfa : mg "law" = some (.ref fa))
    {f_lies_free : Addr} {oc_lies_free kV_lies_free dc_lies_free pm_lies_free cd_lies_free ct_lies_free : Value} {od_lies_free an_lies_free : Option Addr} {sl_lies_free : Array (Option Value)}
    (a_lies_free : PySem.W.nsIn K mainGlobals "lies_free" = some (some (.ref f_lies_free)))
    (l_lies_free : K.lookup f_lies_free = some ⟨oc_lies_free, od_lies_free, .func (PySem.W.fnOf "lies_free" "lies_free" (defArgs s_lies_free) (defBody s_lies_free) (defScope s_lies_free) .none kV_lies_free dc_lies_free pm_lies_free an_lies_free cd_lies_free ct_lies_free), sl_lies_free⟩)
    (c_lies_free : PySem.W.codeIn K cd_lies_free "lies_free" = true)
    (k_lies_free : PySem.W.keepIn K (.ref f_lies_free) = true)
    {f_free_places : Addr} {oc_free_places kV_free_places dc_free_places pm_free_places cd_free_places ct_free_places : Value} {od_free_places an_free_places : Option Addr} {sl_free_places : Array (Option Value)}
    (a_free_places : PySem.W.nsIn K mainGlobals "free_places" = some (some (.ref f_free_places)))
    (l_free_places : K.lookup f_free_places = some ⟨oc_free_places, od_free_places, .func (PySem.W.fnOf "free_places" "free_places" (defArgs s_free_places) (defBody s_free_places) (defScope s_free_places) .none kV_free_places dc_free_places pm_free_places an_free_places cd_free_places ct_free_places), sl_free_places⟩)
    (c_free_places : PySem.W.codeIn K cd_free_places "free_places" = true)
    (k_free_places : PySem.W.keepIn K (.ref f_free_places) = true)
    {f_with_piece : Addr} {oc_with_piece kV_with_piece dc_with_piece pm_with_piece cd_with_piece ct_with_piece : Value} {od_with_piece an_with_piece : Option Addr} {sl_with_piece : Array (Option Value)}
    (a_with_piece : PySem.W.nsIn K mainGlobals "with_piece" = some (some (.ref f_with_piece)))
    (l_with_piece : K.lookup f_with_piece = some ⟨oc_with_piece, od_with_piece, .func (PySem.W.fnOf "with_piece" "with_piece" (defArgs s_with_piece) (defBody s_with_piece) (defScope s_with_piece) .none kV_with_piece dc_with_piece pm_with_piece an_with_piece cd_with_piece ct_with_piece), sl_with_piece⟩)
    (c_with_piece : PySem.W.codeIn K cd_with_piece "with_piece" = true)
    (k_with_piece : PySem.W.keepIn K (.ref f_with_piece) = true)
    {f_without_piece : Addr} {oc_without_piece kV_without_piece dc_without_piece pm_without_piece cd_without_piece ct_without_piece : Value} {od_without_piece an_without_piece : Option Addr} {sl_without_piece : Array (Option Value)}
    (a_without_piece : PySem.W.nsIn K mainGlobals "without_piece" = some (some (.ref f_without_piece)))
    (l_without_piece : K.lookup f_without_piece = some ⟨oc_without_piece, od_without_piece, .func (PySem.W.fnOf "without_piece" "without_piece" (defArgs s_without_piece) (defBody s_without_piece) (defScope s_without_piece) .none kV_without_piece dc_without_piece pm_without_piece an_without_piece cd_without_piece ct_without_piece), sl_without_piece⟩)
    (c_without_piece : PySem.W.codeIn K cd_without_piece "without_piece" = true)
    (k_without_piece : PySem.W.keepIn K (.ref f_without_piece) = true)
    {f_L_cell_at : Addr} {oc_L_cell_at kV_L_cell_at dc_L_cell_at pm_L_cell_at cd_L_cell_at ct_L_cell_at : Value} {od_L_cell_at an_L_cell_at : Option Addr} {sl_L_cell_at : Array (Option Value)}
    (a_L_cell_at : PySem.W.nsIn K mainGlobals "_law_cell_at" = some (some (.ref f_L_cell_at)))
    (l_L_cell_at : K.lookup f_L_cell_at = some ⟨oc_L_cell_at, od_L_cell_at, .func (PySem.W.fnOf "_law_cell_at" "_law_cell_at" (defArgs s_L_cell_at) (defBody s_L_cell_at) (defScope s_L_cell_at) .none kV_L_cell_at dc_L_cell_at pm_L_cell_at an_L_cell_at cd_L_cell_at ct_L_cell_at), sl_L_cell_at⟩)
    (c_L_cell_at : PySem.W.codeIn K cd_L_cell_at "_law_cell_at" = true)
    (k_L_cell_at : PySem.W.keepIn K (.ref f_L_cell_at) = true)
    {f_L_draw : Addr} {oc_L_draw kV_L_draw dc_L_draw pm_L_draw cd_L_draw ct_L_draw : Value} {od_L_draw an_L_draw : Option Addr} {sl_L_draw : Array (Option Value)}
    (a_L_draw : PySem.W.nsIn K mainGlobals "_law_draw" = some (some (.ref f_L_draw)))
    (l_L_draw : K.lookup f_L_draw = some ⟨oc_L_draw, od_L_draw, .func (PySem.W.fnOf "_law_draw" "_law_draw" (defArgs s_L_draw) (defBody s_L_draw) (defScope s_L_draw) .none kV_L_draw dc_L_draw pm_L_draw an_L_draw cd_L_draw ct_L_draw), sl_L_draw⟩)
    (c_L_draw : PySem.W.codeIn K cd_L_draw "_law_draw" = true)
    (k_L_draw : PySem.W.keepIn K (.ref f_L_draw) = true)
    {f_L_whole : Addr} {oc_L_whole kV_L_whole dc_L_whole pm_L_whole cd_L_whole ct_L_whole : Value} {od_L_whole an_L_whole : Option Addr} {sl_L_whole : Array (Option Value)}
    (a_L_whole : PySem.W.nsIn K mainGlobals "_law_whole" = some (some (.ref f_L_whole)))
    (l_L_whole : K.lookup f_L_whole = some ⟨oc_L_whole, od_L_whole, .func (PySem.W.fnOf "_law_whole" "_law_whole" (defArgs s_L_whole) (defBody s_L_whole) (defScope s_L_whole) .none kV_L_whole dc_L_whole pm_L_whole an_L_whole cd_L_whole ct_L_whole), sl_L_whole⟩)
    (c_L_whole : PySem.W.codeIn K cd_L_whole "_law_whole" = true)
    (k_L_whole : PySem.W.keepIn K (.ref f_L_whole) = true)
    {f_L_pair : Addr} {oc_L_pair kV_L_pair dc_L_pair pm_L_pair cd_L_pair ct_L_pair : Value} {od_L_pair an_L_pair : Option Addr} {sl_L_pair : Array (Option Value)}
    (a_L_pair : PySem.W.nsIn K mainGlobals "_law_pair" = some (some (.ref f_L_pair)))
    (l_L_pair : K.lookup f_L_pair = some ⟨oc_L_pair, od_L_pair, .func (PySem.W.fnOf "_law_pair" "_law_pair" (defArgs s_L_pair) (defBody s_L_pair) (defScope s_L_pair) .none kV_L_pair dc_L_pair pm_L_pair an_L_pair cd_L_pair ct_L_pair), sl_L_pair⟩)
    (c_L_pair : PySem.W.codeIn K cd_L_pair "_law_pair" = true)
    (k_L_pair : PySem.W.keepIn K (.ref f_L_pair) = true)
    {f_L_lies_free : Addr} {oc_L_lies_free kV_L_lies_free dc_L_lies_free pm_L_lies_free cd_L_lies_free ct_L_lies_free : Value} {od_L_lies_free an_L_lies_free : Option Addr} {sl_L_lies_free : Array (Option Value)}
    (a_L_lies_free : PySem.W.nsIn K mainGlobals "_law_lies_free" = some (some (.ref f_L_lies_free)))
    (l_L_lies_free : K.lookup f_L_lies_free = some ⟨oc_L_lies_free, od_L_lies_free, .func (PySem.W.fnOf "_law_lies_free" "_law_lies_free" (defArgs s_L_lies_free) (defBody s_L_lies_free) (defScope s_L_lies_free) .none kV_L_lies_free dc_L_lies_free pm_L_lies_free an_L_lies_free cd_L_lies_free ct_L_lies_free), sl_L_lies_free⟩)
    (c_L_lies_free : PySem.W.codeIn K cd_L_lies_free "_law_lies_free" = true)
    (k_L_lies_free : PySem.W.keepIn K (.ref f_L_lies_free) = true)
    {f_L_grown : Addr} {oc_L_grown kV_L_grown dc_L_grown pm_L_grown cd_L_grown ct_L_grown : Value} {od_L_grown an_L_grown : Option Addr} {sl_L_grown : Array (Option Value)}
    (a_L_grown : PySem.W.nsIn K mainGlobals "_law_grown" = some (some (.ref f_L_grown)))
    (l_L_grown : K.lookup f_L_grown = some ⟨oc_L_grown, od_L_grown, .func (PySem.W.fnOf "_law_grown" "_law_grown" (defArgs s_L_grown) (defBody s_L_grown) (defScope s_L_grown) .none kV_L_grown dc_L_grown pm_L_grown an_L_grown cd_L_grown ct_L_grown), sl_L_grown⟩)
    (c_L_grown : PySem.W.codeIn K cd_L_grown "_law_grown" = true)
    (k_L_grown : PySem.W.keepIn K (.ref f_L_grown) = true)
    {f_L_less : Addr} {oc_L_less kV_L_less dc_L_less pm_L_less cd_L_less ct_L_less : Value} {od_L_less an_L_less : Option Addr} {sl_L_less : Array (Option Value)}
    (a_L_less : PySem.W.nsIn K mainGlobals "_law_less" = some (some (.ref f_L_less)))
    (l_L_less : K.lookup f_L_less = some ⟨oc_L_less, od_L_less, .func (PySem.W.fnOf "_law_less" "_law_less" (defArgs s_L_less) (defBody s_L_less) (defScope s_L_less) .none kV_L_less dc_L_less pm_L_less an_L_less cd_L_less ct_L_less), sl_L_less⟩)
    (c_L_less : PySem.W.codeIn K cd_L_less "_law_less" = true)
    (k_L_less : PySem.W.keepIn K (.ref f_L_less) = true)
    {f_L_layout : Addr} {oc_L_layout kV_L_layout dc_L_layout pm_L_layout cd_L_layout ct_L_layout : Value} {od_L_layout an_L_layout : Option Addr} {sl_L_layout : Array (Option Value)}
    (a_L_layout : PySem.W.nsIn K mainGlobals "_law_layout" = some (some (.ref f_L_layout)))
    (l_L_layout : K.lookup f_L_layout = some ⟨oc_L_layout, od_L_layout, .func (PySem.W.fnOf "_law_layout" "_law_layout" (defArgs s_L_layout) (defBody s_L_layout) (defScope s_L_layout) .none kV_L_layout dc_L_layout pm_L_layout an_L_layout cd_L_layout ct_L_layout), sl_L_layout⟩)
    (c_L_layout : PySem.W.codeIn K cd_L_layout "_law_layout" = true)
    (k_L_layout : PySem.W.keepIn K (.ref f_L_layout) = true)
    {f_L_same : Addr} {oc_L_same kV_L_same dc_L_same pm_L_same cd_L_same ct_L_same : Value} {od_L_same an_L_same : Option Addr} {sl_L_same : Array (Option Value)}
    (a_L_same : PySem.W.nsIn K mainGlobals "_law_same" = some (some (.ref f_L_same)))
    (l_L_same : K.lookup f_L_same = some ⟨oc_L_same, od_L_same, .func (PySem.W.fnOf "_law_same" "_law_same" (defArgs s_L_same) (defBody s_L_same) (defScope s_L_same) .none kV_L_same dc_L_same pm_L_same an_L_same cd_L_same ct_L_same), sl_L_same⟩)
    (c_L_same : PySem.W.codeIn K cd_L_same "_law_same" = true)
    (k_L_same : PySem.W.keepIn K (.ref f_L_same) = true)
    {f_law : Addr} {oc_law kV_law dc_law pm_law cd_law ct_law : Value} {od_law an_law : Option Addr} {sl_law : Array (Option Value)}
    (a_law : PySem.W.nsIn K mainGlobals "law" = some (some (.ref f_law)))
    (l_law : K.lookup f_law = some ⟨oc_law, od_law, .func (PySem.W.fnOf "law" "law" (defArgs s_law) (defBody s_law) (defScope s_law) .none kV_law dc_law pm_law an_law cd_law ct_law), sl_law⟩)
    (c_law : PySem.W.codeIn K cd_law "law" = true)
    (k_law : PySem.W.keepIn K (.ref f_law) = true)
    (z_all : PySem.W.nsIn K mainGlobals "all" = some none)
    (z_bool : PySem.W.nsIn K mainGlobals "bool" = some none)
    (z_int : PySem.W.nsIn K mainGlobals "int" = some none)
    (z_isinstance : PySem.W.nsIn K mainGlobals "isinstance" = some none)
    (z_len : PySem.W.nsIn K mainGlobals "len" = some none)
    (z_list : PySem.W.nsIn K mainGlobals "list" = some none)
    (z_min : PySem.W.nsIn K mainGlobals "min" = some none)
    (z_range : PySem.W.nsIn K mainGlobals "range" = some none)
    (z_sorted : PySem.W.nsIn K mainGlobals "sorted" = some none)
    (z_tuple : PySem.W.nsIn K mainGlobals "tuple" = some none) :
    ∃ fd : FuncData, (∀ (s : Shared) (v : Value), BindsTo s fd ⟨[v], []⟩ [("_law_script", v)]) ∧ ∀ base : Heap, K.In base → base.Ns mainGlobals mg → FnOk l.prog w K mg base (CXe l.prog w) 4 fa fd ["_law_script"] (spLaw K) := by
  have e := hfa.symm.trans (PySem.W.mg_of X G a_law)
  cases e
  have T : Txt K mg := ⟨PySem.W.mg_none_of X G z_all, PySem.W.mg_none_of X G z_bool, PySem.W.mg_none_of X G z_int, PySem.W.mg_none_of X G z_isinstance, PySem.W.mg_none_of X G z_len, PySem.W.mg_none_of X G z_list, PySem.W.mg_none_of X G z_min, PySem.W.mg_none_of X G z_range, PySem.W.mg_none_of X G z_sorted, PySem.W.mg_none_of X G z_tuple⟩
  have S_lies_free := src_mk (st := s_lies_free) X G a_lies_free l_lies_free c_lies_free k_lies_free
  have S_free_places := src_mk (st := s_free_places) X G a_free_places l_free_places c_free_places k_free_places
  have S_with_piece := src_mk (st := s_with_piece) X G a_with_piece l_with_piece c_with_piece k_with_piece
  have S_without_piece := src_mk (st := s_without_piece) X G a_without_piece l_without_piece c_without_piece k_without_piece
  have S_L_cell_at := src_mk (st := s_L_cell_at) X G a_L_cell_at l_L_cell_at c_L_cell_at k_L_cell_at
  have S_L_draw := src_mk (st := s_L_draw) X G a_L_draw l_L_draw c_L_draw k_L_draw
  have S_L_whole := src_mk (st := s_L_whole) X G a_L_whole l_L_whole c_L_whole k_L_whole
  have S_L_pair := src_mk (st := s_L_pair) X G a_L_pair l_L_pair c_L_pair k_L_pair
  have S_L_lies_free := src_mk (st := s_L_lies_free) X G a_L_lies_free l_L_lies_free c_L_lies_free k_L_lies_free
  have S_L_grown := src_mk (st := s_L_grown) X G a_L_grown l_L_grown c_L_grown k_L_grown
  have S_L_less := src_mk (st := s_L_less) X G a_L_less l_L_less c_L_less k_L_less
  have S_L_layout := src_mk (st := s_L_layout) X G a_L_layout l_L_layout c_L_layout k_L_layout
  have S_L_same := src_mk (st := s_L_same) X G a_L_same l_L_same c_L_same k_L_same
  refine ⟨PySem.W.fnOf "law" "law" (defArgs s_law) (defBody s_law) (defScope s_law) .none kV_law dc_law pm_law an_law cd_law ct_law, fun s v => .of_eq rfl, fun base _ _ => ?_⟩
  have D_lies_free := d_lies_free (P := l.prog) (w := w) (base := base) S_lies_free T 
  have D_free_places := d_free_places (P := l.prog) (w := w) (base := base) S_free_places T D_lies_free
  have D_with_piece := d_with_piece (P := l.prog) (w := w) (base := base) S_with_piece T 
  have D_without_piece := d_without_piece (P := l.prog) (w := w) (base := base) S_without_piece T 
  have D_L_cell_at := d_L_cell_at (P := l.prog) (w := w) (base := base) S_L_cell_at T 
  have D_L_whole := d_L_whole (P := l.prog) (w := w) (base := base) S_L_whole T 
  have D_L_draw := d_L_draw (P := l.prog) (w := w) (base := base) S_L_draw T D_L_cell_at
  have D_L_pair := d_L_pair (P := l.prog) (w := w) (base := base) S_L_pair T D_L_whole
  have D_L_lies_free := d_L_lies_free (P := l.prog) (w := w) (base := base) S_L_lies_free T 
  have D_L_less := d_L_less (P := l.prog) (w := w) (base := base) S_L_less T 
  have D_L_same := d_L_same (P := l.prog) (w := w) (base := base) S_L_same T D_L_pair
  have D_L_grown := d_L_grown (P := l.prog) (w := w) (base := base) S_L_grown T 
  have D_L_layout := d_L_layout (P := l.prog) (w := w) (base := base) S_L_layout T D_L_draw
  exact ok_law (fun_mk l_law c_law k_law) T D_L_draw D_L_layout D_L_lies_free D_free_places D_L_whole D_with_piece D_L_grown D_L_same D_without_piece D_L_less
theorem walk {l : PySem.W.OpenLaw} {q : Program} {loose : List Str} {XP : (Str → Option Value) → Heap → Prop} {YP : World → Heap → Prop} {d : DefRec} {K : Params → PySem.W.Frag} (hn : l.most = some 63) (hdf : d.params.defaults = [])
    (hY : ∀ (w : World) (h : Heap), YP w h → (K w.params).In h)
    (F : ∀ (w : World) (mg : Str → Option Value) (fa : Addr) (h : Heap), (K w.params).In h → h.Ns mainGlobals mg → mg d.name = some (.ref fa) →
      ∃ fd : FuncData, (∀ (s : Shared) (u : Value), BindsTo s fd ⟨[u], []⟩ [("_law_script", u)]) ∧ ∀ base : Heap, (K w.params).In base → base.Ns mainGlobals mg → FnOk l.prog w (K w.params) mg base (CXe l.prog w) 4 fa fd ["_law_script"] (spLaw (K w.params))) :
    PySem.W.WalkO q loose XP YP l.row.toRowW d [] (fun f vs => PySem.call f vs) :=
  L2.walk_of (n := 63) (k := 4) (x := "_law_script") (CX := fun w => (CXe l.prog w)) (sp := fun w => spLaw (K w.params)) hn (by decide) hdf ⟨rfl, by decide, by decide⟩ hY F (fun _ _ a ns hl _ hS => ⟨a, ns, rfl, hS, hl, fun _ => rfl⟩) (fun _ _ _ _ _ ⟨_, _, _, _, _, _, _, _, _, _, _, _, _, _, _, z⟩ => z)
end Stow
open PySem PySem.W PyProof.Rows
set_option maxRecDepth 100000 in
set_option maxHeartbeats 0 in
theorem PySem.Challenge.cw_stow_k64_a_piece_more_or_less_holds : PySem.Challenge.rw_stow_k64_a_piece_more_or_less.Holds := by
  w_on; o_law; k_head; (case hw => w_witness2)
  k_fill
  refine Stow.walk (l := PySem.Challenge.rw_stow_k64_a_piece_more_or_less) rfl rfl (fun w h Y => PySem.W.kIn_of Y) ?F
  case F =>
    intro w mg fa h KX G hmg
    refine' Stow.all_mk KX G hmg ?a_lies_free ?l_lies_free ?c_lies_free ?k_lies_free ?a_free_places ?l_free_places ?c_free_places ?k_free_places ?a_with_piece ?l_with_piece ?c_with_piece ?k_with_piece ?a_without_piece ?l_without_piece ?c_without_piece ?k_without_piece ?a_L_cell_at ?l_L_cell_at ?c_L_cell_at ?k_L_cell_at ?a_L_draw ?l_L_draw ?c_L_draw ?k_L_draw ?a_L_whole ?l_L_whole ?c_L_whole ?k_L_whole ?a_L_pair ?l_L_pair ?c_L_pair ?k_L_pair ?a_L_lies_free ?l_L_lies_free ?c_L_lies_free ?k_L_lies_free ?a_L_grown ?l_L_grown ?c_L_grown ?k_L_grown ?a_L_less ?l_L_less ?c_L_less ?k_L_less ?a_L_layout ?l_L_layout ?c_L_layout ?k_L_layout ?a_L_same ?l_L_same ?c_L_same ?k_L_same ?a_law ?l_law ?c_law ?k_law ?z_all ?z_bool ?z_int ?z_isinstance ?z_len ?z_list ?z_min ?z_range ?z_sorted ?z_tuple
    (case a_lies_free => k_is)
    (case l_lies_free => k_is)
    (case c_lies_free => k_is)
    (case k_lies_free => k_is)
    (case a_free_places => k_is)
    (case l_free_places => k_is)
    (case c_free_places => k_is)
    (case k_free_places => k_is)
    (case a_with_piece => k_is)
    (case l_with_piece => k_is)
    (case c_with_piece => k_is)
    (case k_with_piece => k_is)
    (case a_without_piece => k_is)
    (case l_without_piece => k_is)
    (case c_without_piece => k_is)
    (case k_without_piece => k_is)
    (case a_L_cell_at => k_is)
    (case l_L_cell_at => k_is)
    (case c_L_cell_at => k_is)
    (case k_L_cell_at => k_is)
    (case a_L_draw => k_is)
    (case l_L_draw => k_is)
    (case c_L_draw => k_is)
    (case k_L_draw => k_is)
    (case a_L_whole => k_is)
    (case l_L_whole => k_is)
    (case c_L_whole => k_is)
    (case k_L_whole => k_is)
    (case a_L_pair => k_is)
    (case l_L_pair => k_is)
    (case c_L_pair => k_is)
    (case k_L_pair => k_is)
    (case a_L_lies_free => k_is)
    (case l_L_lies_free => k_is)
    (case c_L_lies_free => k_is)
    (case k_L_lies_free => k_is)
    (case a_L_grown => k_is)
    (case l_L_grown => k_is)
    (case c_L_grown => k_is)
    (case k_L_grown => k_is)
    (case a_L_less => k_is)
    (case l_L_less => k_is)
    (case c_L_less => k_is)
    (case k_L_less => k_is)
    (case a_L_layout => k_is)
    (case l_L_layout => k_is)
    (case c_L_layout => k_is)
    (case k_L_layout => k_is)
    (case a_L_same => k_is)
    (case l_L_same => k_is)
    (case c_L_same => k_is)
    (case k_L_same => k_is)
    (case a_law => k_is)
    (case l_law => k_is)
    (case c_law => k_is)
    (case k_law => k_is)
    (case z_all => k_is)
    (case z_bool => k_is)
    (case z_int => k_is)
    (case z_isinstance => k_is)
    (case z_len => k_is)
    (case z_list => k_is)
    (case z_min => k_is)
    (case z_range => k_is)
    (case z_sorted => k_is)
    (case z_tuple => k_is)


