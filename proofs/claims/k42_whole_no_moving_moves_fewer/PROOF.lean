import PyProof.Rows.All
import Wide.All
import OpenK.AllK
import Wide.FinOn
import Lean
import PyProof.EqAt
import PyProof.EqKinds
import PyProof.TupleCall
import PyProof.NeKinds
import PyProof.StationsW
import PyProof.RulesAs
import PyProof.ExcClass3
import PyProof.ExcInit
import PyProof.ExcArgsOwn
import PyProof.IsiH_set
import PyProof.NsDelKeeps
import PyProof.CompFree
import PySem.Challenge.RW_stow_k42_whole_no_moving_moves_fewer
set_option Elab.async false
set_option linter.all false
set_option maxRecDepth 100000
/-! THE HAND LAYER, for ints, bools, texts, own classes, LISTS and tuples (index, slices, in, append, pop ..), calls, loops. Paste it whole ahead of your own text; what your proof does not reach may be deleted. -/
namespace L2
open PySem PySem.Spec PyProof.Rows

/-- a key: an int or a str -/
abbrev Key := Sum Int Str
def keyIs : Key → Value → Bool
  | .inl k, v => Value.isInt k v
  | .inr x, v => Value.isStrOf x v
def keyH (w : World) : Key → Int
  | .inl k => hashInt k
  | .inr x => hashStr w x
theorem keyIs_shape : ∀ {k : Key} {v : Value}, keyIs k v = true → (∃ i t, k = Sum.inl i ∧ v = Value.int i t) ∨ (∃ x t, k = Sum.inr x ∧ v = Value.str x t)
  | .inl i, v, h => by
    obtain ⟨t, e⟩ := Value.isInt_shape (k := i) (v := v) h
    exact .inl ⟨i, t, rfl, e⟩
  | .inr x, v, h => by
    obtain ⟨t, e⟩ := Value.isStrOf_shape (x := x) (v := v) h
    exact .inr ⟨x, t, rfl, e⟩
theorem key_ll (a b : Int) : decide ((Sum.inl a : Key) = Sum.inl b) = (a == b) := by
  by_cases e : a = b
  · subst e; simp
  · have h : ¬ (Sum.inl a : Key) = Sum.inl b := fun q => e (Sum.inl.inj q)
    rw [decide_eq_false h]
    exact (beq_eq_false_iff_ne.mpr e).symm
theorem key_rr (a b : Str) : decide ((Sum.inr a : Key) = Sum.inr b) = decide (a = b) := by
  by_cases e : a = b
  · subst e; simp
  · have h : ¬ (Sum.inr a : Key) = Sum.inr b := fun q => e (Sum.inr.inj q)
    rw [decide_eq_false h, decide_eq_false e]
theorem key_lr (a : Int) (b : Str) : decide ((Sum.inl a : Key) = Sum.inr b) = false := decide_eq_false (fun q => nomatch q)
theorem key_rl (a : Str) (b : Int) : decide ((Sum.inr a : Key) = Sum.inl b) = false := decide_eq_false (fun q => nomatch q)

def mixKind (prog : Program) (w : World) : PySem.KeyKind prog w Key where
  is := keyIs
  hash := keyH w
  inj := fun v a b ha hb => by
    rcases keyIs_shape ha with ⟨i, t, rfl, rfl⟩ | ⟨x, t, rfl, rfl⟩
    · rcases keyIs_shape hb with ⟨j, u, rfl, e⟩ | ⟨y, u, rfl, e⟩
      · injection e with e1 _; rw [e1]
      · exact nomatch e
    · rcases keyIs_shape hb with ⟨j, u, rfl, e⟩ | ⟨y, u, rfl, e⟩
      · exact nomatch e
      · injection e with e1 _; rw [e1]
  byValue := fun k v h => by
    rcases keyIs_shape h with ⟨i, t, rfl, rfl⟩ | ⟨x, t, rfl, rfl⟩ <;> rfl
  pyHash := fun hv h => by
    rcases keyIs_shape hv with ⟨i, t, rfl, rfl⟩ | ⟨x, t, rfl, rfl⟩
    · exact wpAny_pyHash_int h
    · exact wpAny_pyHash_str h
  eqBool := fun hu hv h => by
    rcases keyIs_shape hu with ⟨i, t, rfl, rfl⟩ | ⟨x, t, rfl, rfl⟩
    · rcases keyIs_shape hv with ⟨j, u, rfl, rfl⟩ | ⟨y, u, rfl, rfl⟩
      · rw [key_ll] at h; exact wpAny_eqBool_int h
      · rw [key_lr] at h; exact SeqAt.EqAt.int_str i t y u _ _ _ _ h
    · rcases keyIs_shape hv with ⟨j, u, rfl, rfl⟩ | ⟨y, u, rfl, rfl⟩
      · rw [key_rl] at h; exact SeqAt.EqAt.str_int x t j u _ _ _ _ h
      · rw [key_rr] at h; exact wpAny_eqBool_str h
  «strs» := fun k x t v h => by
    rcases keyIs_shape h with ⟨i, u, rfl, e⟩ | ⟨y, u, rfl, e⟩
    · exact nomatch e
    · injection e with e1 _
      subst e1
      cases v <;> rfl

end L2

namespace L2
open PySem PySem.Spec PyProof.Rows

/-- a value, without the heap -/
inductive V where
  | non | bl (b : Bool) | int (i : Int) | str (x : Str) | byt (b : Array UInt8) | flt (b : UInt64) | ref (a : Addr) | ty (n : String)
  deriving DecidableEq

def RelV : V → Value → Prop
  | .non, u => u = Value.none
  | .bl b, u => u = Value.bool b
  | .int i, u => ∃ t, u = Value.int i t
  | .str x, u => ∃ t, u = Value.str x t
  | .byt b, u => ∃ t, u = Value.bytes b t
  | .flt b, u => ∃ t, u = Value.float b t
  | .ref a, u => u = Value.ref a
  | .ty n, u => u = Value.type n

abbrev Vals : List V → List Value → Prop := Paired RelV
theorem Vals.length {xs : List V} {us : List Value} (r : Vals xs us) : xs.length = us.length := Paired.length r
theorem Vals.get : ∀ {xs : List V} {us : List Value} {i : Nat} {x : V}, Vals xs us → xs[i]? = some x → ∃ u, us[i]? = some u ∧ RelV x u
  | _, _, _, _, .nil, e => by simp at e
  | _, _, 0, _, .cons r _, e => by simp at e; subst e; exact ⟨_, rfl, r⟩
  | _, _, i + 1, x, .cons _ t, e => by
    obtain ⟨u, h1, h2⟩ := Vals.get (i := i) (x := x) t (by simpa using e)
    exact ⟨u, by simpa using h1, h2⟩
theorem Vals.set {x : V} {u : Value} (r : RelV x u) : ∀ {xs : List V} {us : List Value} (i : Nat), Vals xs us → Vals (xs.set i x) (us.set i u)
  | _, _, _, .nil => .nil
  | _, _, 0, .cons _ t => .cons r t
  | _, _, i + 1, .cons q t => .cons q (Vals.set r i t)
theorem Vals.append : ∀ {xs ys : List V} {us ws : List Value}, Vals xs us → Vals ys ws → Vals (xs ++ ys) (us ++ ws)
  | _, _, _, _, .nil, s => s
  | _, _, _, _, .cons r t, s => .cons r (Vals.append t s)
theorem Vals.take : ∀ {xs : List V} {us : List Value} (n : Nat), Vals xs us → Vals (xs.take n) (us.take n)
  | _, _, 0, _ => .nil
  | _, _, _ + 1, .nil => .nil
  | _, _, n + 1, .cons r t => .cons r (Vals.take n t)
theorem Vals.drop : ∀ {xs : List V} {us : List Value} (n : Nat), Vals xs us → Vals (xs.drop n) (us.drop n)
  | _, _, 0, r => r
  | _, _, _ + 1, .nil => .nil
  | _, _, n + 1, .cons _ t => Vals.drop n t
def RelO : Option V → Option Value → Prop
  | some v, some u => RelV v u
  | none, none => True
  | _, _ => False
def KV {κ : Type} : List (κ × V) → List (κ × Value) → Prop := Paired fun (p : κ × V) (q : κ × Value) => p.1 = q.1 ∧ RelV p.2 q.2

/-- a key of a dict (00_mix): an int or a text -/
def kV : Key → V
  | .inl i => .int i
  | .inr x => .str x

/-- what stands at a tracked address -/
inductive HO where
  /-- a list -/
  | lst (xs : List V)
  /-- a tuple (never changes) -/
  | tup (xs : List V)
  /-- a dict whose keys are ints and texts; one whose keys are tuples of ints and texts (the empty one is both) -/
  | dK (kvs : List (Key × V)) | dT (kvs : List (List Key × V))
  /-- a set of ints: its members, its size -/
  | set (S : Int → Bool) (n : Nat)
  /-- an instance of the class at C, its dict at dx, its attributes -/
  | ins (C dx : Addr) (fs : List (Str × V))
  /-- the dict of the instance at x -/
  | own (x : Addr)
  /-- the dict of an exception -/
  | xd (fs : List (Str × V))
  /-- a bound method, f of x -/
  | met (f x : Addr)
  /-- a range object lo, lo + 1, .. below hi -/
  | rng (lo hi : Int)
  /-- a thing that is known to the object (the script; a dict while a loop walks it): read, never written while it is so -/
  | frz (o : Obj) (u : HO)
  /-- a code object's table -/
  | tbl (ps : Array Value)
  /-- any other thing, by what is true of its one object (a def of one's own: SetO a S n := HO.ext fun h => ..) -/
  | ext (φ : Heap → Prop)

abbrev Hp := Addr → Option HO
def upd (H : Hp) (a : Addr) (o : HO) : Hp := fun b => if b = a then some o else H b
theorem upd_same {H : Hp} {a : Addr} {o : HO} : upd H a o a = some o := by unfold upd; rw [if_pos rfl]
theorem upd_ne {H : Hp} {a b : Addr} {o : HO} (h : b ≠ a) : upd H a o b = H b := by unfold upd; rw [if_neg h]
theorem ne_of_none {H : Hp} {a b : Addr} {o : HO} (h : H a = some o) (h' : H b = none) : a ≠ b := by
  intro e; subst e; rw [h] at h'; cases h'

section
variable (P : Program) (w : World)
def ObjOk (H : Hp) (h : Heap) (a : Addr) : HO → Prop
  | .lst xs => xs.length ≤ sizeLine ∧ ∃ (its : List Value) (n : Nat), Vals xs its ∧ h.get? a = some { cls := .type "list", data := .seq its.toArray n }
  | .tup xs => xs.length ≤ sizeLine ∧ ∃ its : List Value, Vals xs its ∧ IsTup h a its.toArray
  | .dK kvs => kvs.length ≤ sizeLine ∧ (a == sysModules) = false ∧ ∃ vs, KV kvs vs ∧ h.DictOf (mixKind P w) a vs
  | .dT kvs => kvs.length ≤ sizeLine ∧ (a == sysModules) = false ∧ ∃ xs : List (List Key × Addr × Value),
      Paired (fun (p : List Key × V) (q : List Key × Addr × Value) => p.1 = q.1 ∧ H q.2.1 = some (.tup (p.1.map kV)) ∧ RelV p.2 q.2.2) kvs xs ∧
      ∃ o es ep, h.get? a = some o ∧ o.ExactDict ∧ o.data = .dict es ep ∧ es.toList = xs.map (entryOfKey (tupleKind (mixKind P w))) ∧ (xs.map (·.1)).Nodup
  | .set S n => h.SetOf (intKind P w) a S n
  | .ins C dx fs => H dx = some (.own a) ∧ fs.length ≤ 1000 ∧ dx ≠ a ∧ h.get? a = some (PySem.W.instObj C dx) ∧
      ∃ mA, h.Ns1 dx mA ∧ (∀ f, RelO (fs.lookup f) (mA f)) ∧ PySem.Within mA (fs.map (·.1))
  | .own _ => ∃ o, h.get? a = some o
  | .xd fs => ∃ mA, h.Ns1 a mA ∧ ∀ f, RelO (fs.lookup f) (mA f)
  | .rng lo hi => ∃ t u v, h.get? a = some { cls := .type "range", data := .fields #[.int lo t, .int hi u, .int 1 v] }
  | .frz o u => h.get? a = some o ∧ ObjOk H h a u
  | .tbl ps => h.get? a = some { cls := .none, data := .fields ps }
  | .met f x => h.get? a = some (PySem.W.methodObj (.ref f) (.ref x))
  | .ext φ => φ h ∧ (∃ o, h.get? a = some o) ∧ ∀ h1 h2 : Heap, φ h1 → (∀ o, h1.get? a = some o → h2.get? a = some o) → φ h2
/-- the abstract heap is held -/
def HOk (H : Hp) (h : Heap) : Prop := ∀ a o, H a = some o → ObjOk P w H h a o
end

section
variable {P : Program} {w : World} {H H' : Hp} {h h' : Heap} {a : Addr} {o : HO}
theorem ObjOk.lt (x : ObjOk P w H h a o) : a < h.objs.size := by
  cases o with
  | lst xs => obtain ⟨_, _, _, _, e⟩ := x; exact Heap.lt_size e
  | tup xs => obtain ⟨_, _, _, p⟩ := x; exact p.lt
  | dK kvs => obtain ⟨_, _, _, _, o, _, _, e, _⟩ := x; exact Heap.lt_size e
  | dT kvs => obtain ⟨_, _, _, _, o, _, _, e, _⟩ := x; exact Heap.lt_size e
  | set S n => obtain ⟨o, _, _, _, e, _⟩ := x; exact Heap.lt_size e
  | ins C dx fs => obtain ⟨_, _, _, e, _⟩ := x; exact Heap.lt_size e
  | own y => obtain ⟨_, e⟩ := x; exact Heap.lt_size e
  | xd fs => obtain ⟨_, ⟨_, _, _, e, _⟩, _⟩ := x; exact Heap.lt_size e
  | rng lo hi => obtain ⟨_, _, _, e⟩ := x; exact Heap.lt_size e
  | frz ob u => obtain ⟨e, _⟩ := x; exact Heap.lt_size e
  | tbl ps => exact Heap.lt_size (show h.get? a = some _ from x)
  | met f y => exact Heap.lt_size (show h.get? a = some _ from x)
  | ext φ => obtain ⟨_, ⟨_, e⟩, _⟩ := x; exact Heap.lt_size e
theorem Paired.mapP {α β : Type} {F G : α → β → Prop} : ∀ {l₁ : List α} {l₂ : List β}, Paired F l₁ l₂ → (∀ a b, F a b → G a b) → Paired G l₁ l₂
  | _, _, .nil, _ => .nil
  | _, _, .cons r t, f => .cons (f _ _ r) (Paired.mapP t f)
/-- what an object's description leans on: its own object, its own dict, the tuples -/
theorem ObjOk.stay (x : ObjOk P w H h a o) (k : ∀ b u, (b = a ∨ H b = some (.own a)) → h.get? b = some u → h'.get? b = some u)
    (ho : ∀ b, H b = some (.own a) → H' b = some (.own a)) (ht : ∀ b xs, H b = some (.tup xs) → H' b = some (.tup xs)) : ObjOk P w H' h' a o := by
  induction o with
  | lst xs => obtain ⟨z, its, n, r, e⟩ := x; exact ⟨z, its, n, r, k _ _ (.inl rfl) e⟩
  | tup xs => obtain ⟨z, its, r, ob, e, c⟩ := x; exact ⟨z, its, r, ob, k _ _ (.inl rfl) e, c⟩
  | dK kvs => obtain ⟨z, y, vs, r, ob, es, ep, e, c⟩ := x; exact ⟨z, y, vs, r, ob, es, ep, k _ _ (.inl rfl) e, c⟩
  | dT kvs =>
    obtain ⟨z, y, xs, r, ob, es, ep, e, c⟩ := x
    exact ⟨z, y, xs, Paired.mapP r fun p q z => ⟨z.1, ht _ _ z.2.1, z.2.2⟩, ob, es, ep, k _ _ (.inl rfl) e, c⟩
  | set S n => obtain ⟨ob, es, ep, t, e, c⟩ := x; exact ⟨ob, es, ep, t, k _ _ (.inl rfl) e, c⟩
  | ins C dx fs =>
    obtain ⟨d, z, ne, e, mA, ⟨od, es, ep, e2, c⟩, r⟩ := x
    exact ⟨ho _ d, z, ne, k _ _ (.inl rfl) e, mA, ⟨od, es, ep, k _ _ (.inr d) e2, c⟩, r⟩
  | own y => obtain ⟨ob, e⟩ := x; exact ⟨ob, k _ _ (.inl rfl) e⟩
  | xd fs => obtain ⟨mA, ⟨od, es, ep, e, c⟩, r⟩ := x; exact ⟨mA, ⟨od, es, ep, k _ _ (.inl rfl) e, c⟩, r⟩
  | rng lo hi => obtain ⟨t, u, v, e⟩ := x; exact ⟨t, u, v, k _ _ (.inl rfl) e⟩
  | frz ob u ih => obtain ⟨e, q⟩ := x; exact ⟨k _ _ (.inl rfl) e, ih q⟩
  | tbl ps =>
    have e : h.get? a = some { cls := .none, data := .fields ps } := x
    show h'.get? a = some { cls := .none, data := .fields ps }
    exact k a _ (.inl rfl) e
  | met f y =>
    have e : h.get? a = some (PySem.W.methodObj (.ref f) (.ref y)) := x
    show h'.get? a = some (PySem.W.methodObj (.ref f) (.ref y))
    exact k a _ (.inl rfl) e
  | ext φ => obtain ⟨p, ⟨o, e⟩, st⟩ := x; exact ⟨st _ _ p fun o q => k _ _ (.inl rfl) q, ⟨o, k _ _ (.inl rfl) e⟩, st⟩
theorem HOk.lt (x : HOk P w H h) (e : H a = some o) : a < h.objs.size := (x a o e).lt
theorem HOk.fresh (x : HOk P w H h) (e : h.objs.size ≤ a) : H a = none := by
  cases q : H a with
  | none => rfl
  | some u => exact absurd (Nat.lt_of_lt_of_le (x.lt q) e) (Nat.lt_irrefl _)
/-- every object of the heap is kept -/
theorem HOk.kept (x : HOk P w H h) (k : ∀ b u, h.get? b = some u → h'.get? b = some u) : HOk P w H h' := fun a o e =>
  (x a o e).stay (fun b u _ q => k b u q) (fun _ q => q) fun _ _ q => q
/-- a new object is laid and tracked -/
theorem HOk.laid (x : HOk P w H h) (k : ∀ b u, h.get? b = some u → h'.get? b = some u) (hp : h.objs.size ≤ a) (new : ObjOk P w (upd H a o) h' a o) : HOk P w (upd H a o) h' := fun b u e => by
  have hn := x.fresh hp
  by_cases hb : b = a
  · subst hb; rw [upd_same] at e; cases e; exact new
  · rw [upd_ne hb] at e
    exact (x b u e).stay (fun c v _ q => k c v q) (fun c q => by rw [upd_ne (ne_of_none q hn)]; exact q) fun c xs q => by rw [upd_ne (ne_of_none q hn)]; exact q
end

/-- what may be read as u: it is u, or a known u -/
def Rd (H : Hp) (a : Addr) (u : HO) : Prop := H a = some u ∨ ∃ o, H a = some (.frz o u)
theorem Rd.of {H : Hp} {a : Addr} {u : HO} (h : H a = some u) : Rd H a u := .inl h
theorem Rd.ok {P : Program} {w : World} {H : Hp} {h : Heap} {a : Addr} {u : HO} (r : Rd H a u) (x : HOk P w H h) : ObjOk P w H h a u := by
  rcases r with r | ⟨o, r⟩
  · exact x a u r
  · obtain ⟨_, q⟩ := x a _ r
    exact q
/-- what may be written -/
def Mut : Option HO → Prop
  | some (.lst _) => True
  | some (.dK _) => True
  | some (.dT _) => True
  | some (.set _ _) => True
  | some (.ins _ _ _) => True
  | some (.ext _) => True
  | _ => False
section
variable {P : Program} {w : World} {H : Hp} {h h' : Heap} {x e : Addr} {o' : HO}
/-- the object at e is changed: x itself, or the dict of the instance x -/
theorem HOk.write (ok : HOk P w H h) (mu : Mut (H x)) (he : e = x ∨ H e = some (.own x)) (k : ∀ b u, b ≠ e → h.get? b = some u → h'.get? b = some u) (heo : ∃ u, h'.get? e = some u)
    (new : ObjOk P w (upd H x o') h' x o') : HOk P w (upd H x o') h' := fun b u q => by
  have nown : ∀ c y, H c = some (.own y) → c ≠ x := fun c y r z => by subst z; rw [r] at mu; exact mu
  have ntup : ∀ c xs, H c = some (.tup xs) → c ≠ x := fun c xs r z => by subst z; rw [r] at mu; exact mu
  by_cases hb : b = x
  · subst hb; rw [upd_same] at q; cases q; exact new
  · rw [upd_ne hb] at q
    by_cases hbe : b = e
    · have q' : H b = some (.own x) := by
        rcases he with z | z
        · exact absurd (hbe.trans z) hb
        · rw [hbe]; exact z
      rw [q] at q'; cases q'
      obtain ⟨v, hv⟩ := heo
      exact ⟨v, by rw [hbe]; exact hv⟩
    · refine (ok b u q).stay (fun c v hc r => k c v ?_ r) (fun c r => by rw [upd_ne (nown c b r)]; exact r) fun c xs r => by rw [upd_ne (ntup c xs r)]; exact r
      rcases hc with rfl | hc
      · exact hbe
      · rintro rfl
        rcases he with z | z
        · exact nown c b hc z
        · rw [hc] at z; cases z; exact hb rfl
end

/-! ### kept unless tracked; of the frames at fs (the callers') the slots may change (an exception that passes writes there); of the records at ex (iterators) nothing is said -/
structure Un (fs ex : List Addr) (H H' : Hp) (h h' : Heap) : Prop where
  keep : ∀ b o, h.get? b = some o → H b = none → b ∉ fs → b ∉ ex → h'.get? b = some o
  slot : ∀ b o, h.get? b = some o → H b = none → b ∈ fs → b ∉ ex → ∃ sl, h'.get? b = some { o with slots := sl }
  free : ∀ b o, h.get? b = some o → H b = none → b ∉ ex → H' b = none
  there : ∀ b o, h.get? b = some o → b ∉ ex → ∃ o', h'.get? b = some o'
  tups : ∀ b xs, H b = some (.tup xs) → H' b = some (.tup xs)
  frzs : ∀ b o u, H b = some (.frz o u) → H' b = some (.frz o u)
  tbls : ∀ b ps, H b = some (.tbl ps) → ∃ more, H' b = some (.tbl (ps ++ more))
section
variable {fs fs' ex ex' : List Addr} {H H1 H2 : Hp} {h h1 h2 h' : Heap} {a x e : Addr} {o : HO}
theorem Un.any (u : Un fs ex H H1 h h1) {b : Addr} {ob : Obj} (q : h.get? b = some ob) (n : H b = none) (hx : b ∉ ex) : ∃ sl, h1.get? b = some { ob with slots := sl } := by
  by_cases hb : b ∈ fs
  · exact u.slot b ob q n hb hx
  · exact ⟨ob.slots, u.keep b ob q n hb hx⟩
theorem Un.trans (a : Un fs ex H H1 h h1) (b : Un fs ex H1 H2 h1 h2) : Un fs ex H H2 h h2 where
  keep := fun c ob q n hc hx => b.keep c ob (a.keep c ob q n hc hx) (a.free c ob q n hx) hc hx
  slot := fun c ob q n hc hx => by
    obtain ⟨sl, e1⟩ := a.slot c ob q n hc hx
    obtain ⟨sl', e2⟩ := b.slot c _ e1 (a.free c ob q n hx) hc hx
    exact ⟨sl', e2⟩
  free := fun c ob q n hx => by
    obtain ⟨o', e1⟩ := a.there c ob q hx
    exact b.free c o' e1 (a.free c ob q n hx) hx
  there := fun c ob q hx => by
    obtain ⟨o', e1⟩ := a.there c ob q hx
    exact b.there c o' e1 hx
  tups := fun c xs q => b.tups c xs (a.tups c xs q)
  frzs := fun c ob xs q => b.frzs c ob xs (a.frzs c ob xs q)
  tbls := fun c ps q => by
    obtain ⟨m1, e1⟩ := a.tbls c ps q
    obtain ⟨m2, e2⟩ := b.tbls c _ e1
    exact ⟨m1 ++ m2, by rw [e2, Array.append_assoc]⟩
theorem Un.kept (k : ∀ b u, h.get? b = some u → h'.get? b = some u) : Un fs ex H H h h' :=
  ⟨fun b ob q _ _ _ => k b ob q, fun b ob q _ _ _ => ⟨ob.slots, k b ob q⟩, fun _ _ _ n _ => n, fun b ob q _ => ⟨ob, k b ob q⟩, fun _ _ q => q, fun _ _ _ q => q, fun _ ps q => ⟨#[], by rw [q]; simp⟩⟩
theorem Un.refl : Un fs ex H H h h := Un.kept fun _ _ q => q
theorem Un.laid (k : ∀ b u, h.get? b = some u → h'.get? b = some u) (hp : h.objs.size ≤ a) (hn : H a = none) : Un fs ex H (upd H a o) h h' where
  keep := fun b u q _ _ _ => k b u q
  slot := fun b u q _ _ _ => ⟨u.slots, k b u q⟩
  free := fun b u q n _ => by rw [upd_ne (Nat.ne_of_lt (Nat.lt_of_lt_of_le (Heap.lt_size q) hp))]; exact n
  there := fun b u q _ => ⟨u, k b u q⟩
  tups := fun b xs q => by rw [upd_ne (ne_of_none q hn)]; exact q
  frzs := fun b u xs q => by rw [upd_ne (ne_of_none q hn)]; exact q
  tbls := fun b ps q => ⟨#[], by rw [upd_ne (ne_of_none q hn), q]; simp⟩
theorem Un.write (mu : Mut (H x)) (he : e = x ∨ H e = some (.own x)) (k : ∀ b u, b ≠ e → h.get? b = some u → h'.get? b = some u) (heo : ∃ u, h'.get? e = some u) : Un fs ex H (upd H x o) h h' := by
  have hx : ∀ b, H b = none → b ≠ x := fun b n z => by subst z; rw [n] at mu; exact mu
  have hb : ∀ b, H b = none → b ≠ e := fun b n z => by
    subst z
    rcases he with r | r
    · exact hx b n r
    · rw [n] at r; cases r
  have hm : ∀ b u, H b = some u → ¬ Mut (some u) → b ≠ x := fun b u q nm z => by subst z; rw [q] at mu; exact nm mu
  refine ⟨fun b u q n _ _ => k b u (hb b n) q, fun b u q n _ _ => ⟨u.slots, k b u (hb b n) q⟩, fun b u q n _ => by rw [upd_ne (hx b n)]; exact n, fun b u q _ => ?_,
    fun b xs q => by rw [upd_ne (hm b _ q fun z => z)]; exact q, fun b u xs q => by rw [upd_ne (hm b _ q fun z => z)]; exact q, fun b ps q => ⟨#[], by rw [upd_ne (hm b _ q fun z => z), q]; simp⟩⟩
  by_cases hbe : b = e
  · subst hbe; exact heo
  · exact ⟨u, k b u hbe q⟩
theorem Un.mono (u : Un fs ex H H1 h h1) (hs : ∀ b ∈ fs, b ∈ fs') (hx : ∀ b ∈ ex, b ∈ ex') : Un fs' ex' H H1 h h1 :=
  ⟨fun b ob q n hb he => u.keep b ob q n (fun z => hb (hs b z)) fun z => he (hx b z), fun _ _ q n _ he => u.any q n fun z => he (hx _ z), fun b ob q n he => u.free b ob q n fun z => he (hx b z), fun b ob q he => u.there b ob q fun z => he (hx b z), u.tups, u.frzs, u.tbls⟩
end

/-! ### the heap without what is tracked -/
def trk (h : Heap) (H : Hp) : List Addr := (List.range h.objs.size).filter fun a => (H a).isSome
def hidT (h : Heap) (H : Hp) : Heap := PySem.W.hideAll h (trk h H)
theorem hidT_size (h : Heap) (H : Hp) : (hidT h H).objs.size = h.objs.size := PySem.W.hideAll_size _ _
theorem hidT_get {h : Heap} {H : Hp} {b : Addr} {o : Obj} (e : h.get? b = some o) (n : H b = none) : (hidT h H).get? b = some o :=
  PySem.W.hideAll_get _ e fun hm => by
    have q : (H b).isSome = true := (List.mem_filter.mp hm).2
    rw [n] at q; simp at q
theorem of_hidT {h : Heap} {H : Hp} {b : Addr} {o : Obj} (e : (hidT h H).get? b = some o) : h.get? b = some o ∧ H b = none := by
  have e' : h.get? b = some o := PySem.W.of_hideAll (trk h H) e
  refine ⟨e', ?_⟩
  cases q : H b with
  | none => rfl
  | some x =>
    have hm : b ∈ trk h H := List.mem_filter.mpr ⟨List.mem_range.mpr (Heap.lt_size e'), by simp [q]⟩
    have z : (hidT h H).get? b = none := PySem.W.hideAll_none (trk h H) hm
    rw [z] at e; cases e

/-! ### OpenK's ledger, filled with every new object but one -/
def allNews (g h : Heap) (L : Addr) : List (Addr × Obj) := (List.range h.objs.size).filterMap fun a => if a = L ∨ (g.get? a).isSome = true then none else (h.get? a).map fun o => (a, o)
def rest (g h : Heap) (L d : Addr) : List (Addr × Obj) := (allNews g h L).filter fun p => decide (p.1 ≠ d)
end L2

namespace L2
open PySem PySem.Spec PyProof.Rows

/-- the module's facts, over the base: the heap at the law's entry without what is tracked there -/
structure Mod (K : PySem.W.Frag) (mg : Str → Option Value) (base : Heap) : Prop where
  kin : K.In base
  glob : base.Ns mainGlobals mg
  blt : ∃ mb, base.Ns builtinsNs mb ∧ ∀ x : Str, x ≠ "__name__" → mb x = bootBuiltins x
  nolimit : base.NoLimit

/-- the context: a def's body (or a comprehension's block) running. base: fixed through the whole law; s₀, H₀: the entry; outer: the frames whose slots others may change (a def's callers); stack: all frames that run;
   ex: iterators that were made ahead of the entry and are walked here (a comprehension's); fn: the names whose cells were made at the entry (a def: all; a comprehension's block: its own); calm: not within an except suite; pn: pins that every state bears; xe: what is wanted of an exception that leaves the code -/
structure Cx where
  prog : Program
  w : World
  K : PySem.W.Frag
  mg : Str → Option Value
  base : Heap
  A : Around
  N : List Str
  s₀ : Shared
  H₀ : Hp
  env : Env
  outer : List Env
  stack : List Env
  ex : List Addr
  fn : Str → Bool
  calm : Bool
  pn : List (Addr × Obj)
  xe : Value → Shared → Prop
/-- the callers' frames -/
def frs (l : List Env) : List Addr := l.filterMap (·.frame)
abbrev Cx.fs (X : Cx) : List Addr := frs X.outer

def Vis (sc : Scope) (x : Str) : Prop := sc.names.lookup x = some .local ∨ sc.names.lookup x = some .cell ∨ sc.names.lookup x = some .free
def Loc (sc : Scope) (x : Str) : Prop := sc.names.lookup x = some .local ∨ sc.names.lookup x = some .cell
def Look (env : Env) (h : Heap) (m : Str → Option Value) (x : Str) (u : Value) : Prop :=
  (env.kindOf x = some .local ∧ m x = some u) ∨ ((env.kindOf x = some .cell ∨ env.kindOf x = some .free) ∧ ∃ c, env.cells.lookup x = some c ∧ h.IsCell c (some u))

structure Cx.Ok (X : Cx) : Prop where
  mod : Mod X.K X.mg X.base
  kind : X.env.scope.kind = .function
  glob : X.env.globals = mainGlobals
  blt : X.env.builtins = builtinsNs
  above : X.s₀.heap.objs.size ≤ X.env.locals
  inj : ∀ x y c, X.env.cells.lookup x = some c → X.env.cells.lookup y = some c → x = y
  has : ∀ x, (X.env.kindOf x = some .cell ∨ X.env.kindOf x = some .free) → ∃ c, X.env.cells.lookup x = some c
  cab : ∀ x c, X.fn x = true → X.env.cells.lookup x = some c → X.s₀.heap.objs.size ≤ c
  hd : X.calm = true → X.A.handled = none
  frames : X.A.frames = some X.stack
  stk : X.stack = X.outer ∨ (X.stack = X.env :: X.outer ∧ X.env.frame = some X.env.locals)
  exf : ∀ b ∈ X.ex, b ≠ X.env.locals ∧ ∀ x c, X.env.cells.lookup x = some c → c ≠ b
  bs : ∀ b o, X.base.get? b = some o → X.s₀.heap.get? b = some o ∧ X.H₀ b = none
  bsz : X.base.objs.size ≤ X.s₀.heap.objs.size
  noex : ∀ b o, X.base.get? b = some o → b ∉ X.ex
  exfs : ∀ b ∈ X.ex, b ∉ X.fs
  funs : X.s₀.heap.FunFrames X.base X.outer
  frf : ∀ b ∈ X.fs, X.H₀ b = none

structure Inv (X : Cx) (pins : List (Addr × Obj)) (σ : List (Option V)) (H : Hp) (s : Shared) : Prop where
  ok : X.Ok
  os : s.os = X.s₀.os
  bare : AllBare s.gens
  base : Un X.fs X.ex X.H₀ H X.s₀.heap s.heap
  loc : ∃ m, s.heap.Ns X.env.locals m ∧ ∀ (i : Nat) (x : Str) (v : V), X.N[i]? = some x → σ[i]? = some (some v) → Vis X.env.scope x → ∃ u, RelV v u ∧ Look X.env s.heap m x u
  cell : ∀ x c, X.env.cells.lookup x = some c → ∃ v, s.heap.IsCell c v
  free : H X.env.locals = none
  freeC : ∀ x c, X.env.cells.lookup x = some c → H c = none
  pin : ∀ p ∈ X.pn ++ pins, s.heap.get? p.1 = some p.2 ∧ H p.1 = none ∧ p.1 ≠ X.env.locals ∧ p.1 ∉ X.fs ∧ ∀ v, p.2.data ≠ .cell v
  hok : HOk X.prog X.w H s.heap
  len : σ.length = X.N.length

section
variable {X : Cx} {pins : List (Addr × Obj)} {σ : List (Option V)} {H H' : Hp} {s : Shared} {h' : Heap}

theorem Cx.Ok.nofr (ok : X.Ok) {b : Addr} {o : Obj} (e : X.base.get? b = some o) : b ∉ X.fs := fun hb => by
  have := (ok.funs.mem hb).1
  rw [e] at this; cases this
theorem Inv.bs (I : Inv X pins σ H s) : ∀ b o, X.base.get? b = some o → s.heap.get? b = some o ∧ H b = none := fun b o e =>
  ⟨I.base.keep b o (I.ok.bs b o e).1 (I.ok.bs b o e).2 (I.ok.nofr e) (I.ok.noex b o e), I.base.free b o (I.ok.bs b o e).1 (I.ok.bs b o e).2 (I.ok.noex b o e)⟩
theorem Inv.bk (I : Inv X pins σ H s) : ∀ b o, X.base.get? b = some o → s.heap.get? b = some o := fun b o e => (I.bs b o e).1
theorem Inv.mod (I : Inv X pins σ H s) : Mod X.K X.mg X.base := I.ok.mod
theorem Inv.kIn (I : Inv X pins σ H s) : X.K.In s.heap := I.ok.mod.kin.keeps I.bk
theorem Inv.nolimit (I : Inv X pins σ H s) : s.heap.NoLimit := I.ok.mod.nolimit.keeps I.bk
/-- the frame over the base: for OpenK's rules (K.In X.base is I.mod.kin) -/
theorem Inv.fr (I : Inv X pins σ H s) : ∃ m, Fr X.base X.env.locals s.heap m :=
  let ⟨m, hn, _⟩ := I.loc
  ⟨m, hn, I.bk, Nat.le_trans I.ok.bsz I.ok.above⟩
theorem Inv.lt (I : Inv X pins σ H s) : X.env.locals < s.heap.objs.size := let ⟨_, hn, _⟩ := I.loc; hn.lt
theorem Inv.sz (I : Inv X pins σ H s) : X.s₀.heap.objs.size ≤ s.heap.objs.size := Nat.le_trans I.ok.above (Nat.le_of_lt I.lt)
theorem Inv.nofs (I : Inv X pins σ H s) {a : Addr} (h : s.heap.objs.size ≤ a) : a ∉ X.fs := fun hb => by
  obtain ⟨_, o, ho, _⟩ := I.ok.funs.mem hb
  exact absurd (Nat.lt_of_lt_of_le (Heap.lt_size ho) (Nat.le_trans I.sz h)) (Nat.lt_irrefl _)
theorem Inv.cne (I : Inv X pins σ H s) : ∀ x c, X.env.cells.lookup x = some c → c ≠ X.env.locals := fun x c e z => by
  obtain ⟨v, o, ho, hd⟩ := I.cell x c e
  obtain ⟨m, ⟨o', es, ep, ho', hd', _⟩, _⟩ := I.loc
  rw [z, ho'] at ho; cases ho; rw [hd'] at hd; cases hd
theorem Inv.funs (I : Inv X pins σ H s) : s.heap.FunFrames X.base X.outer := by
  have all : ∀ (l : List Env), (∀ b ∈ frs l, b ∈ X.fs) → X.s₀.heap.FunFrames X.base l → s.heap.FunFrames X.base l := by
    intro l
    induction l with
    | nil => intro _ _; trivial
    | cons env r ih =>
      intro hs hl
      obtain ⟨hk, ⟨L, o, hf, hn, ho, hd⟩, hr⟩ := hl
      have hL : L ∈ X.fs := hs L (by unfold frs; rw [List.filterMap_cons, hf]; exact List.mem_cons_self)
      obtain ⟨sl, e⟩ := I.base.slot L o ho (I.ok.frf L hL) hL fun z => I.ok.exfs L z hL
      exact ⟨hk, ⟨L, _, hf, hn, e, hd⟩, ih (fun b hb => hs b (by unfold frs; rw [List.filterMap_cons, hf]; exact List.mem_cons_of_mem _ hb)) hr⟩
  exact all X.outer (fun _ hb => hb) I.ok.funs

/-- the frames that run, for a call -/
theorem Inv.stack (I : Inv X pins σ H s) : s.heap.FunFrames X.base X.stack := by
  rcases I.ok.stk with e | ⟨e, hf⟩
  · rw [e]; exact I.funs
  · rw [e]
    obtain ⟨m, hn, _⟩ := I.loc
    refine .cons (by rw [I.ok.kind]; decide) hf hn ?_ I.funs
    exact Heap.get?_none_of_le (Nat.le_trans I.ok.bsz I.ok.above)
theorem Inv.stkSub (I : Inv X pins σ H s) : ∀ b ∈ frs X.stack, b ∈ X.env.locals :: X.fs := fun b hb => by
  rcases I.ok.stk with e | ⟨e, hf⟩
  · rw [e] at hb; exact List.mem_cons_of_mem _ hb
  · rw [e] at hb
    unfold frs at hb
    rw [List.filterMap_cons, hf] at hb
    exact hb
theorem Inv.stkFree (I : Inv X pins σ H s) : ∀ b ∈ frs X.stack, H b = none := fun b hb => by
  rcases List.mem_cons.mp (I.stkSub b hb) with e | hb
  · rw [e]; exact I.free
  · obtain ⟨_, o, ho, _⟩ := I.ok.funs.mem hb
    exact I.base.free b o ho (I.ok.frf b hb) fun z => I.ok.exfs b z hb

/-- THE STEP: the untracked objects but the frame and the records at ch are kept (the callers' frames up to slots), the frame's map is kept, the new abstract heap is held -/
theorem Inv.step {g' : Array GenState} {t' : Nat} {d' : Drawn} {ch : List Addr} (I : Inv X pins σ H s)
    (hch : ∀ b ∈ ch, (b ∈ X.ex ∨ X.s₀.heap.objs.size ≤ b) ∧ b ≠ X.env.locals ∧ (∀ x c, X.env.cells.lookup x = some c → c ≠ b) ∧ ∀ p ∈ X.pn ++ pins, p.1 ≠ b)
    (keep : ∀ b o, b ≠ X.env.locals → b ∉ X.fs → b ∉ ch → s.heap.get? b = some o → H b = none → h'.get? b = some o)
    (slot : ∀ b o, b ≠ X.env.locals → b ∈ X.fs → b ∉ ch → s.heap.get? b = some o → H b = none → ∃ sl, h'.get? b = some { o with slots := sl }) (free : ∀ b o, b ∉ ch → s.heap.get? b = some o → H b = none → H' b = none)
    (there : ∀ b o, b ∉ ch → s.heap.get? b = some o → ∃ o', h'.get? b = some o')
    (tups : ∀ b xs, H b = some (.tup xs) → H' b = some (.tup xs)) (frzs : ∀ b o u, H b = some (.frz o u) → H' b = some (.frz o u)) (tbls : ∀ b ps, H b = some (.tbl ps) → ∃ more, H' b = some (.tbl (ps ++ more)))
    (ns : ∀ m, s.heap.Ns X.env.locals m → h'.Ns X.env.locals m) (hok : HOk X.prog X.w H' h') (hg : AllBare g') :
    Inv X pins σ H' { s with heap := h', gens := g', drawn := d', toks := t' } := by
  have neL : ∀ b o, X.s₀.heap.get? b = some o → b ≠ X.env.locals := fun b o e => Nat.ne_of_lt (Nat.lt_of_lt_of_le (Heap.lt_size e) I.ok.above)
  have neC : ∀ b o, X.s₀.heap.get? b = some o → b ∉ X.ex → b ∉ ch := fun b o e hx hb => by
    rcases (hch b hb).1 with z | z
    · exact hx z
    · exact absurd (Nat.lt_of_lt_of_le (Heap.lt_size e) z) (Nat.lt_irrefl _)
  have cellK : ∀ x c, X.env.cells.lookup x = some c → ∀ v, s.heap.IsCell c v → h'.IsCell c v := fun x c e v ⟨o, ho, hd⟩ => by
    have nch : c ∉ ch := fun z => (hch c z).2.2.1 x c e rfl
    by_cases hc : c ∈ X.fs
    · obtain ⟨sl, q⟩ := slot c o (I.cne x c e) hc nch ho (I.freeC x c e)
      exact ⟨_, q, hd⟩
    · exact ⟨o, keep c o (I.cne x c e) hc nch ho (I.freeC x c e), hd⟩
  refine ⟨I.ok, I.os, hg, ⟨fun b o e n hb hx => ?_, fun b o e n hb hx => ?_, fun b o e n hx => ?_, fun b o e hx => ?_, fun b xs e => tups b xs (I.base.tups b xs e), fun b o xs e => frzs b o xs (I.base.frzs b o xs e), fun b ps e => ?_⟩, ?_, fun x c e => ?_, ?_, fun x c e => ?_, fun p hp => ?_, hok, I.len⟩
  · exact keep b o (neL b o e) hb (neC b o e hx) (I.base.keep b o e n hb hx) (I.base.free b o e n hx)
  · obtain ⟨sl, e1⟩ := I.base.slot b o e n hb hx
    obtain ⟨sl', e2⟩ := slot b _ (neL b o e) hb (neC b o e hx) e1 (I.base.free b o e n hx)
    exact ⟨sl', e2⟩
  · obtain ⟨o', e1⟩ := I.base.there b o e hx
    exact free b o' (neC b o e hx) e1 (I.base.free b o e n hx)
  · obtain ⟨o', e1⟩ := I.base.there b o e hx
    exact there b o' (neC b o e hx) e1
  · obtain ⟨m1, e1⟩ := I.base.tbls b ps e
    obtain ⟨m2, e2⟩ := tbls b _ e1
    exact ⟨m1 ++ m2, by rw [e2, Array.append_assoc]⟩
  · obtain ⟨m, hn, hl⟩ := I.loc
    refine ⟨m, ns m hn, fun i x v e1 e2 e3 => ?_⟩
    obtain ⟨u, r, l⟩ := hl i x v e1 e2 e3
    refine ⟨u, r, ?_⟩
    rcases l with l | ⟨k, c, e, z⟩
    · exact .inl l
    · exact .inr ⟨k, c, e, cellK x c e _ z⟩
  · obtain ⟨v, z⟩ := I.cell x c e
    exact ⟨v, cellK x c e v z⟩
  · obtain ⟨m, ⟨o, _, _, ho, _⟩, _⟩ := I.loc
    exact free _ o (fun z => (hch _ z).2.1 rfl) ho I.free
  · obtain ⟨v, o, ho, hd⟩ := I.cell x c e
    exact free c o (fun z => (hch c z).2.2.1 x c e rfl) ho (I.freeC x c e)
  · obtain ⟨e, n, ne, nf, d⟩ := I.pin p hp
    have nch : p.1 ∉ ch := fun z => (hch p.1 z).2.2.2 p hp rfl
    exact ⟨keep p.1 p.2 ne nf nch e n, free p.1 p.2 nch e n, ne, nf, d⟩
/-- .. where the frame's own object is kept too -/
theorem Inv.un {t' : Nat} (I : Inv X pins σ H s) (u : Un X.fs [] H H' s.heap h') (hok : HOk X.prog X.w H' h') : Inv X pins σ H' { s with heap := h', toks := t' } := by
  obtain ⟨m, ⟨o, es, ep, ho, r⟩, _⟩ := id I.loc
  obtain ⟨sl, hL⟩ := u.any ho I.free (by simp)
  exact I.step (g' := s.gens) (d' := s.drawn) (ch := []) (fun _ z => nomatch z) (fun b o _ hb _ e n => u.keep b o e n hb (by simp)) (fun b o _ hb _ e n => u.slot b o e n hb (by simp)) (fun b o _ e n => u.free b o e n (by simp)) (fun b o _ e => u.there b o e (by simp)) u.tups u.frzs u.tbls (fun m' hm => by
    obtain ⟨o', es', ep', ho', r'⟩ := hm
    rw [ho] at ho'; cases ho'
    exact ⟨_, es', ep', hL, r'⟩) hok I.bare
/-- behind a call (or a comprehension's block): the slots of this frame may have changed too, the records at ch may have turned -/
theorem Inv.call {g' : Array GenState} {t' : Nat} {d' : Drawn} {ch : List Addr} (I : Inv X pins σ H s) (u : Un (frs X.stack) ch H H' s.heap h') (hok : HOk X.prog X.w H' h') (hg : AllBare g')
    (hch : ∀ b ∈ ch, (b ∈ X.ex ∨ X.s₀.heap.objs.size ≤ b) ∧ b ≠ X.env.locals ∧ (∀ x c, X.env.cells.lookup x = some c → c ≠ b) ∧ ∀ p ∈ X.pn ++ pins, p.1 ≠ b) :
    Inv X pins σ H' { s with heap := h', gens := g', drawn := d', toks := t' } := by
  obtain ⟨m, ⟨o, es, ep, ho, r⟩, _⟩ := id I.loc
  obtain ⟨sl, hL⟩ := u.any ho I.free fun z => (hch _ z).2.1 rfl
  exact I.step (ch := ch) hch (fun b o hL hb hc e n => u.keep b o e n (fun z => (List.mem_cons.mp (I.stkSub b z)).elim hL hb) hc) (fun b o _ _ hc e n => u.any e n hc) (fun b o hc e n => u.free b o e n hc) (fun b o hc e => u.there b o e hc) u.tups u.frzs u.tbls (fun m' hm => by
    obtain ⟨o', es', ep', ho', r'⟩ := hm
    rw [ho] at ho'; cases ho'
    exact ⟨_, es', ep', hL, r'⟩) hok hg
/-- an untracked record of ours (an iterator) has turned -/
theorem Inv.turned {t' : Nat} {it : Addr} (I : Inv X pins σ H s) (k : ∀ b o, b ≠ it → s.heap.get? b = some o → h'.get? b = some o) (hn : H it = none) (hL : it ≠ X.env.locals)
    (h1 : it ∈ X.ex ∨ X.s₀.heap.objs.size ≤ it) (h2 : ∀ x c, X.env.cells.lookup x = some c → c ≠ it) (h3 : ∀ p ∈ X.pn ++ pins, p.1 ≠ it) : Inv X pins σ H { s with heap := h', toks := t' } := by
  have nit : ∀ b u, H b = some u → b ≠ it := fun b u e z => by rw [z, hn] at e; cases e
  refine I.step (g' := s.gens) (d' := s.drawn) (ch := [it]) (fun b hb => ?_) (fun b o _ _ hc e _ => k b o (fun z => hc (by simp [z])) e) (fun b o _ _ hc e _ => ⟨o.slots, k b o (fun z => hc (by simp [z])) e⟩) (fun _ _ _ _ n => n)
    (fun b o hc e => ⟨o, k b o (fun z => hc (by simp [z])) e⟩) (fun _ _ e => e) (fun _ _ _ e => e) (fun b ps e => ⟨#[], by rw [e]; simp⟩) (fun m hm => ?_) (fun b u e => ?_) I.bare
  · have e : b = it := by simpa using hb
    subst e
    exact ⟨h1, hL, h2, h3⟩
  · obtain ⟨o, es, ep, ho, r⟩ := hm
    exact ⟨o, es, ep, k _ o (Ne.symm hL) ho, r⟩
  · refine (I.hok b u e).stay (fun c v hc q => k c v ?_ q) (fun _ q => q) fun _ _ q => q
    rcases hc with z | z
    · rw [z]; exact nit b u e
    · exact nit c _ z
theorem Inv.tok (I : Inv X pins σ H s) (t : Nat) : Inv X pins σ H { s with toks := t } := I.un (h' := s.heap) (t' := t) Un.refl I.hok
/-- all objects kept -/
theorem Inv.kept {t' : Nat} (I : Inv X pins σ H s) (k : ∀ b u, s.heap.get? b = some u → h'.get? b = some u) : Inv X pins σ H { s with heap := h', toks := t' } := I.un (Un.kept k) (I.hok.kept k)
/-- a new object laid and tracked -/
theorem Inv.laid {a : Addr} {o : HO} {t' : Nat} (I : Inv X pins σ H s) (k : ∀ b u, s.heap.get? b = some u → h'.get? b = some u) (hp : s.heap.objs.size ≤ a) (new : ObjOk X.prog X.w (upd H a o) h' a o) :
    Inv X pins σ (upd H a o) { s with heap := h', toks := t' } := I.un (Un.laid k hp (I.hok.fresh hp)) (I.hok.laid k hp new)
/-- an object written -/
theorem Inv.write {x e : Addr} {o : HO} {t' : Nat} (I : Inv X pins σ H s) (mu : Mut (H x)) (he : e = x ∨ H e = some (.own x)) (k : ∀ b u, b ≠ e → s.heap.get? b = some u → h'.get? b = some u) (heo : ∃ u, h'.get? e = some u)
    (new : ObjOk X.prog X.w (upd H x o) h' x o) : Inv X pins σ (upd H x o) { s with heap := h', toks := t' } := I.un (Un.write mu he k heo) (I.hok.write mu he k heo new)
theorem Inv.pins_of {pins' : List (Addr × Obj)} (I : Inv X pins σ H s) (h : ∀ p ∈ pins', s.heap.get? p.1 = some p.2 ∧ H p.1 = none ∧ p.1 ≠ X.env.locals ∧ p.1 ∉ X.fs ∧ ∀ v, p.2.data ≠ .cell v) : Inv X pins' σ H s :=
  ⟨I.ok, I.os, I.bare, I.base, I.loc, I.cell, I.free, I.freeC, fun p hp => (List.mem_append.mp hp).elim (fun z => I.pin p (List.mem_append_left _ z)) (h p), I.hok, I.len⟩

theorem nodup_ix {N : List Str} (hN : N.Nodup) {i j : Nat} {x : Str} (a : N[i]? = some x) (b : N[j]? = some x) : i = j := by
  obtain ⟨h1, e1⟩ := List.getElem?_eq_some_iff.mp a
  obtain ⟨h2, e2⟩ := List.getElem?_eq_some_iff.mp b
  exact (List.getElem_inj hN).mp (e1.trans e2.symm)

/-- a name is stored; what changed -/
theorem store_ok2 {M : Model} {A : Around} {E : Value → Shared → Prop} {i : Nat} {x : Str} {v : V} {u : Value} {Q : Unit → Shared → Prop} (I : Inv X pins σ H s) (hN : X.N.Nodup) (hi : X.N[i]? = some x) (hx : Loc X.env.scope x) (r : RelV v u)
    (h : ∀ s', Inv X pins (σ.set i (some v)) H s' → (∃ a, Heap.SameBut a s.heap s'.heap ∧ (a = X.env.locals ∨ X.env.cells.lookup x = some a)) → Q () s') (hf : X.fn x = true ∨ X.env.scope.names.lookup x = some .local := by first | exact .inl rfl | exact .inr rfl | assumption) : wpAny M A (storeName X.env x u) Q E s := by
  obtain ⟨m, hn, hl⟩ := id I.loc
  have hcls : (X.env.scope.kind == .class || (X.env.scope.kind == .module && X.env.locals != X.env.globals)) = false := by rw [I.ok.kind]; rfl
  have hiσ : i < σ.length := by rw [I.len]; exact (List.getElem?_eq_some_iff.mp hi).1
  have cne := I.cne
  have tracked : ∀ {a : Addr} {h' : Heap}, (∃ o, s.heap.get? a = some o ∧ H a = none) → Heap.SameBut a s.heap h' → HOk X.prog X.w H h' := fun {a h'} ha hs b ob e => by
    obtain ⟨_, _, hfree⟩ := ha
    refine (I.hok b ob e).stay (fun c w' hc q => (hs.2 c ?_).trans q) (fun _ q => q) fun _ _ q => q
    rintro rfl
    rcases hc with rfl | hc
    · rw [hfree] at e; cases e
    · rw [hfree] at hc; cases hc
  rcases hx with hk | hk
  · refine wpAny_storeName_local hk hn (fun h' hn' hs => ?_) hcls
    obtain ⟨oL, _, _, hoL, _⟩ := id hn
    refine h _ ⟨I.ok, I.os, I.bare, ⟨fun b o e n hb hx => ?_, fun b o e n hb hx => ?_, I.base.free, fun b o e hx => ?_, I.base.tups, I.base.frzs, I.base.tbls⟩, ⟨_, hn', fun j y v' e1 e2 e3 => ?_⟩, fun y c e => ?_, I.free, I.freeC, fun p hp => ?_, tracked ⟨oL, hoL, I.free⟩ hs, by simpa using I.len⟩ ⟨_, hs, .inl rfl⟩
    · exact (hs.2 b (Nat.ne_of_lt (Nat.lt_of_lt_of_le (Heap.lt_size e) I.ok.above))).trans (I.base.keep b o e n hb hx)
    · obtain ⟨sl, e1⟩ := I.base.slot b o e n hb hx
      exact ⟨sl, (hs.2 b (Nat.ne_of_lt (Nat.lt_of_lt_of_le (Heap.lt_size e) I.ok.above))).trans e1⟩
    · obtain ⟨o', e1⟩ := I.base.there b o e hx
      exact ⟨o', (hs.2 b (Nat.ne_of_lt (Nat.lt_of_lt_of_le (Heap.lt_size e) I.ok.above))).trans e1⟩
    · by_cases hj : j = i
      · subst hj
        rw [hi] at e1; cases e1
        rw [List.getElem?_set_self hiσ] at e2
        cases e2
        exact ⟨u, r, .inl ⟨hk, by simp⟩⟩
      · rw [List.getElem?_set_ne (Ne.symm hj)] at e2
        obtain ⟨u', r', q⟩ := hl j y v' e1 e2 e3
        refine ⟨u', r', ?_⟩
        rcases q with ⟨k, e⟩ | ⟨k, c, e, z⟩
        · refine .inl ⟨k, ?_⟩
          have : y ≠ x := fun e => hj (nodup_ix hN e1 (e ▸ hi))
          simp [this, e]
        · exact .inr ⟨k, c, e, z.sameBut hs (cne y c e)⟩
    · obtain ⟨w', z⟩ := I.cell y c e
      exact ⟨w', z.sameBut hs (cne y c e)⟩
    · obtain ⟨e, n, ne, nf, d⟩ := I.pin p hp
      exact ⟨(hs.2 p.1 ne).trans e, n, ne, nf, d⟩
  · have hfn : X.fn x = true := by
      rcases hf with z | z
      · exact z
      · rw [z] at hk; cases hk
    obtain ⟨c, hc⟩ := I.ok.has x (.inl hk)
    obtain ⟨w', z⟩ := I.cell x c hc
    refine wpAny_storeName_cell I.ok.kind hk hc z (fun h' hc' hs => ?_)
    obtain ⟨oc, hoc, hocd⟩ := id z
    refine h { s with heap := h' } ⟨I.ok, I.os, I.bare, ⟨fun b o e n hb hx => ?_, fun b o e n hb hx => ?_, I.base.free, fun b o e hx => ?_, I.base.tups, I.base.frzs, I.base.tbls⟩, ⟨m, hn.sameBut hs (Ne.symm (cne x c hc)), fun j y v' e1 e2 e3 => ?_⟩, fun y c' e => ?_, I.free, I.freeC, fun p hp => ?_, tracked ⟨oc, hoc, I.freeC x c hc⟩ hs, by simpa using I.len⟩ ⟨c, hs, .inr hc⟩
    · exact (hs.2 b (Nat.ne_of_lt (Nat.lt_of_lt_of_le (Heap.lt_size e) (I.ok.cab x c hfn hc)))).trans (I.base.keep b o e n hb hx)
    · obtain ⟨sl, e1⟩ := I.base.slot b o e n hb hx
      exact ⟨sl, (hs.2 b (Nat.ne_of_lt (Nat.lt_of_lt_of_le (Heap.lt_size e) (I.ok.cab x c hfn hc)))).trans e1⟩
    · obtain ⟨o', e1⟩ := I.base.there b o e hx
      exact ⟨o', (hs.2 b (Nat.ne_of_lt (Nat.lt_of_lt_of_le (Heap.lt_size e) (I.ok.cab x c hfn hc)))).trans e1⟩
    · by_cases hj : j = i
      · subst hj
        rw [hi] at e1; cases e1
        rw [List.getElem?_set_self hiσ] at e2
        cases e2
        exact ⟨u, r, .inr ⟨.inl hk, c, hc, hc'⟩⟩
      · rw [List.getElem?_set_ne (Ne.symm hj)] at e2
        obtain ⟨u', r', q⟩ := hl j y v' e1 e2 e3
        refine ⟨u', r', ?_⟩
        rcases q with q | ⟨k, c', e, z'⟩
        · exact .inl q
        · refine .inr ⟨k, c', e, z'.sameBut hs ?_⟩
          rintro rfl
          exact hj (nodup_ix hN e1 (I.ok.inj _ _ _ e hc ▸ hi))
    · by_cases hcc : c' = c
      · subst hcc; exact ⟨_, hc'⟩
      · obtain ⟨w2, z2⟩ := I.cell y c' e
        exact ⟨w2, z2.sameBut hs hcc⟩
    · obtain ⟨e, n, ne, nf, d⟩ := I.pin p hp
      refine ⟨(hs.2 p.1 ?_).trans e, n, ne, nf, d⟩
      intro q
      rw [q, hoc] at e
      have q' : oc = p.2 := Option.some.inj e
      exact d w' (by rw [← q']; exact hocd)
theorem store_ok {M : Model} {A : Around} {E : Value → Shared → Prop} {i : Nat} {x : Str} {v : V} {u : Value} {Q : Unit → Shared → Prop} (I : Inv X pins σ H s) (hN : X.N.Nodup) (hi : X.N[i]? = some x) (hx : Loc X.env.scope x) (r : RelV v u)
    (h : ∀ s', Inv X pins (σ.set i (some v)) H s' → Q () s') (hf : X.fn x = true ∨ X.env.scope.names.lookup x = some .local := by first | exact .inl rfl | exact .inr rfl | assumption) : wpAny M A (storeName X.env x u) Q E s :=
  store_ok2 I hN hi hx r (fun s' I' _ => h s' I') hf
/-- behind a call or a block, the state as it is -/
theorem Inv.call' {s' : Shared} {ch : List Addr} (I : Inv X pins σ H s) (ho : s'.os = s.os) (u : Un (frs X.stack) ch H H' s.heap s'.heap) (hok : HOk X.prog X.w H' s'.heap) (hg : AllBare s'.gens)
    (hch : ∀ b ∈ ch, (b ∈ X.ex ∨ X.s₀.heap.objs.size ≤ b) ∧ b ≠ X.env.locals ∧ (∀ x c, X.env.cells.lookup x = some c → c ≠ b) ∧ ∀ p ∈ X.pn ++ pins, p.1 ≠ b) : Inv X pins σ H' s' := by
  obtain ⟨h', g', d', t', o'⟩ := s'
  have e : o' = s.os := ho
  subst e
  exact I.call (g' := g') (t' := t') (d' := d') u hok hg hch
end

/-! ### the judgements -/
/-- an exception: its class, its own dict's address (where it has one), the abstract heap behind it -/
abbrev XK := Value → Option Addr → Hp → Prop
abbrev St := List (Option V)
abbrev VK := V → Hp → Prop
/-- an expression's reading; a test's; an argument list's -/
abbrev TE := St → Hp → VK → Prop
abbrev TT := St → Hp → (Bool → Hp → Prop) → Prop
abbrev TA := St → Hp → (List V → Hp → Prop) → Prop
/-- what is wanted behind a statement -/
structure Ends where
  nx : St → Hp → Prop
  rt : VK
  bk : St → Hp → Prop := fun _ _ => False
  ct : St → Hp → Prop := fun _ _ => False
abbrev TS := Ends → St → Hp → Prop

def EP (X : Cx) (pins : List (Addr × Obj)) (σ : St) (Q : VK) (u : Value) (s' : Shared) : Prop := ∃ v H', Inv X pins σ H' s' ∧ RelV v u ∧ Q v H'
def TP (X : Cx) (pins : List (Addr × Obj)) (σ : St) (Q : Bool → Hp → Prop) (b : Bool) (s' : Shared) : Prop := ∃ H', Inv X pins σ H' s' ∧ Q b H'
def AP (X : Cx) (pins : List (Addr × Obj)) (σ : St) (Q : List V → Hp → Prop) (us : List Value) (s' : Shared) : Prop := ∃ vs H', Inv X pins σ H' s' ∧ Vals vs us ∧ Q vs H'
def SP (X : Cx) (pins : List (Addr × Obj)) (D : Ends) (f : Flow) (s' : Shared) : Prop :=
  match f with
  | .next => ∃ σ' H', Inv X pins σ' H' s' ∧ D.nx σ' H'
  | .brk => ∃ σ' H', Inv X pins σ' H' s' ∧ D.bk σ' H'
  | .cont => ∃ σ' H', Inv X pins σ' H' s' ∧ D.ct σ' H'
  | .ret u => ∃ v σ' H', Inv X pins σ' H' s' ∧ RelV v u ∧ D.rt v H'

def PE (X : Cx) (e : Expr) (t : TE) : Prop :=
  ∀ (pins : List (Addr × Obj)) (s : Shared) (σ : St) (H : Hp) (Q : VK), Inv X pins σ H s → t σ H Q → wpAny (model X.prog X.w) X.A (eval e X.env) (EP X pins σ Q) X.xe s
def PT (X : Cx) (e : Expr) (t : TT) : Prop :=
  ∀ (pins : List (Addr × Obj)) (s : Shared) (σ : St) (H : Hp) (Q : Bool → Hp → Prop), Inv X pins σ H s → t σ H Q → wpAny (model X.prog X.w) X.A (isTrue e X.env (eval e X.env)) (TP X pins σ Q) X.xe s
/-- a test whatever its 'whole' is (and, or) -/
def PW (X : Cx) (e : Expr) (t : TT) : Prop :=
  ∀ (whole : Sem Value) (pins : List (Addr × Obj)) (s : Shared) (σ : St) (H : Hp) (Q : Bool → Hp → Prop), Inv X pins σ H s → t σ H Q → wpAny (model X.prog X.w) X.A (isTrue e X.env whole) (TP X pins σ Q) X.xe s
theorem PW.pt {X : Cx} {e : Expr} {t : TT} (h : PW X e t) : PT X e t := h _
/-- an argument list (no star), from the left -/
def PA (X : Cx) (es : List Expr) (t : TA) : Prop :=
  ∀ (pos : Pos) (pins : List (Addr × Obj)) (s : Shared) (σ : St) (H : Hp) (Q : List V → Hp → Prop), Inv X pins σ H s → t σ H Q → wpAny (model X.prog X.w) X.A (spliced (backTo pos (starEach es X.env))) (AP X pins σ Q) X.xe s
def PS (X : Cx) (st : Stmt) (t : TS) : Prop :=
  ∀ (pins : List (Addr × Obj)) (s : Shared) (σ : St) (H : Hp) (D : Ends), Inv X pins σ H s → t D σ H → wpAny (model X.prog X.w) X.A (exec st X.env) (SP X pins D) X.xe s
def PSs (X : Cx) (st : List Stmt) (t : TS) : Prop :=
  ∀ (pins : List (Addr × Obj)) (s : Shared) (σ : St) (H : Hp) (D : Ends), Inv X pins σ H s → t D σ H → wpAny (model X.prog X.w) X.A (execs st X.env) (SP X pins D) X.xe s
/-- weaken the end -/
theorem thn {α : Type} {t : Sem α} {Q Q' : α → Shared → Prop} {M : Model} {A : Around} {E : Value → Shared → Prop} {s : Shared} (h : wpAny M A t Q E s) (hQ : ∀ a s, Q a s → Q' a s) : wpAny M A t Q' E s := wpAny_mono h hQ fun _ _ x => x
end L2

namespace L2
open PySem PySem.Spec PyProof.Rows
section
variable {X : Cx}

/-! ### names and constants -/
def tVar (i : Nat) : TE := fun σ H Q => ∃ v, σ[i]? = some (some v) ∧ Q v H
def tC (v : V) : TE := fun _ H Q => Q v H
theorem pe_var {i : Nat} {x : Str} {pos : Pos} (hN : X.N[i]? = some x) (hv : Vis X.env.scope x) (hd : (x == ("__debug__" : Str)) = false := by decide) (hcd : (x == ("__classdict__" : Str)) = false := by decide) : PE X (.Name x pos) (tVar i) := by
  intro pins s σ H Q I h
  obtain ⟨v, e, h⟩ := h
  obtain ⟨m, hn, hl⟩ := I.loc
  obtain ⟨u, r, l⟩ := hl i x v hN e hv
  have fin : EP X pins σ Q u s := ⟨v, H, I, r, h⟩
  rcases l with ⟨hk, hm⟩ | ⟨hk, c, hc, hcell⟩
  · exact wpAny_Name (wpAny_loadName_local I.ok.kind hk hn hm fin) hd
  · rcases hk with hk | hk
    · exact wpAny_Name (wpAny_loadName_cell I.ok.kind hk hc hcell fin) hd
    · exact wpAny_Name (wpAny_loadName_free I.ok.kind hk hc hcell fin hcd) hd
theorem pe_int {i j pos} : PE X (.Constant (.int i) j pos) (tC (.int i)) := fun _ _ _ H _ I h => wpAny_Constant_int ⟨.int i, H, I.tok _, ⟨_, rfl⟩, h⟩
theorem pe_bl {b j pos} : PE X (.Constant (.bool b) j pos) (tC (.bl b)) := fun _ _ _ H _ I h => Constant_bool ⟨.bl b, H, I, rfl, h⟩
theorem pe_non {j pos} : PE X (.Constant .none j pos) (tC .non) := fun _ _ _ H _ I h => Constant_none ⟨.non, H, I, rfl, h⟩
theorem pe_str {x j pos} : PE X (.Constant (.str x) j pos) (tC (.str x)) := fun _ _ _ H _ I h => Calls.Constant_str ⟨.str x, H, I.tok _, ⟨_, rfl⟩, h⟩

/-- a global name of the def -/
def Gl (X : Cx) (x : Str) : Prop := X.env.kindOf x = some .globalImplicit
theorem ld_glob {E : Value → Shared → Prop} {pins : List (Addr × Obj)} {s : Shared} {σ : St} {H : Hp} {x : Str} {u : Value} {pos : Pos} {Q : Value → Shared → Prop} (I : Inv X pins σ H s) (hg : Gl X x) (hm : X.mg x = some u) (h : Q u s)
    (hd : (x == ("__debug__" : Str)) = false := by decide) : wpAny (model X.prog X.w) X.A (eval (.Name x pos) X.env) Q E s :=
  Calls.Name_function_global I.ok.kind hg (Calls.loadGlobal_global (by rw [I.ok.glob]; exact I.mod.glob.keeps I.bk) hm h) hd
theorem ld_blt {E : Value → Shared → Prop} {pins : List (Addr × Obj)} {s : Shared} {σ : St} {H : Hp} {x : Str} {u : Value} {pos : Pos} {Q : Value → Shared → Prop} (I : Inv X pins σ H s) (hg : Gl X x) (hm : X.mg x = none) (hv : bootBuiltins x = some u) (h : Q u s)
    (hn : x ≠ "__name__" := by decide) (hd : (x == ("__debug__" : Str)) = false := by decide) : wpAny (model X.prog X.w) X.A (eval (.Name x pos) X.env) Q E s := by
  obtain ⟨mb, h1, h2⟩ := I.mod.blt
  exact Calls.Name_function_global I.ok.kind hg (Calls.loadGlobal_builtin (by rw [I.ok.glob]; exact I.mod.glob.keeps I.bk) hm (by rw [I.ok.blt]; exact h1.keeps I.bk) ((h2 x hn).trans hv) h) hd
/-- a module's constant, a class, a function, as a value -/
theorem pe_glob {x : Str} {v : V} {u : Value} {pos : Pos} (hg : Gl X x) (hm : X.mg x = some u) (r : RelV v u) (hd : (x == ("__debug__" : Str)) = false := by decide) : PE X (.Name x pos) (tC v) :=
  fun _ _ _ H _ I h => ld_glob I hg hm ⟨v, H, I, r, h⟩ hd
theorem pe_bltn {x : Str} {v : V} {u : Value} {pos : Pos} (hg : Gl X x) (hm : X.mg x = none) (hv : bootBuiltins x = some u) (r : RelV v u) (hn : x ≠ "__name__" := by decide) (hd : (x == ("__debug__" : Str)) = false := by decide) : PE X (.Name x pos) (tC v) :=
  fun _ _ _ H _ I h => ld_blt I hg hm hv ⟨v, H, I, r, h⟩ hn hd

/-! ### arithmetic -/
variable {a b : Expr} {ta tb : TE} {pos : Pos}
/-! ### comparisons -/
/-- a comparison as a value, as a test -/
def tB (t : TE) : TT := fun σ H Q => t σ H fun x H1 => ∃ c, x = .bl c ∧ Q c H1
/-- an expression whose value is a bool, as a test -/
theorem pt_val {e : Expr} {t : TE} (h : PE X e t) (he : ∀ whole, isTrue e X.env whole = (do let v ← whole; standAt e.pos; holding [v] (truthy v)) := by intro _; rfl) : PT X e (tB t) := by
  intro pins s σ H Q I hw
  refine isTrue_plain (thn (h pins s σ H _ I hw) fun v s1 ⟨x, H1, I1, r1, q1⟩ => ?_) (he _)
  obtain ⟨d, rfl, q⟩ := q1
  cases r1
  exact wpAny_truthy_bool ⟨H1, I1, q⟩

/-! ### and, or, not -/
variable {tA tB' : TT} {rest : List Expr}
def tAnd (t u : TT) : TT := fun σ H Q => t σ H fun c H1 => if c = true then u σ H1 Q else Q false H1
def tOr (t u : TT) : TT := fun σ H Q => t σ H fun c H1 => if c = true then Q true H1 else u σ H1 Q
def tNot (t : TT) : TT := fun σ H Q => t σ H fun c H1 => Q (!c) H1
theorem pw_and1 (ha : PT X a tA) : PW X (.BoolOp .And [a] pos) tA := by
  intro wh pins s σ H Q I h
  refine isTrue_and (thn (ha pins s σ H Q I h) fun c s1 e => ?_)
  cases c with
  | true => exact isTrue_and_nil e
  | false => exact e
theorem pw_or1 (ha : PT X a tA) : PW X (.BoolOp .Or [a] pos) tA := by
  intro wh pins s σ H Q I h
  refine isTrue_or (thn (ha pins s σ H Q I h) fun c s1 e => ?_)
  cases c with
  | false => exact isTrue_or_nil e
  | true => exact e
theorem pw_and (ha : PT X a tA) (hb : PW X (.BoolOp .And (b :: rest) pos) tB') : PW X (.BoolOp .And (a :: b :: rest) pos) (tAnd tA tB') := by
  intro wh pins s σ H Q I h
  refine isTrue_and (thn (ha pins s σ H _ I h) fun c s1 ⟨H1, I1, q1⟩ => ?_)
  cases c with
  | true => exact hb wh pins s1 σ H1 Q I1 q1
  | false => exact ⟨H1, I1, q1⟩
theorem pw_or (ha : PT X a tA) (hb : PW X (.BoolOp .Or (b :: rest) pos) tB') : PW X (.BoolOp .Or (a :: b :: rest) pos) (tOr tA tB') := by
  intro wh pins s σ H Q I h
  refine isTrue_or (thn (ha pins s σ H _ I h) fun c s1 ⟨H1, I1, q1⟩ => ?_)
  cases c with
  | true => exact ⟨H1, I1, q1⟩
  | false => exact hb wh pins s1 σ H1 Q I1 q1
theorem pt_not (ha : PT X a tA) : PT X (.UnaryOp .Not a pos) (tNot tA) := by
  intro pins s σ H Q I h
  exact isTrue_not (ha pins s σ H (fun c H1 => Q (!c) H1) I h)
/-- .. as values (bools) -/
def tAndV (ta tb : TE) : TE := fun σ H Q => ta σ H fun x H1 => ∃ c, x = .bl c ∧ if c = true then tb σ H1 Q else Q (.bl false) H1
def tOrV (ta tb : TE) : TE := fun σ H Q => ta σ H fun x H1 => ∃ c, x = .bl c ∧ if c = true then Q (.bl true) H1 else tb σ H1 Q
def tNotV (ta : TE) : TE := fun σ H Q => ta σ H fun x H1 => ∃ c, x = .bl c ∧ Q (.bl (!c)) H1
theorem pe_one {op} {t : TE} (h : PE X a t) : PE X (.BoolOp op [a] pos) t := fun pins s σ H Q I hw => BoolOp_one (h pins s σ H Q I hw)
theorem pe_and (ha : PE X a ta) (hb : PE X (.BoolOp .And (b :: rest) pos) tb) : PE X (.BoolOp .And (a :: b :: rest) pos) (tAndV ta tb) := by
  intro pins s σ H Q I h
  refine BoolOp_and (thn (ha pins s σ H _ I h) fun v s1 ⟨x, H1, I1, r1, q1⟩ => ?_)
  obtain ⟨c, rfl, q1⟩ := q1
  cases r1
  refine wpAny_truthy_bool ?_
  cases c with
  | true => exact hb pins s1 σ H1 Q I1 q1
  | false => exact ⟨.bl false, H1, I1, rfl, q1⟩
theorem pe_or (ha : PE X a ta) (hb : PE X (.BoolOp .Or (b :: rest) pos) tb) : PE X (.BoolOp .Or (a :: b :: rest) pos) (tOrV ta tb) := by
  intro pins s σ H Q I h
  refine BoolOp_or (thn (ha pins s σ H _ I h) fun v s1 ⟨x, H1, I1, r1, q1⟩ => ?_)
  obtain ⟨c, rfl, q1⟩ := q1
  cases r1
  refine wpAny_truthy_bool ?_
  cases c with
  | false => exact hb pins s1 σ H1 Q I1 q1
  | true => exact ⟨.bl true, H1, I1, rfl, q1⟩
theorem pe_not (ha : PE X a ta) : PE X (.UnaryOp .Not a pos) (tNotV ta) := by
  intro pins s σ H Q I h
  refine UnaryOp_ (thn (ha pins s σ H _ I h) fun v s1 ⟨x, H1, I1, r1, q1⟩ => ?_)
  obtain ⟨c, rfl, q1⟩ := q1
  cases r1
  exact not_of (wpAny_truthy_bool ⟨.bl (!c), H1, I1, rfl, q1⟩)
/-- a if t else b -/
def tIf (t : TT) (ta tb : TE) : TE := fun σ H Q => t σ H fun c H1 => if c = true then ta σ H1 Q else tb σ H1 Q
end
end L2

namespace L2
open PySem PySem.Spec PyProof.Rows

/-! ### a list, a tuple that is read: tracked, frozen, or an object of the module -/
def SqL (K : PySem.W.Frag) (H : Hp) (a : Addr) (xs : List V) : Prop :=
  Rd H a (.lst xs) ∨
    ∃ (o : Obj) (its : Array Value) (n : Nat), K.lookup a = some o ∧ o.cls = .type "list" ∧ o.dict = none ∧ o.data = .seq its n ∧ its.size ≤ sizeLine ∧ Vals xs its.toList
def SqT (K : PySem.W.Frag) (H : Hp) (a : Addr) (xs : List V) : Prop :=
  Rd H a (.tup xs) ∨
    ∃ (o : Obj) (its : Array Value) (n : Nat), K.lookup a = some o ∧ o.cls = .type "tuple" ∧ o.data = .seq its n ∧ its.size ≤ sizeLine ∧ Vals xs its.toList
def absV : Value → Option V
  | .none => some .non
  | .bool b => some (.bl b)
  | .int i _ => some (.int i)
  | .str x _ => some (.str x)
  | .bytes b _ => some (.byt b)
  | .float b _ => some (.flt b)
  | .ref a => some (.ref a)
  | .type n => some (.ty n)
  | _ => none
theorem RelV.abs {x : V} {u : Value} (r : RelV x u) : absV u = some x := by
  cases x with
  | non => cases r; rfl
  | bl _ => cases r; rfl
  | int _ => obtain ⟨t, rfl⟩ := r; rfl
  | str _ => obtain ⟨t, rfl⟩ := r; rfl
  | byt _ => obtain ⟨t, rfl⟩ := r; rfl
  | flt _ => obtain ⟨t, rfl⟩ := r; rfl
  | ref _ => cases r; rfl
  | ty _ => cases r; rfl
theorem RelV.inj {x y : V} {u : Value} (r : RelV x u) (q : RelV y u) : x = y := Option.some.inj (r.abs.symm.trans q.abs)
theorem Vals.inj : ∀ {xs ys : List V} {us : List Value}, Vals xs us → Vals ys us → xs = ys
  | _, _, _, .nil, .nil => rfl
  | _, _, _, .cons r t, .cons r' t' => by rw [r.inj r', Vals.inj t t']
section
variable {X : Cx} {pins : List (Addr × Obj)} {σ : St} {H : Hp} {s : Shared} {a : Addr} {xs ys : List V}
theorem SqL.of {K : PySem.W.Frag} (h : H a = some (.lst xs)) : SqL K H a xs := .inl (.inl h)
theorem SqT.of {K : PySem.W.Frag} (h : H a = some (.tup xs)) : SqT K H a xs := .inl (.inl h)
theorem Inv.list (I : Inv X pins σ H s) (h : SqL X.K H a xs) : ∃ its : List Value, Vals xs its ∧ PlainL s.heap a its.toArray ∧ xs.length ≤ sizeLine := by
  rcases h with h | ⟨o, its, n, hk, hc, hd, hs, hz, r⟩
  · obtain ⟨z, its, n, r, e⟩ := h.ok I.hok
    exact ⟨its, r, ⟨_, n, e, rfl, rfl, rfl⟩, z⟩
  · refine ⟨its.toList, r, ⟨o, n, I.kIn a o hk, hc, hd, by simpa using hs⟩, ?_⟩
    have e := r.length
    simp only [Array.length_toList] at e
    omega
theorem Inv.tuple (I : Inv X pins σ H s) (h : SqT X.K H a xs) : ∃ its : List Value, Vals xs its ∧ IsTup s.heap a its.toArray ∧ xs.length ≤ sizeLine := by
  rcases h with h | ⟨o, its, n, hk, hc, hs, hz, r⟩
  · obtain ⟨z, its, r, p⟩ := h.ok I.hok
    exact ⟨its, r, p, z⟩
  · refine ⟨its.toList, r, ⟨o, I.kIn a o hk, hc, n, by simpa using hs⟩, ?_⟩
    have e := r.length
    simp only [Array.length_toList] at e
    omega
theorem Inv.list_inj (I : Inv X pins σ H s) (h : SqL X.K H a xs) (h' : SqL X.K H a ys) : xs = ys := by
  obtain ⟨its, r, ⟨o, n, e, _, _, d⟩, _⟩ := I.list h
  obtain ⟨its', r', ⟨o', n', e', _, _, d'⟩, _⟩ := I.list h'
  rw [e] at e'; cases e'
  rw [d] at d'
  injection d' with d1 _
  have : its = its' := by simpa using congrArg Array.toList d1
  subst this
  exact r.inj r'
end

/-! ### another wish about exceptions -/
abbrev Cx.wish (X : Cx) (E : Value → Shared → Prop) : Cx := { X with xe := E }
/-- no exception leaves -/
abbrev Cx.nox (X : Cx) : Cx := X.wish fun _ _ => False
theorem Cx.Ok.wish {X : Cx} (ok : X.Ok) (E : Value → Shared → Prop) : (X.wish E).Ok :=
  ⟨ok.mod, ok.kind, ok.glob, ok.blt, ok.above, ok.inj, ok.has, ok.cab, ok.hd, ok.frames, ok.stk, ok.exf, ok.bs, ok.bsz, ok.noex, ok.exfs, ok.funs, ok.frf⟩
theorem Cx.Ok.unwish {X : Cx} {E : Value → Shared → Prop} (ok : (X.wish E).Ok) : X.Ok :=
  ⟨ok.mod, ok.kind, ok.glob, ok.blt, ok.above, ok.inj, ok.has, ok.cab, ok.hd, ok.frames, ok.stk, ok.exf, ok.bs, ok.bsz, ok.noex, ok.exfs, ok.funs, ok.frf⟩
section
variable {X : Cx} {pins : List (Addr × Obj)} {σ : St} {H : Hp} {s : Shared} {E : Value → Shared → Prop}
theorem Inv.wish (I : Inv X pins σ H s) (E : Value → Shared → Prop) : Inv (X.wish E) pins σ H s := ⟨I.ok.wish E, I.os, I.bare, I.base, I.loc, I.cell, I.free, I.freeC, I.pin, I.hok, I.len⟩
theorem Inv.unwish (I : Inv (X.wish E) pins σ H s) : Inv X pins σ H s := ⟨I.ok.unwish, I.os, I.bare, I.base, I.loc, I.cell, I.free, I.freeC, I.pin, I.hok, I.len⟩
theorem SP.unwish {D : Ends} {f : Flow} {s' : Shared} (h : SP (X.wish E) pins D f s') : SP X pins D f s' := by
  cases f with
  | next => obtain ⟨σ', H', I, q⟩ := h; exact ⟨σ', H', I.unwish, q⟩
  | brk => obtain ⟨σ', H', I, q⟩ := h; exact ⟨σ', H', I.unwish, q⟩
  | cont => obtain ⟨σ', H', I, q⟩ := h; exact ⟨σ', H', I.unwish, q⟩
  | ret u => obtain ⟨v, σ', H', I, r, q⟩ := h; exact ⟨v, σ', H', I.unwish, r, q⟩
theorem PE.nox {e : Expr} {t : TE} (h : PE X.nox e t) : PE X e t := fun pins s σ H Q I hw =>
  wpAny_mono (h pins s σ H Q (I.wish _) hw) (fun _ _ ⟨v, H', I', r, q⟩ => ⟨v, H', I'.unwish, r, q⟩) fun _ _ z => False.elim z
theorem PT.nox {e : Expr} {t : TT} (h : PT X.nox e t) : PT X e t := fun pins s σ H Q I hw =>
  wpAny_mono (h pins s σ H Q (I.wish _) hw) (fun _ _ ⟨H', I', q⟩ => ⟨H', I'.unwish, q⟩) fun _ _ z => False.elim z
theorem PSs.nox {st : List Stmt} {t : TS} (h : PSs X.nox st t) : PSs X st t := fun pins s σ H D I hw =>
  wpAny_mono (h pins s σ H D (I.wish _) hw) (fun _ _ q => q.unwish) fun _ _ z => False.elim z
end

/-! ### blocks and small statements -/
section
variable {X : Cx} {st : Stmt} {rest : List Stmt} {t u : TS} {e : Expr} {te : TE} {pos : Pos}
def tNext : TS := fun D σ H => D.nx σ H
def tSeq (t u : TS) : TS := fun D σ H => t { D with nx := u D } σ H
theorem pss_nil : PSs X [] tNext := fun _ _ σ H _ I h => wpAny_execs_nil ⟨σ, H, I, h⟩
theorem pss_cons (h1 : PS X st t) (h2 : PSs X rest u) : PSs X (st :: rest) (tSeq t u) := by
  intro pins s σ H D I h
  refine wpAny_execs_cons (thn (h1 pins s σ H { D with nx := u D } I h) fun f s1 q => ?_)
  cases f with
  | next =>
    obtain ⟨σ', H', I', q⟩ := q
    exact h2 pins s1 σ' H' D I' q
  | ret v => exact q
  | brk => exact q
  | cont => exact q
theorem pss_one (h1 : PS X st t) : PSs X [st] t := by
  intro pins s σ H D I h
  refine wpAny_execs_cons (thn (h1 pins s σ H D I h) fun f s1 q => ?_)
  cases f with
  | next => exact wpAny_execs_nil q
  | ret v => exact q
  | brk => exact q
  | cont => exact q
def tBreak : TS := fun D σ H => D.bk σ H
def tCont : TS := fun D σ H => D.ct σ H
/-- in a def's body nothing is shown -/
theorem Inv.quiet {pins : List (Addr × Obj)} {σ : St} {H : Hp} {s : Shared} (I : Inv X pins σ H s) : interactive X.env = false := by simp [interactive, I.ok.kind]
/-- an expression whose value is dropped -/
def tDrop (te : TE) : TS := fun D σ H => te σ H fun _ H1 => D.nx σ H1
theorem ps_expr (he : PE X e te) (hs : swapsWith e none pos.line X.env = pure false := by rfl) : PS X (.Expr e pos) (tDrop te) := by
  intro pins s σ H D I h
  exact wpAny_Expr_any (thn (he pins s σ H _ I h) fun v s1 ⟨x, H1, I1, r1, q1⟩ => ⟨σ, H1, I1, q1⟩) I.quiet hs
def tRet (te : TE) : TS := fun D σ H => te σ H D.rt
theorem ps_ret (he : PE X e te) : PS X (.Return (some e) pos) (tRet te) := by
  intro pins s σ H D I h
  exact wpAny_Return_some (thn (he pins s σ H _ I h) fun v s1 ⟨x, H1, I1, r1, q1⟩ => ⟨x, σ, H1, I1, r1, q1⟩)
def tRetN : TS := fun D _ H => D.rt .non H
def tIfS (c : TT) (t u : TS) : TS := fun D σ H => c σ H fun b H1 => if b = true then t D σ H1 else u D σ H1
theorem ps_if {c : Expr} {a b : List Stmt} {tc : TT} (hc : PT X c tc) (ha : PSs X a t) (hb : PSs X b u) : PS X (.If c a b pos) (tIfS tc t u) := by
  intro pins s σ H D I h
  refine wpAny_If (thn (hc pins s σ H _ I h) fun d s1 ⟨H1, I1, q1⟩ => ?_)
  cases d with
  | true => exact ha pins s1 σ H1 D I1 q1
  | false => exact hb pins s1 σ H1 D I1 q1
end

/-! ### targets -/
abbrev TG := V → St → Hp → (St → Hp → Prop) → Prop
abbrev TGs := List V → St → Hp → (St → Hp → Prop) → Prop
def PG (X : Cx) (target : Expr) (t : TG) : Prop :=
  ∀ (pins : List (Addr × Obj)) (s : Shared) (σ : St) (H : Hp) (v : V) (u : Value) (Q : St → Hp → Prop), Inv X pins σ H s → RelV v u → t v σ H Q →
    wpAny (model X.prog X.w) X.A (assign target X.env u) (fun _ s' => ∃ σ' H', Inv X pins σ' H' s' ∧ Q σ' H') X.xe s
/-- several targets, one after another -/
def PGs (X : Cx) (ts : List Expr) (t : TGs) : Prop :=
  ∀ (pins : List (Addr × Obj)) (s : Shared) (σ : St) (H : Hp) (vs : List V) (us : List Value) (Q : St → Hp → Prop), Inv X pins σ H s → Vals vs us → t vs σ H Q →
    wpAny (model X.prog X.w) X.A (assignInOrder ((assignEach ts X.env).map (·.2)) us) (fun _ s' => ∃ σ' H', Inv X pins σ' H' s' ∧ Q σ' H') X.xe s
/-- o[i] = v, by values -/
abbrev TSet := V → V → V → Hp → (Hp → Prop) → Prop
def PSet (X : Cx) (t : TSet) : Prop :=
  ∀ (pins : List (Addr × Obj)) (s : Shared) (σ : St) (H : Hp) (o i v : V) (ov iv u : Value) (Q : Hp → Prop), Inv X pins σ H s → RelV o ov → RelV i iv → RelV v u → t o i v H Q →
    wpAny (model X.prog X.w) X.A (setItem ov iv u) (fun _ s' => ∃ H', Inv X pins σ H' s' ∧ Q H') X.xe s
section
variable {X : Cx} {pos : Pos}
def gName (i : Nat) : TG := fun v σ H Q => Q (σ.set i (some v)) H
theorem pg_name {i : Nat} {x : Str} (hN : X.N.Nodup) (hi : X.N[i]? = some x) (hx : Loc X.env.scope x) (hf : X.fn x = true ∨ X.env.scope.names.lookup x = some .local := by first | exact .inl rfl | exact .inr rfl | assumption) : PG X (.Name x pos) (gName i) := by
  intro pins s σ H v u Q I r h
  exact wpAny_assign_Name (store_ok I hN hi hx r (fun s' I' => ⟨_, H, I', h⟩) hf)
def gNil : TGs := fun vs σ H Q => vs = [] ∧ Q σ H
def gCons (t : TG) (u : TGs) : TGs := fun vs σ H Q => ∃ v r, vs = v :: r ∧ t v σ H fun σ' H' => u r σ' H' Q
theorem pgs_nil : PGs X [] gNil := by
  intro pins s σ H vs us Q I r h
  obtain ⟨e, h⟩ := h
  subst e
  cases r
  exact assignInOrder_nil ⟨σ, H, I, h⟩
theorem pgs_cons {e : Expr} {es : List Expr} {t : TG} {u : TGs} (h1 : PG X e t) (h2 : PGs X es u)
    (hs : (assignEach (e :: es) X.env).map (·.2) = assign e X.env :: (assignEach es X.env).map (·.2) := by rfl) : PGs X (e :: es) (gCons t u) := by
  intro pins s σ H vs us Q I r h
  obtain ⟨v, vr, e1, h⟩ := h
  subst e1
  cases r with
  | cons r rr =>
    rw [hs]
    refine assignInOrder_cons (thn (h1 pins s σ H _ _ _ I r h) fun _ s1 ⟨σ1, H1, I1, q1⟩ => ?_)
    exact h2 pins s1 σ1 H1 _ _ Q I1 rr q1
/-- (a, b, ..) = a tuple of that length -/
def gTup (K : PySem.W.Frag) (n : Nat) (t : TGs) : TG := fun v σ H Q => ∃ a xs, v = .ref a ∧ SqT K H a xs ∧ xs.length = n ∧ t xs σ H Q
theorem pg_tup {es : List Expr} {k : Nat} {t : TGs} {n : Nat} (hc : X.calm = true) (h : PGs X es t)
    (hn : (assignEach es X.env).length = n := by rfl) (hst : (assignEach es X.env).findIdx? (·.1) = none := by rfl) : PG X (.Tuple es k pos) (gTup X.K n t) := by
  intro pins s σ H v u Q I r hw
  obtain ⟨a, xs, e1, hq, hl, hw⟩ := hw
  subst e1
  cases r
  obtain ⟨its, rv, ht, hz⟩ := I.tuple hq
  refine assign_Tuple_tuple (I.ok.hd hc) ht (by simp [hn, ← hl, rv.length]) hst fun h' hx => ?_
  have I1 : Inv X pins σ H { s with heap := h' } := I.kept (t' := s.toks) fun b o e => hx b o (Nat.ne_of_lt (Heap.lt_size e)) e
  exact h pins _ σ H xs _ Q I1 (by simpa using rv) hw
/-- o[i] = .. -/
def gSub (to ti : TE) (t : TSet) : TG := fun v σ H Q => to σ H fun o H1 => ti σ H1 fun i H2 => t o i v H2 fun H3 => Q σ H3
theorem pg_sub {o i : Expr} {to ti : TE} {t : TSet} (ho : PE X o to) (hi : PE X i ti) (hs : PSet X t)
    (ha : ∀ v, assign (.Subscript o i pos) X.env v = (do
      let ov ← holding [v] (eval o X.env)
      let iv ← holding [v, ov] (eval i X.env)
      standAt pos
      holding [v, ov, iv] (setItem ov iv v)
      release [v, ov, iv] []) := by intro _; rfl) : PG X (.Subscript o i pos) (gSub to ti t) := by
  intro pins s σ H v u Q I r h
  rw [ha]
  refine wpAny_bind (wpAny_holding (thn (ho pins s σ H _ I h) fun ov s1 ⟨x, H1, I1, r1, q1⟩ => ?_))
  refine wpAny_bind (wpAny_holding (thn (hi pins s1 σ H1 _ I1 q1) fun iv s2 ⟨y, H2, I2, r2, q2⟩ => ?_))
  refine wpAny_bind (wpAny_standAt (wpAny_bind (wpAny_holding (thn (hs pins s2 σ H2 x y v ov iv u _ I2 r1 r2 r q2) fun _ s3 ⟨H3, I3, q3⟩ => ?_))))
  exact wpAny_release ⟨σ, H3, I3, q3⟩
/-- target = value -/
def tAsg (te : TE) (g : TG) : TS := fun D σ H => te σ H fun x H1 => g x σ H1 D.nx
theorem ps_asg {tg e : Expr} {te : TE} {g : TG} (he : PE X e te) (hg : PG X tg g) (hs : swapsWithSole [tg] e pos.line X.env = pure false := by rfl) (hw : swappedStores [tg] e X.env = pure none := by rfl)
    (h1 : (assignEach [tg] X.env).map (·.2) = [assign tg X.env] := by rfl) : PS X (.Assign [tg] e pos) (tAsg te g) := by
  intro pins s σ H D I h
  refine wpAny_Assign_stores (thn (he pins s σ H _ I h) fun v s1 ⟨x, H1, I1, r1, q1⟩ => ?_) hs hw
  rw [h1]
  exact thn (hg pins s1 σ H1 x v _ I1 r1 q1) fun _ s2 q => q
/-- name = value -/
theorem ps_set {i : Nat} {x : Str} {e : Expr} {te : TE} {pos' : Pos} (hN : X.N.Nodup) (hi : X.N[i]? = some x) (hx : Loc X.env.scope x) (he : PE X e te) (hs : swapsWith e (some (.Name x pos')) pos.line X.env = pure false := by rfl) (hf : X.fn x = true ∨ X.env.scope.names.lookup x = some .local := by first | exact .inl rfl | exact .inr rfl | assumption) :
    PS X (.Assign [.Name x pos'] e pos) (tAsg te (gName i)) := by
  intro pins s σ H D I h
  refine wpAny_Assign_Name (thn (he pins s σ H _ I h) fun v s1 ⟨y, H1, I1, r1, q1⟩ => ?_) hs
  exact store_ok I1 hN hi hx r1 (fun s2 I2 => ⟨_, H1, I2, q1⟩) hf
end

/-! ### while -/
section
variable {X : Cx} {pos : Pos}
/-- the invariant W with its measure -/
def tWhile (c : TT) (tb : TS) : TS := fun D σ H => ∃ W : Nat → St → Hp → Prop, (∃ m, W m σ H) ∧ ∀ m σ H, W m σ H →
  c σ H fun b H1 => if b = true then ∃ N : St → Hp → Prop, (∀ σ' H', N σ' H' → ∃ m', m' < m ∧ W m' σ' H') ∧ tb { D with nx := N, ct := N, bk := D.nx } σ H1 else D.nx σ H1
theorem ps_while {c : Expr} {body : List Stmt} {tc : TT} {tb : TS} (hp : PassesOwn (model X.prog X.w) X.A X.env X.xe) (hc : PT X c tc) (hb : PSs X body tb) : PS X (.While c body [] pos) (tWhile tc tb) := by
  intro pins s σ H D I h
  obtain ⟨W, ⟨m0, w0⟩, turn⟩ := h
  refine wpAny_While (codeAny_whileLoop (fun n s' => ∃ σ' H', Inv X pins σ' H' s' ∧ W n σ' H') ?_ m0 ⟨σ, H, I, w0⟩)
  rintro n s1 ⟨σ1, H1, I1, w1⟩
  refine wpAny_passesOwn hp (thn (hc pins s1 σ1 H1 _ I1 (turn n σ1 H1 w1)) fun b s2 ⟨H2, I2, q2⟩ => ?_)
  cases b with
  | true =>
    obtain ⟨N, hN, q2⟩ := q2
    rw [if_pos rfl]
    refine wpAny_passesOwn hp (thn (hb pins s2 σ1 H2 _ I2 q2) fun f s3 q3 => ?_)
    cases f with
    | next =>
      obtain ⟨σ3, H3, I3, n3⟩ := q3
      obtain ⟨m', hm, w3⟩ := hN σ3 H3 n3
      exact ⟨m', hm, σ3, H3, I3, w3⟩
    | cont =>
      obtain ⟨σ3, H3, I3, n3⟩ := q3
      obtain ⟨m', hm, w3⟩ := hN σ3 H3 n3
      exact ⟨m', hm, σ3, H3, I3, w3⟩
    | brk => exact q3
    | ret v => exact q3
  | false =>
    rw [if_neg Bool.false_ne_true]
    exact wpAny_execs_nil ⟨σ1, H2, I2, q2⟩
end

/-! ### what a loop or a comprehension walks -/
/-- at turn i: it yields x (the heap may grow), or it stops -/
structure It where
  go : Nat → Hp → Prop
  yld : Nat → Hp → V → Hp → Prop
  stop : Nat → Hp → Prop
/-- the iterator's own objects may turn: they are not the frame's, not pinned, younger than the entry (or a comprehension's own) -/
def FpOk (X : Cx) (pins : List (Addr × Obj)) (H : Hp) (b : Addr) : Prop :=
  H b = none ∧ b ≠ X.env.locals ∧ b ∉ X.fs ∧ (b ∈ X.ex ∨ X.s₀.heap.objs.size ≤ b) ∧ (∀ x c, X.env.cells.lookup x = some c → c ≠ b) ∧ ∀ p ∈ X.pn ++ pins, p.1 ≠ b
theorem Inv.fpOk {X : Cx} {pins : List (Addr × Obj)} {σ : St} {H H' : Hp} {s : Shared} {b : Addr} (I : Inv X pins σ H s) (hb : s.heap.objs.size ≤ b) (hn : H' b = none) : FpOk X pins H' b := by
  refine ⟨hn, Nat.ne_of_gt (Nat.lt_of_lt_of_le I.lt hb), I.nofs hb, .inr (Nat.le_trans I.sz hb), fun x c e z => ?_, fun p hp z => ?_⟩
  · obtain ⟨v, q⟩ := I.cell x c e
    exact absurd (Nat.lt_of_lt_of_le q.lt (by rw [z]; exact hb)) (Nat.lt_irrefl _)
  · exact absurd (Nat.lt_of_lt_of_le (Heap.lt_size (I.pin p hp).1) (by rw [z]; exact hb)) (Nat.lt_irrefl _)
structure Turn (P : Program) (w : World) (K : PySem.W.Frag) (tg : Expr) (J : It) (fp : List Addr) (it : Addr) (tn : Nat → Heap → Prop) : Prop where
  mem : it ∈ fp
  obj : ∀ i h, tn i h → ∀ b ∈ fp, ∃ o, h.get? b = some o ∧ ∀ v, o.data ≠ .cell v
  keep : ∀ i h h', tn i h → (∀ b ∈ fp, ∀ o, h.get? b = some o → h'.get? b = some o) → tn i h'
  item : ∀ (X : Cx), X.prog = P → X.w = w → X.K = K → X.calm = true → ∀ (i : Nat) (pins : List (Addr × Obj)) (s : Shared) (σ : St) (H : Hp) (E : Value → Shared → Prop), Inv X pins σ H s → (∀ b ∈ fp, FpOk X pins H b) → tn i s.heap → J.go i H →
    wpAny (model P w) X.A (pyNext (.ref it)) (fun r s1 => ∃ u, r = some u ∧
      wpAny (model P w) X.A (letOwnedTupleGo tg (.ref it) u) (fun _ s2 => ∃ x H', Inv X pins σ H' s2 ∧ RelV x u ∧ J.yld i H x H' ∧ tn (i + 1) s2.heap ∧ ∀ b ∈ fp, H' b = none) E s1) E s
  done : ∀ (X : Cx), X.prog = P → X.w = w → X.K = K → X.calm = true → ∀ (i : Nat) (pins : List (Addr × Obj)) (s : Shared) (σ : St) (H : Hp) (E : Value → Shared → Prop), Inv X pins σ H s → (∀ b ∈ fp, FpOk X pins H b) → tn i s.heap → J.stop i H →
    wpAny (model P w) X.A (pyNext (.ref it)) (fun r s1 => r = none ∧ Inv X pins σ H s1) E s
  self : ∀ (A : Around) (i : Nat) (s : Shared) (Q : Value → Shared → Prop) (E : Value → Shared → Prop), tn i s.heap → Q (.ref it) s → wpAny (model P w) A (pyIter (.ref it)) Q E s
abbrev TI := St → Hp → (It → Hp → Prop) → Prop
/-- an iterator has come -/
def PIE (X : Cx) (pins : List (Addr × Obj)) (σ : St) (tg : Expr) (R : It → Hp → Prop) (itv : Value) (s2 : Shared) : Prop :=
  ∃ (it : Addr) (fp : List Addr) (tn : Nat → Heap → Prop) (J : It) (H' : Hp), itv = .ref it ∧ Inv X pins σ H' s2 ∧ Turn X.prog X.w X.K tg J fp it tn ∧ tn 0 s2.heap ∧ (∀ b ∈ fp, FpOk X pins H' b) ∧ R J H'
def PI (X : Cx) (tg iter : Expr) (wi : TI) : Prop :=
  ∀ (pins : List (Addr × Obj)) (s : Shared) (σ : St) (H : Hp) (R : It → Hp → Prop), Inv X pins σ H s → wi σ H R →
    wpAny (model X.prog X.w) X.A (eval iter X.env) (fun v s1 => wpAny (model X.prog X.w) X.A (pyIter v) (PIE X pins σ tg R) X.xe s1) X.xe s

/-- the step ahead of the store is nothing for an iterator that keeps no tuple -/
theorem go_of {M : Model} {A : Around} {E : Value → Shared → Prop} {s : Shared} {tg : Expr} {it : Addr} {u : Value} {o : Obj} {n : String} {vs : Array Value} {Q : Unit → Shared → Prop} (ho : s.heap.get? it = some o) (hc : o.cls = .type n) (hd : o.data = .fields vs)
    (hn : ["enumerate", "zip", "dict_itemiterator", "dict_reverseitemiterator", "odict_iterator", "itertools.zip_longest", "itertools.pairwise"].contains n = false) (hQ : Q () s) : wpAny M A (letOwnedTupleGo tg (.ref it) u) Q E s := by
  unfold letOwnedTupleGo
  cases tg <;> first
    | exact wpAny_pure hQ
    | (cases u <;> first
        | exact wpAny_pure hQ
        | (refine wpAny_bind (wpAny_load ho ?_)
           rw [hc, hd]
           show wpAny M A (if (["enumerate", "zip", "dict_itemiterator", "dict_reverseitemiterator", "odict_iterator", "itertools.zip_longest", "itertools.pairwise"].contains n && vs[0]? == some (rawInt _)) = true then _ else _) Q E s
           rw [if_neg (by intro h; rw [hn, Bool.false_and] at h; cases h)]
           exact wpAny_pure hQ))

/-- the list at a, as it stands at each turn (a loop may append to it) -/
def Itl (K : PySem.W.Frag) (a : Addr) : It :=
  ⟨fun i H => ∃ xs x, SqL K H a xs ∧ xs[i]? = some x, fun i H x H' => H' = H ∧ ∀ xs, SqL K H a xs → xs[i]? = some x, fun i H => ∃ xs, SqL K H a xs ∧ xs.length ≤ i⟩
/-- lo, lo + 1, .. (n of them) -/
def Itr (lo : Int) (n : Nat) : It := ⟨fun i _ => i < n, fun i H x H' => H' = H ∧ x = .int (lo + i), fun i _ => n ≤ i⟩
theorem turn_list {P : Program} {w : World} {K : PySem.W.Frag} {tg : Expr} (a it : Addr) : Turn P w K tg (Itl K a) [it] it (fun i h => h.IsListIter it a i) where
  mem := by simp
  obj := fun i h st b hb => by
    have e : b = it := by simpa using hb
    subst e
    obtain ⟨o, e, c, d⟩ := st
    exact ⟨o, e, fun v z => by rw [d] at z; cases z⟩
  keep := fun i h h' st k => st.at fun o e => k it (by simp) o e
  item := by
    intro X hP hw hK hc i pins s σ H E I hf st hg
    subst hP hw hK
    obtain ⟨xs, x, hq, hx⟩ := hg
    obtain ⟨its, rv, p, hz⟩ := I.list hq
    obtain ⟨u, hu, ru⟩ := rv.get hx
    obtain ⟨f0, f1, f2, f3, f4, f5⟩ := hf it (by simp)
    refine wpAny_pyNext_list_item st p.isList (x := u) (by simpa using hu) fun h' st' sb => ?_
    have I1 : Inv X pins σ H { s with heap := h' } := I.turned (t' := s.toks) (fun b o hb e => (sb.2 b hb).trans e) f0 f1 f3 f4 f5
    obtain ⟨o, e, c, d⟩ := id st'
    exact ⟨u, rfl, go_of (s := { s with heap := h' }) e c d (by decide) ⟨x, H, I1, ru, ⟨rfl, fun ys hy => by rw [I.list_inj hy hq]; exact hx⟩, st', fun b hb => (hf b hb).1⟩⟩
  done := by
    intro X hP hw hK hc i pins s σ H E I hf st hg
    subst hP hw hK
    obtain ⟨xs, hq, hx⟩ := hg
    obtain ⟨its, rv, p, hz⟩ := I.list hq
    obtain ⟨f0, f1, f2, f3, f4, f5⟩ := hf it (by simp)
    have hl := rv.length
    exact wpAny_pyNext_list_end (I.ok.hd hc) st p.isList (by simp; omega) fun h' eb => ⟨rfl, I.turned (t' := s.toks) (fun b o hb e => eb b o hb e) f0 f1 f3 f4 f5⟩
  self := fun _ _ _ _ _ st h => wpAny_pyIter_listiter st h
theorem turn_range {P : Program} {w : World} {K : PySem.W.Frag} {tg : Expr} (it : Addr) (lo : Int) (n : Nat) : Turn P w K tg (Itr lo n) [it] it (fun i h => IsRangeIter h it (lo + (i : Nat) * 1) ((n : Int) - (i : Nat)) 1) where
  mem := by simp
  obj := fun i h st b hb => by
    have e : b = it := by simpa using hb
    subst e
    exact ⟨_, st, fun v z => by
      have z' : Data.fields _ = Data.cell v := z
      cases z'⟩
  keep := fun i h h' st k => k it (by simp) _ st
  item := by
    intro X hP hw hK hc i pins s σ H E I hf st hg
    subst hP hw hK
    obtain ⟨f0, f1, f2, f3, f4, f5⟩ := hf it (by simp)
    have W := Walks.range (prog := X.prog) (w := X.w) (I.ok.hd hc) it lo 1 n
    refine W.item i s _ _ hg st fun v h' tk hv st' kk => ?_
    obtain ⟨t, rfl⟩ := hv
    have I1 : Inv X pins σ H { s with heap := h', toks := tk } := I.turned (fun b o hb e => kk b o (by simpa using hb) e) f0 f1 f3 f4 f5
    refine ⟨_, rfl, go_of (s := { s with heap := h', toks := tk }) (n := "range_iterator") st' rfl rfl (by decide) ⟨.int (lo + i), H, I1, ⟨t, ?_⟩, ⟨rfl, rfl⟩, st', fun b hb => (hf b hb).1⟩⟩
    rw [Int.mul_one]
  done := by
    intro X hP hw hK hc i pins s σ H E I hf st hg
    subst hP hw hK
    obtain ⟨f0, f1, f2, f3, f4, f5⟩ := hf it (by simp)
    exact wpAny_pyNext_range_end (I.ok.hd hc) st (by have : n ≤ i := hg; omega) fun h' eb => ⟨rfl, I.turned (t' := s.toks) (fun b o hb e => eb b o hb e) f0 f1 f3 f4 f5⟩
  self := fun _ _ _ _ _ st h => wpAny_pyIter_rangeiter st h
end L2

namespace L2
open PySem PySem.Spec PyProof.Rows
section
variable {X : Cx} {tg : Expr}
def iList (K : PySem.W.Frag) (tl : TE) : TI := fun σ H R => tl σ H fun x H1 => ∃ a, x = .ref a ∧ (∃ xs, SqL K H1 a xs) ∧ R (Itl K a) H1
theorem pi_list {l : Expr} {tl : TE} (hl : PE X l tl) : PI X tg l (iList X.K tl) := by
  intro pins s σ H R I h
  refine thn (hl pins s σ H _ I h) fun v s1 ⟨x, H1, I1, r1, q1⟩ => ?_
  obtain ⟨a, e, ⟨xs, hq⟩, q⟩ := q1
  subst e
  cases r1
  obtain ⟨its, rv, p, hz⟩ := I1.list hq
  refine wpAny_pyIter_list p.isList ?_
  refine ⟨s1.heap.objs.size, [s1.heap.objs.size], _, _, H1, rfl, I1.kept (t' := s1.toks) fun b o e => Heap.get?_push_of_some _ e, turn_list a _, ⟨_, Heap.get?_push_size _ rfl, rfl, rfl⟩, fun b hb => ?_, q⟩
  have e : b = s1.heap.objs.size := by simpa using hb
  subst e
  exact I1.fpOk (Nat.le_refl _) (I1.hok.fresh (Nat.le_refl _))
/-- a range object just made, walked -/
theorem range_it {pins : List (Addr × Obj)} {σ : St} {H : Hp} {s : Shared} {R : It → Hp → Prop} {E : Value → Shared → Prop} {lo hi : Int} {t u v : Tok} {tk : Nat} (I : Inv X pins σ H s) (h1 : -(2 ^ 62) ≤ lo) (h2 : lo < 2 ^ 62) (h3 : -(2 ^ 62) ≤ hi) (h4 : hi < 2 ^ 62)
    (q : R (Itr lo (hi - lo).toNat) H) : wpAny (model X.prog X.w) X.A (pyIter (.ref s.heap.objs.size)) (PIE X pins σ tg R) E { s with heap := s.heap.push { cls := .type "range", data := .fields #[.int lo t, .int hi u, .int 1 v] }, toks := tk } := by
  refine wpAny_pyIter_range (IsRange.new ..) (small_one h1 h2 h3 h4) ?_
  have I1 : Inv X pins σ H { s with heap := s.heap.push { cls := .type "range", data := .fields #[.int lo t, .int hi u, .int 1 v] }, toks := tk } := I.kept fun b o e => Heap.get?_push_of_some _ e
  refine ⟨(s.heap.push { cls := .type "range", data := .fields #[.int lo t, .int hi u, .int 1 v] }).objs.size, [(s.heap.push { cls := .type "range", data := .fields #[.int lo t, .int hi u, .int 1 v] }).objs.size], _, _, H, rfl,
    I1.kept (t' := tk) fun b o e => Heap.get?_push_of_some _ e, turn_range _ lo (hi - lo).toNat, ?_, fun b hb => ?_, q⟩
  · have e1 : lo + ((0 : Nat) : Int) * 1 = lo := by simp
    have e2 : (((hi - lo).toNat : Nat) : Int) - ((0 : Nat) : Int) = Builtin.Range.rangeSize lo hi 1 := by rw [rangeSize_one]; split <;> omega
    show IsRangeIter _ _ (lo + ((0 : Nat) : Int) * 1) ((((hi - lo).toNat : Nat) : Int) - ((0 : Nat) : Int)) 1
    rw [e1, e2]
    exact Heap.get?_push_size _ rfl
  · have e : b = (s.heap.push { cls := .type "range", data := .fields #[.int lo t, .int hi u, .int 1 v] }).objs.size := by simpa using hb
    subst e
    exact I1.fpOk (Nat.le_refl _) (I1.hok.fresh (Nat.le_refl _))
def iRng1 (ta : TA) : TI := fun σ H R => ta σ H fun vs H1 => ∃ j : Int, vs = [.int j] ∧ -(2 ^ 62) ≤ j ∧ j < 2 ^ 62 ∧ R (Itr 0 j.toNat) H1
def iRng2 (ta : TA) : TI := fun σ H R => ta σ H fun vs H1 => ∃ i j : Int, vs = [.int i, .int j] ∧ (-(2 ^ 62) ≤ i ∧ i < 2 ^ 62 ∧ -(2 ^ 62) ≤ j ∧ j < 2 ^ 62) ∧ R (Itr i (j - i).toNat) H1
theorem pi_range1 {a : Expr} {ta : TA} {p pos : Pos} (hg : Gl X "range") (hm : X.mg "range" = none) (ha : PA X [a] ta) (hs : starEach [a] X.env = [(false, eval a X.env)] := by rfl) : PI X tg (.Call (.Name "range" p) [a] [] pos) (iRng1 ta) := by
  intro pins s σ H R I h
  refine Call_ (ld_blt I hg hm boot_range (PyProof.Rows.callWith_type1 (thn (ha pos pins s σ H _ I h) fun us s1 ⟨vs, H1, I1, r1, q1⟩ => ?_) hs rfl))
  obtain ⟨j, e, q1, q2, q⟩ := q1
  subst e
  cases r1 with
  | cons r rr =>
    cases rr
    obtain ⟨t, rfl⟩ := r
    exact call_range_1 (range_it I1 (by omega) (by omega) q1 q2 (by simpa using q))
theorem pi_range2 {a b : Expr} {ta : TA} {p pos : Pos} (hg : Gl X "range") (hm : X.mg "range" = none) (ha : PA X [a, b] ta) (hs : starEach [a, b] X.env = [(false, eval a X.env), (false, eval b X.env)] := by rfl) (hs2 : starEach [b] X.env = [(false, eval b X.env)] := by rfl) :
    PI X tg (.Call (.Name "range" p) [a, b] [] pos) (iRng2 ta) := by
  intro pins s σ H R I h
  refine Call_ (ld_blt I hg hm boot_range (PyProof.Rows.callWith_type1 (thn (ha pos pins s σ H _ I h) fun us s1 ⟨vs, H1, I1, r1, q1⟩ => ?_) (by rw [hs, hs2]) (by rw [hs2]; rfl)))
  obtain ⟨i, j, e, ⟨q1, q2, q3, q4⟩, q⟩ := q1
  subst e
  cases r1 with
  | cons r rr =>
    cases rr with
    | cons r' rr =>
      cases rr
      obtain ⟨t, rfl⟩ := r
      obtain ⟨t', rfl⟩ := r'
      exact call_range_2 (range_it I1 q1 q2 q3 q4 q)

/-! ### for -/
/-- W: the invariant by the turn and a measure; N: what the body is to reach -/
def tFor (wi : TI) (g : TG) (tb : TS) : TS := fun D σ H => wi σ H fun J H1 => ∃ W : Nat → Nat → St → Hp → Prop, (∃ m, W 0 m σ H1) ∧ ∀ i m σ H, W i m σ H →
  (J.stop i H ∧ D.nx σ H) ∨ (J.go i H ∧ ∃ N : St → Hp → Prop, (∀ σ' H', N σ' H' → ∃ m', m' < m ∧ W (i + 1) m' σ' H') ∧ ∀ x H', J.yld i H x H' → g x σ H' fun σ2 H2 => tb { D with nx := N, ct := N, bk := D.nx } σ2 H2)
/-- the records at fp as they stand -/
def pinsAt (fp : List Addr) (h : Heap) : List (Addr × Obj) := fp.filterMap fun b => (h.get? b).map fun o => (b, o)
theorem mem_pinsAt {fp : List Addr} {h : Heap} {b : Addr} {o : Obj} (hb : b ∈ fp) (e : h.get? b = some o) : (b, o) ∈ pinsAt fp h := List.mem_filterMap.mpr ⟨b, hb, by rw [e]; rfl⟩
theorem of_pinsAt {fp : List Addr} {h : Heap} {p : Addr × Obj} (hp : p ∈ pinsAt fp h) : p.1 ∈ fp ∧ h.get? p.1 = some p.2 := by
  obtain ⟨b, hb, e⟩ := List.mem_filterMap.mp hp
  cases q : h.get? b with
  | none => rw [q] at e; cases e
  | some o =>
    rw [q] at e
    have e' : (b, o) = p := Option.some.inj e
    subst e'
    exact ⟨hb, q⟩
theorem Inv.pinned {pins : List (Addr × Obj)} {σ : St} {H : Hp} {s : Shared} {fp : List Addr} (I : Inv X pins σ H s) (hf : ∀ b ∈ fp, FpOk X pins H b) (ho : ∀ b ∈ fp, ∃ o, s.heap.get? b = some o ∧ ∀ v, o.data ≠ .cell v) : Inv X (pins ++ pinsAt fp s.heap) σ H s :=
  I.pins_of fun p hp => (List.mem_append.mp hp).elim (fun z => I.pin p (List.mem_append_right _ z)) fun z => by
    obtain ⟨hb, e⟩ := of_pinsAt z
    obtain ⟨f0, f1, f2, _⟩ := hf p.1 hb
    obtain ⟨o, e', d⟩ := ho p.1 hb
    rw [e] at e'; cases e'
    exact ⟨e, f0, f1, f2, d⟩
theorem Inv.unpinned {pins pl : List (Addr × Obj)} {σ : St} {H : Hp} {s : Shared} (I : Inv X (pins ++ pl) σ H s) : Inv X pins σ H s := I.pins_of fun p hp => I.pin p (List.mem_append_right _ (List.mem_append_left _ hp))
theorem ps_for {iter : Expr} {body : List Stmt} {wi : TI} {g : TG} {tb : TS} {pos : Pos} (hp : PassesOwn (model X.prog X.w) X.A X.env X.xe) (hc : X.calm = true) (hi : PI X tg iter wi) (hg : PG X tg g) (hb : PSs X body tb)
    (hs : ∀ x, foldedSetIterable iter X.env x = pure x := by intro _; rfl) : PS X (.For tg iter body [] pos) (tFor wi g tb) := by
  intro pins s σ H D I h
  refine wpAny_For (thn (hi pins s σ H _ I h) fun v s1 h1 => thn h1 fun itv s2 h2 => ?_) hs
  obtain ⟨it, fp, tn, J, H2, e, I2, T, st2, f2, W, ⟨m0, w0⟩, turn⟩ := h2
  subst e
  -- what stays true of the iterator's objects through the loop
  have stat : ∀ {H' : Hp}, (∀ b ∈ fp, H' b = none) → ∀ b ∈ fp, FpOk X pins H' b := fun hn b hb => ⟨hn b hb, (f2 b hb).2⟩
  refine codeAny_forLoop_any (fun n s' => ∃ i σ' H', Inv X pins σ' H' s' ∧ tn i s'.heap ∧ (∀ b ∈ fp, H' b = none) ∧ W i n σ' H') ?_ m0 ⟨0, σ, H2, I2, st2, fun b hb => (f2 b hb).1, w0⟩
  rintro n s3 ⟨i, σ3, H3, I3, st3, fr3, w3⟩
  rcases turn i n σ3 H3 w3 with ⟨stop, qn⟩ | ⟨go, N, hN, step⟩
  · refine wpAny_passesOwn hp (thn (T.done X rfl rfl rfl hc i pins s3 σ3 H3 X.xe I3 (stat fr3) st3 stop) fun r s4 ⟨hr, I4⟩ => ?_)
    subst hr
    exact wpAny_execs_nil ⟨σ3, H3, I4, qn⟩
  · refine wpAny_passesOwn hp (thn (T.item X rfl rfl rfl hc i pins s3 σ3 H3 X.xe I3 (stat fr3) st3 go) fun r s4 ⟨u, hr, h4⟩ => ?_)
    subst hr
    refine wpAny_passesOwn hp (thn h4 fun _ s5 ⟨x, H5, I5, r5, y5, st5, fr5⟩ => ?_)
    have I5' := I5.pinned (stat fr5) (T.obj _ _ st5)
    refine wpAny_passesOwn hp (thn (hg _ s5 σ3 H5 x u _ I5' r5 (step x H5 y5)) fun _ s6 ⟨σ6, H6, I6, q6⟩ => ?_)
    refine wpAny_passesOwn hp (thn (hb _ s6 σ6 H6 _ I6 q6) fun f s7 q7 => ?_)
    have again : ∀ {σ7 : St} {H7 : Hp}, Inv X (pins ++ pinsAt fp s5.heap) σ7 H7 s7 → N σ7 H7 → ∃ m, m < n ∧ ∃ i σ' H', Inv X pins σ' H' s7 ∧ tn i s7.heap ∧ (∀ b ∈ fp, H' b = none) ∧ W i m σ' H' := fun {σ7 H7} I7 n7 => by
      obtain ⟨m', hm, w7⟩ := hN σ7 H7 n7
      refine ⟨m', hm, i + 1, σ7, H7, I7.unpinned, T.keep _ _ _ st5 fun b hb o e => (I7.pin (b, o) (List.mem_append_right _ (List.mem_append_right _ (mem_pinsAt hb e)))).1, fun b hb => ?_, w7⟩
      obtain ⟨o, e, d⟩ := T.obj _ _ st5 b hb
      exact (I7.pin (b, o) (List.mem_append_right _ (List.mem_append_right _ (mem_pinsAt hb e)))).2.1
    cases f with
    | next => obtain ⟨σ7, H7, I7, n7⟩ := q7; exact again I7 n7
    | cont => obtain ⟨σ7, H7, I7, n7⟩ := q7; exact again I7 n7
    | brk => obtain ⟨σ7, H7, I7, q7⟩ := q7; exact ⟨σ7, H7, I7.unpinned, q7⟩
    | ret v => obtain ⟨x7, σ7, H7, I7, r7, q7⟩ := q7; exact ⟨x7, σ7, H7, I7.unpinned, r7, q7⟩
end

/-! ### the forms one uses -/
/-- over a list that the body leaves as it is -/
theorem for_list {K : PySem.W.Frag} {a : Addr} {xs : List V} {g : TG} {tb : TS} {D : Ends} {σ : St} {H : Hp} (Pv : Nat → St → Hp → Prop) (h0 : Pv 0 σ H) (hl : ∀ i σ H, i ≤ xs.length → Pv i σ H → SqL K H a xs)
    (hs : ∀ i x σ H, xs[i]? = some x → Pv i σ H → g x σ H fun σ2 H2 => tb { D with nx := Pv (i + 1), ct := Pv (i + 1), bk := D.nx } σ2 H2) (hd : ∀ σ H, Pv xs.length σ H → D.nx σ H) :
    ∃ W : Nat → Nat → St → Hp → Prop, (∃ m, W 0 m σ H) ∧ ∀ i m σ H, W i m σ H →
      ((Itl K a).stop i H ∧ D.nx σ H) ∨ ((Itl K a).go i H ∧ ∃ N : St → Hp → Prop, (∀ σ' H', N σ' H' → ∃ m', m' < m ∧ W (i + 1) m' σ' H') ∧ ∀ x H', (Itl K a).yld i H x H' → g x σ H' fun σ2 H2 => tb { D with nx := N, ct := N, bk := D.nx } σ2 H2) := by
  refine ⟨fun i m σ H => m = xs.length - i ∧ i ≤ xs.length ∧ Pv i σ H, ⟨xs.length, by simp, Nat.zero_le _, h0⟩, ?_⟩
  rintro i m σ H ⟨rfl, hi, p⟩
  have q := hl i σ H hi p
  by_cases hlt : i < xs.length
  · refine .inr ⟨⟨xs, xs[i], q, by simp [hlt]⟩, Pv (i + 1), fun σ' H' p' => ⟨xs.length - (i + 1), by omega, rfl, hlt, p'⟩, fun x H' y => ?_⟩
    obtain ⟨e, y⟩ := y
    subst e
    exact hs i x σ _ (y xs q) p
  · have e : i = xs.length := by omega
    subst e
    exact .inl ⟨⟨xs, q, Nat.le_refl _⟩, hd σ H p⟩
theorem for_range {lo : Int} {n : Nat} {g : TG} {tb : TS} {D : Ends} {σ : St} {H : Hp} (Pv : Nat → St → Hp → Prop) (h0 : Pv 0 σ H)
    (hs : ∀ i σ H, i < n → Pv i σ H → g (.int (lo + i)) σ H fun σ2 H2 => tb { D with nx := Pv (i + 1), ct := Pv (i + 1), bk := D.nx } σ2 H2) (hd : ∀ σ H, Pv n σ H → D.nx σ H) :
    ∃ W : Nat → Nat → St → Hp → Prop, (∃ m, W 0 m σ H) ∧ ∀ i m σ H, W i m σ H →
      ((Itr lo n).stop i H ∧ D.nx σ H) ∨ ((Itr lo n).go i H ∧ ∃ N : St → Hp → Prop, (∀ σ' H', N σ' H' → ∃ m', m' < m ∧ W (i + 1) m' σ' H') ∧ ∀ x H', (Itr lo n).yld i H x H' → g x σ H' fun σ2 H2 => tb { D with nx := N, ct := N, bk := D.nx } σ2 H2) := by
  refine ⟨fun i m σ H => m = n - i ∧ i ≤ n ∧ Pv i σ H, ⟨n, by simp, Nat.zero_le _, h0⟩, ?_⟩
  rintro i m σ H ⟨rfl, hi, p⟩
  by_cases hlt : i < n
  · refine .inr ⟨hlt, Pv (i + 1), fun σ' H' p' => ⟨n - (i + 1), by omega, rfl, hlt, p'⟩, fun x H' y => ?_⟩
    obtain ⟨e, y⟩ := y
    subst e y
    exact hs i σ _ hlt p
  · have e : i = n := by omega
    subst e
    exact .inl ⟨Nat.le_refl _, hd σ H p⟩
end L2

namespace L2
open PySem PySem.Spec PyProof.Rows

abbrev R2 := V → V → Hp → VK → Prop
/-- a two-place operation on values: f is binaryOp op, inplaceOp op or compareOp op -/
def OpR (X : Cx) (f : Value → Value → Sem Value) (r : R2) : Prop :=
  ∀ (pins : List (Addr × Obj)) (s : Shared) (σ : St) (H : Hp) (x y : V) (v u : Value) (Q : VK), Inv X pins σ H s → RelV x v → RelV y u → r x y H Q →
    wpAny (model X.prog X.w) X.A (f v u) (EP X pins σ Q) X.xe s
/-- a one-place operation -/
def UnR (X : Cx) (f : Value → Sem Value) (r : V → Hp → VK → Prop) : Prop :=
  ∀ (pins : List (Addr × Obj)) (s : Shared) (σ : St) (H : Hp) (x : V) (v : Value) (Q : VK), Inv X pins σ H s → RelV x v → r x H Q →
    wpAny (model X.prog X.w) X.A (f v) (EP X pins σ Q) X.xe s
/-- a call of a value that is known (a builtin, a type) with values -/
def CallR (X : Cx) (f : Value) (r : List V → Hp → VK → Prop) : Prop :=
  ∀ (pins : List (Addr × Obj)) (s : Shared) (σ : St) (H : Hp) (xs : List V) (us : List Value) (Q : VK), Inv X pins σ H s → Vals xs us → r xs H Q →
    wpAny (model X.prog X.w) X.A (call f us) (EP X pins σ Q) X.xe s
/-- a value's truth -/
def TruR (X : Cx) (r : V → Hp → (Bool → Hp → Prop) → Prop) : Prop :=
  ∀ (pins : List (Addr × Obj)) (s : Shared) (σ : St) (H : Hp) (x : V) (v : Value) (Q : Bool → Hp → Prop), Inv X pins σ H s → RelV x v → r x H Q →
    wpAny (model X.prog X.w) X.A (truthy v) (TP X pins σ Q) X.xe s

def tOp (r : R2) (ta tb : TE) : TE := fun σ H Q => ta σ H fun x H1 => tb σ H1 fun y H2 => r x y H2 Q
def tUn (r : V → Hp → VK → Prop) (ta : TE) : TE := fun σ H Q => ta σ H fun x H1 => r x H1 Q
/-- ints in, under C, and a value out -/
def rI (C : Int → Int → Prop) (g : Int → Int → V) : R2 := fun x y H Q => ∃ i j, x = .int i ∧ y = .int j ∧ C i j ∧ Q (g i j) H
def rI0 (g : Int → Int → V) : R2 := fun x y H Q => ∃ i j, x = .int i ∧ y = .int j ∧ Q (g i j) H
def rU (g : Int → V) : V → Hp → VK → Prop := fun x H Q => ∃ i, x = .int i ∧ Q (g i) H

section
variable {X : Cx} {a b c : Expr} {ta tb tc : TE} {pos : Pos}

theorem binT (ha : PE X a ta) (hb : PE X b tb) {pins : List (Addr × Obj)} {s : Shared} {σ : St} {H : Hp} {R : V → V → Hp → Prop} (I : Inv X pins σ H s)
    (h : ta σ H fun x H1 => tb σ H1 fun y H2 => R x y H2) {Q : Value → Shared → Prop} {f : Value → Value → Sem Value}
    (hf : ∀ v u s2 x y H2, Inv X pins σ H2 s2 → RelV x v → RelV y u → R x y H2 → wpAny (model X.prog X.w) X.A (f v u) Q X.xe s2) :
    wpAny (model X.prog X.w) X.A (eval a X.env) (fun v s₁ => wpAny (model X.prog X.w) X.A (eval b X.env) (fun u s₂ => wpAny (model X.prog X.w) X.A (f v u) Q X.xe s₂) X.xe s₁) X.xe s := by
  refine thn (ha pins s σ H _ I h) fun v s1 ⟨x, H1, I1, r1, q1⟩ => ?_
  refine thn (hb pins s1 σ H1 _ I1 q1) fun u s2 ⟨y, H2, I2, r2, q2⟩ => ?_
  exact hf v u s2 x y H2 I2 r1 r2 q2

theorem pe_op {op : Operator} {r : R2} (ho : OpR X (binaryOp op) r) (ha : PE X a ta) (hb : PE X b tb) : PE X (.BinOp a op b pos) (tOp r ta tb) := by
  intro pins s σ H Q I h
  exact wpAny_BinOp (binT ha hb I h fun v u s2 x y H2 I2 rx ry q => ho pins s2 σ H2 x y v u Q I2 rx ry q)
theorem pe_un {op : UnaryOp} {r : V → Hp → VK → Prop} (ho : UnR X (unaryOp op) r) (ha : PE X a ta) : PE X (.UnaryOp op a pos) (tUn r ta) := by
  intro pins s σ H Q I h
  exact UnaryOp_ (thn (ha pins s σ H _ I h) fun v s1 ⟨x, H1, I1, r1, q1⟩ => ho pins s1 σ H1 x v Q I1 r1 q1)
/-! ### ints -/
theorem opI {f : Value → Value → Sem Value} {C : Int → Int → Prop} {g : Int → Int → Int}
    (rule : ∀ (i j : Int) (t u : Tok) (s : Shared) (Q : Value → Shared → Prop) (E : Value → Shared → Prop), C i j → Q (.int (g i j) s.toks) { s with toks := s.toks + 1 } → wpAny (model X.prog X.w) X.A (f (.int i t) (.int j u)) Q E s) :
    OpR X f (rI C fun i j => .int (g i j)) := by
  intro pins s σ H x y v u Q I rx ry h
  obtain ⟨i, j, rfl, rfl, hc, q⟩ := h
  obtain ⟨t, rfl⟩ := rx
  obtain ⟨t', rfl⟩ := ry
  exact rule i j t t' s _ _ hc ⟨.int (g i j), H, I.tok _, ⟨_, rfl⟩, q⟩
theorem opI0 {f : Value → Value → Sem Value} {g : Int → Int → Int}
    (rule : ∀ (i j : Int) (t u : Tok) (s : Shared) (Q : Value → Shared → Prop) (E : Value → Shared → Prop), Q (.int (g i j) s.toks) { s with toks := s.toks + 1 } → wpAny (model X.prog X.w) X.A (f (.int i t) (.int j u)) Q E s) :
    OpR X f (rI0 fun i j => .int (g i j)) := by
  intro pins s σ H x y v u Q I rx ry h
  obtain ⟨i, j, rfl, rfl, q⟩ := h
  obtain ⟨t, rfl⟩ := rx
  obtain ⟨t', rfl⟩ := ry
  exact rule i j t t' s _ _ ⟨.int (g i j), H, I.tok _, ⟨_, rfl⟩, q⟩
theorem opB0 {f : Value → Value → Sem Value} {g : Int → Int → Bool}
    (rule : ∀ (i j : Int) (t u : Tok) (s : Shared) (Q : Value → Shared → Prop) (E : Value → Shared → Prop), Q (.bool (g i j)) s → wpAny (model X.prog X.w) X.A (f (.int i t) (.int j u)) Q E s) :
    OpR X f (rI0 fun i j => .bl (g i j)) := by
  intro pins s σ H x y v u Q I rx ry h
  obtain ⟨i, j, rfl, rfl, q⟩ := h
  obtain ⟨t, rfl⟩ := rx
  obtain ⟨t', rfl⟩ := ry
  exact rule i j t t' s _ _ ⟨.bl (g i j), H, I, rfl, q⟩

def CDiv (i j : Int) : Prop := 0 < j ∧ j < 1073741824
def CPow (i j : Int) : Prop := 0 ≤ j ∧ j ≤ 1000000 ∧ i.natAbs < 2 ^ 64
def CMul (i j : Int) : Prop := (-(2 ^ 64) < i ∧ i < 2 ^ 64) ∨ (-(2 ^ 64) < j ∧ j < 2 ^ 64)
theorem CMul.ok {i j : Int} (h : CMul i j) : IntMulOk i j := by
  rcases h with ⟨h1, h2⟩ | ⟨h1, h2⟩
  · exact .of_left (intBits_le_64 h1 h2)
  · exact .of_right (intBits_le_64 h1 h2)
theorem two_pow_nn (k : Nat) : (0 : Int) ≤ 2 ^ k := by
  rw [two_pow_cast]
  exact Int.natCast_nonneg _

theorem op_add : OpR X (binaryOp .Add) (rI0 fun i j => .int (i + j)) := opI0 fun _ _ _ _ _ _ _ q => add_int q
theorem op_sub : OpR X (binaryOp .Sub) (rI0 fun i j => .int (i - j)) := opI0 fun _ _ _ _ _ _ _ q => sub_int q
theorem op_mul : OpR X (binaryOp .Mult) (rI CMul fun i j => .int (i * j)) := opI fun _ _ _ _ _ _ _ hc q => mul_int q hc.ok
/-- // by a positive divisor -/
theorem op_fdiv : OpR X (binaryOp .FloorDiv) (rI CDiv fun i j => .int (i / j)) := opI fun i j _ _ _ _ _ hc q => by
  have h1 : (0 : Int) < j := hc.1
  have h2 : j < 1073741824 := hc.2
  exact floordiv_int (by omega) (by rw [Int.fdiv_eq_ediv_of_nonneg i (by omega)]; exact q) (.inl (PyProof.noPylong_small (by omega)))
/-- % by a positive divisor of any size -/
theorem op_mod : OpR X (binaryOp .Mod) (rI (fun _ j => 0 < j) fun i j => .int (i % j)) := opI fun i j _ _ _ _ _ hc q => by
  have h1 : (0 : Int) < j := hc
  exact mod_int' (by omega) (by rw [Int.fmod_eq_emod_of_nonneg i (by omega)]; exact q)
theorem op_pow : OpR X (binaryOp .Pow) (rI CPow fun i j => .int (i ^ j.toNat)) := opI fun _ _ _ _ _ _ _ hc q => pow_int_small hc.1 hc.2.1 hc.2.2 q
theorem op_shr : OpR X (binaryOp .RShift) (rI (fun _ j => 0 ≤ j) fun i j => .int (i / 2 ^ j.toNat)) := opI fun i j _ _ _ _ _ hc q =>
  rshift_int hc (by rw [Int.fdiv_eq_ediv_of_nonneg i (two_pow_nn _)]; exact q)
theorem op_and : OpR X (binaryOp .BitAnd) (rI0 fun i j => .int (Builtin.bitAnd i j)) := opI0 fun _ _ _ _ _ _ _ q => and_int q
theorem op_or : OpR X (binaryOp .BitOr) (rI0 fun i j => .int (Builtin.bitOr i j)) := opI0 fun _ _ _ _ _ _ _ q => or_int q
theorem unI {f : Value → Sem Value} {g : Int → Int}
    (rule : ∀ (i : Int) (t : Tok) (s : Shared) (Q : Value → Shared → Prop) (E : Value → Shared → Prop), Q (.int (g i) s.toks) { s with toks := s.toks + 1 } → wpAny (model X.prog X.w) X.A (f (.int i t)) Q E s) :
    UnR X f (rU fun i => .int (g i)) := by
  intro pins s σ H x v Q I rx h
  obtain ⟨i, rfl, q⟩ := h
  obtain ⟨t, rfl⟩ := rx
  exact rule i t s _ _ ⟨.int (g i), H, I.tok _, ⟨_, rfl⟩, q⟩
theorem un_neg : UnR X (unaryOp .USub) (rU fun i => .int (-i)) := unI fun _ _ _ _ _ q => neg_int q
/-! ### bools among ints: n += (a < b) -/
end

/-! ### comparisons -/
/-- the scalars that == tells apart as data does -/
def scal : V → V → Bool
  | .non, .non => true | .non, .int _ => true | .int _, .non => true | .non, .bl _ => true | .bl _, .non => true | .non, .str _ => true | .str _, .non => true
  | .int _, .int _ => true | .bl _, .bl _ => true | .str _, .str _ => true | .byt _, .byt _ => true
  | .int _, .str _ => true | .str _, .int _ => true | .bl _, .str _ => true | .str _, .bl _ => true
  | _, _ => false
def rEq : R2 := fun x y H Q => scal x y = true ∧ Q (.bl (decide (x = y))) H
def rNe : R2 := fun x y H Q => scal x y = true ∧ Q (.bl (!decide (x = y))) H

theorem dec_int {i j : Int} : decide (V.int i = V.int j) = (i == j) := by
  rw [Bool.eq_iff_iff]
  simp
theorem dec_bl {i j : Bool} : decide (V.bl i = V.bl j) = (i == j) := by
  rw [Bool.eq_iff_iff]
  simp
theorem dec_str {i j : Str} : decide (V.str i = V.str j) = (i == j) := by
  rw [Bool.eq_iff_iff]
  simp
theorem dec_byt {i j : Array UInt8} : decide (V.byt i = V.byt j) = (i.toList == j.toList) := by
  rw [Bool.eq_iff_iff]
  cases i
  cases j
  simp

section
variable {X : Cx} {a b c : Expr} {ta tb tc : TE} {pos : Pos}
theorem fin_bl {pins : List (Addr × Obj)} {σ : St} {H : Hp} {s : Shared} {Q : VK} {k k' : Bool} (I : Inv X pins σ H s) (q : Q (.bl k) H) (e : k = k') : EP X pins σ Q (.bool k') s := by
  subst e
  exact ⟨.bl k, H, I, rfl, q⟩
theorem op_eq : OpR X (compareOp .Eq) rEq := by
  intro pins s σ H x y v u Q I rx ry h
  obtain ⟨hs, q⟩ := h
  cases x with
  | non =>
    cases rx
    cases y with
    | non => cases ry; exact PySem.EqNone.eq_none_none (fin_bl I q (by simp))
    | bl j => cases ry; exact PySem.EqNone.eq_none_bool (fin_bl I q (by simp))
    | int j => obtain ⟨t', rfl⟩ := ry; exact PySem.EqNone.eq_none_int (fin_bl I q (by simp))
    | str j => obtain ⟨t', rfl⟩ := ry; exact PySem.EqNone.eq_none_str (fin_bl I q (by simp))
    | _ => exact absurd (show false = true from hs) Bool.false_ne_true
  | bl i =>
    cases rx
    cases y with
    | non => cases ry; exact PySem.EqNone.eq_bool_none (fin_bl I q (by simp))
    | bl j => cases ry; exact eq_bool (fin_bl I q dec_bl)
    | str j => obtain ⟨t', rfl⟩ := ry; exact PySem.EqMixed.eq_bool_str (fin_bl I q (by simp))
    | _ => exact absurd (show false = true from hs) Bool.false_ne_true
  | int i =>
    obtain ⟨t, rfl⟩ := rx
    cases y with
    | non => cases ry; exact PySem.EqNone.eq_int_none (fin_bl I q (by simp))
    | int j => obtain ⟨t', rfl⟩ := ry; exact eq_int (fin_bl I q dec_int)
    | str j => obtain ⟨t', rfl⟩ := ry; exact PySem.EqMixed.eq_int_str (fin_bl I q (by simp))
    | _ => exact absurd (show false = true from hs) Bool.false_ne_true
  | str i =>
    obtain ⟨t, rfl⟩ := rx
    cases y with
    | non => cases ry; exact PySem.EqNone.eq_str_none (fin_bl I q (by simp))
    | bl j => cases ry; exact PySem.EqMixed.eq_str_bool (fin_bl I q (by simp))
    | int j => obtain ⟨t', rfl⟩ := ry; exact PySem.EqMixed.eq_str_int (fin_bl I q (by simp))
    | str j => obtain ⟨t', rfl⟩ := ry; exact eq_str (fin_bl I q dec_str)
    | _ => exact absurd (show false = true from hs) Bool.false_ne_true
  | byt i =>
    obtain ⟨t, rfl⟩ := rx
    cases y with
    | byt j => obtain ⟨t', rfl⟩ := ry; exact PySem.W.eq_bytes (fin_bl I q dec_byt)
    | _ => exact absurd (show false = true from hs) Bool.false_ne_true
  | _ => cases y <;> exact absurd (show false = true from hs) Bool.false_ne_true
theorem op_ne : OpR X (compareOp .NotEq) rNe := by
  intro pins s σ H x y v u Q I rx ry h
  obtain ⟨hs, q⟩ := h
  cases x with
  | non =>
    cases rx
    cases y with
    | non => cases ry; exact PySem.EqNone.ne_none_none (fin_bl I q (by simp))
    | bl j => cases ry; exact PySem.EqNone.ne_none_bool (fin_bl I q (by simp))
    | int j => obtain ⟨t', rfl⟩ := ry; exact PySem.EqNone.ne_none_int (fin_bl I q (by simp))
    | str j => obtain ⟨t', rfl⟩ := ry; exact PySem.EqNone.ne_none_str (fin_bl I q (by simp))
    | _ => exact absurd (show false = true from hs) Bool.false_ne_true
  | bl i =>
    cases rx
    cases y with
    | non => cases ry; exact PySem.EqNone.ne_bool_none (fin_bl I q (by simp))
    | bl j => cases ry; exact ne_bool (fin_bl I q (congrArg not dec_bl))
    | str j => obtain ⟨t', rfl⟩ := ry; exact PySem.EqMixed.ne_bool_str (fin_bl I q (by simp))
    | _ => exact absurd (show false = true from hs) Bool.false_ne_true
  | int i =>
    obtain ⟨t, rfl⟩ := rx
    cases y with
    | non => cases ry; exact PySem.EqNone.ne_int_none (fin_bl I q (by simp))
    | int j => obtain ⟨t', rfl⟩ := ry; exact ne_int (fin_bl I q (congrArg not dec_int))
    | str j => obtain ⟨t', rfl⟩ := ry; exact PySem.EqMixed.ne_int_str (fin_bl I q (by simp))
    | _ => exact absurd (show false = true from hs) Bool.false_ne_true
  | str i =>
    obtain ⟨t, rfl⟩ := rx
    cases y with
    | non => cases ry; exact PySem.EqNone.ne_str_none (fin_bl I q (by simp))
    | bl j => cases ry; exact PySem.EqMixed.ne_str_bool (fin_bl I q (by simp))
    | int j => obtain ⟨t', rfl⟩ := ry; exact PySem.EqMixed.ne_str_int (fin_bl I q (by simp))
    | str j => obtain ⟨t', rfl⟩ := ry; exact ne_str (fin_bl I q (congrArg not dec_str))
    | _ => exact absurd (show false = true from hs) Bool.false_ne_true
  | byt i =>
    obtain ⟨t, rfl⟩ := rx
    cases y with
    | byt j => obtain ⟨t', rfl⟩ := ry; exact PySem.W.ne_bytes (fin_bl I q (congrArg not dec_byt))
    | _ => exact absurd (show false = true from hs) Bool.false_ne_true
  | _ => cases y <;> exact absurd (show false = true from hs) Bool.false_ne_true

theorem op_lt : OpR X (compareOp .Lt) (rI0 fun i j => .bl (decide (i < j))) := opB0 fun _ _ _ _ _ _ _ q => lt_int q
theorem op_le : OpR X (compareOp .LtE) (rI0 fun i j => .bl (decide (i ≤ j))) := opB0 fun _ _ _ _ _ _ _ q => le_int q
theorem op_gt : OpR X (compareOp .Gt) (rI0 fun i j => .bl (decide (j < i))) := opB0 fun _ _ _ _ _ _ _ q => gt_int q
theorem op_ge : OpR X (compareOp .GtE) (rI0 fun i j => .bl (decide (j ≤ i))) := opB0 fun _ _ _ _ _ _ _ q => ge_int q
/-- is None, is not None: the right side a value none -/
theorem op_isN : OpR X (compareOp .Is) (fun x y H Q => y = .non ∧ Q (.bl (decide (x = .non))) H) := by
  intro pins s σ H x y v u Q I rx ry h
  obtain ⟨rfl, q⟩ := h
  cases ry
  refine is_none_gen (fin_bl I q ?_)
  cases x <;> first
    | (cases rx; rfl)
    | (obtain ⟨t, rfl⟩ := rx; rfl)
theorem op_notN : OpR X (compareOp .IsNot) (fun x y H Q => y = .non ∧ Q (.bl (!decide (x = .non))) H) := by
  intro pins s σ H x y v u Q I rx ry h
  obtain ⟨rfl, q⟩ := h
  cases ry
  refine isnot_none_gen (fin_bl I q ?_)
  cases x <;> first
    | (cases rx; rfl)
    | (obtain ⟨t, rfl⟩ := rx; rfl)

theorem nomark (b : Expr) {op : CmpOp} (h : op ≠ .In := by decide) (h2 : op ≠ .NotIn := by decide) : behindInMarks op b = false := by
  have e1 : (op == CmpOp.In) = false := by cases op <;> first | rfl | exact absurd rfl h
  have e2 : (op == CmpOp.NotIn) = false := by cases op <;> first | rfl | exact absurd rfl h2
  cases b <;> simp [behindInMarks, e1, e2]
/-- a comparison as a value; hm: nomark b, or (for in, not in) by with_unfolding_all rfl -/
theorem pe_cmpR {op : CmpOp} {r : R2} (ho : OpR X (compareOp op) r) (ha : PE X a ta) (hb : PE X b tb) (hm : behindInMarks op b = false) : PE X (.Compare a [op] [b] pos) (tOp r ta tb) := by
  intro pins s σ H Q I h
  exact wpAny_Compare1 (binT ha hb I h fun v u s2 x y H2 I2 rx ry q => ho pins s2 σ H2 x y v u Q I2 rx ry q) hm
/-- a reading of a value as a test -/
def tTest (t : TE) : TT := fun σ H Q => t σ H fun x H' => ∃ k, x = .bl k ∧ Q k H'
theorem pt_cmpR {op : CmpOp} {r : R2} (ho : OpR X (compareOp op) r) (ha : PE X a ta) (hb : PE X b tb) (hm : behindInMarks op b = false) : PT X (.Compare a [op] [b] pos) (tTest (tOp r ta tb)) := by
  intro pins s σ H Q I h
  refine wpAny_isTrue_Compare1 (thn (ha pins s σ H _ I h) fun v s1 ⟨x, H1, I1, r1, q1⟩ => thn (hb pins s1 σ H1 _ I1 q1) fun u s2 ⟨y, H2, I2, r2, q2⟩ =>
    thn (ho pins s2 σ H2 x y v u _ I2 r1 r2 q2) fun c s3 ⟨z, H3, I3, r3, k, e, q3⟩ => ?_) hm
  subst e
  cases r3
  exact wpAny_truthy_bool ⟨H3, I3, q3⟩
/-! ### truth -/
/-- a value's truth by the abstract heap -/
def TruV (K : PySem.W.Frag) (x : V) (H : Hp) (k : Bool) : Prop :=
  match x with
  | .non => k = false
  | .bl b => k = b
  | .int i => k = (i != 0)
  | .str y => y.length ≤ sizeLine ∧ k = ((y.length : Int) != 0)
  | .byt y => y.size ≤ sizeLine ∧ k = ((y.size : Int) != 0)
  | .ref p => (∃ xs, SqL K H p xs ∧ k = !xs.isEmpty) ∨ (∃ xs, SqT K H p xs ∧ k = !xs.isEmpty) ∨ ∃ kvs, H p = some (.dK kvs) ∧ k = !kvs.isEmpty
  | _ => False
theorem isEmpty_kv {κ : Type} {kvs : List (κ × V)} {vs : List (κ × Value)} (r : KV kvs vs) : (!vs.isEmpty) = !kvs.isEmpty := by
  cases r <;> rfl
theorem isEmpty_of {xs : List V} {its : List Value} (r : Vals xs its) : (!its.toArray.isEmpty) = !xs.isEmpty := by
  cases r <;> simp
theorem line63 : (sizeLine : Nat) < 2 ^ 63 := by rw [sizeLine_eq]; decide
theorem tru_ok : TruR X (fun x H Q => ∃ k, TruV X.K x H k ∧ Q k H) := by
  intro pins s σ H x v Q I rx h
  obtain ⟨k, e, q⟩ := h
  have hl := line63
  have hs : sizeLine = 16777216 := sizeLine_eq
  cases x with
  | non =>
    cases rx
    have e' : k = false := e
    subst e'
    exact truthy_none ⟨H, I, q⟩
  | bl b =>
    cases rx
    have e' : k = b := e
    subst e'
    exact wpAny_truthy_bool ⟨H, I, q⟩
  | int i =>
    obtain ⟨t, rfl⟩ := rx
    have e' : k = (i != 0) := e
    subst e'
    exact PySem.P.truthy_int ⟨H, I, q⟩
  | str y =>
    obtain ⟨t, rfl⟩ := rx
    obtain ⟨hy, e'⟩ : y.length ≤ sizeLine ∧ k = ((y.length : Int) != 0) := e
    subst e'
    exact PySem.P.truthy_str (by omega) ⟨H, I.tok _, q⟩
  | byt y =>
    obtain ⟨t, rfl⟩ := rx
    obtain ⟨hy, e'⟩ : y.size ≤ sizeLine ∧ k = ((y.size : Int) != 0) := e
    subst e'
    exact PySem.W.truthy_bytes (by omega) ⟨H, I.tok _, q⟩
  | ref p =>
    cases rx
    have e' : (∃ xs, SqL X.K H p xs ∧ k = !xs.isEmpty) ∨ (∃ xs, SqT X.K H p xs ∧ k = !xs.isEmpty) ∨ ∃ kvs, H p = some (.dK kvs) ∧ k = !kvs.isEmpty := e
    rcases e' with ⟨xs, hx, e'⟩ | ⟨xs, hx, e'⟩ | ⟨kvs, hx, e'⟩
    · subst e'
      obtain ⟨its, r, pl, hz⟩ := I.list hx
      have hlen := r.length
      exact wpAny_truthy_list pl.isList (by simp only [List.size_toArray]; omega) ⟨H, I.tok _, by rw [isEmpty_of r]; exact q⟩
    · subst e'
      obtain ⟨its, r, pl, hz⟩ := I.tuple hx
      have hlen := r.length
      exact truthy_tuple pl (by simp only [List.size_toArray]; omega) ⟨H, I.tok _, by rw [isEmpty_of r]; exact q⟩
    · subst e'
      obtain ⟨hz, hS, vs, r, m⟩ : kvs.length ≤ sizeLine ∧ (p == sysModules) = false ∧ ∃ vs, KV kvs vs ∧ s.heap.DictOf (mixKind X.prog X.w) p vs := I.hok p _ hx
      have hlen : kvs.length = vs.length := Paired.length r
      exact wpAny_truthy_dict hS m (by omega) ⟨H, I.tok _, by rw [isEmpty_kv r]; exact q⟩
  | _ => exact (show False from e).elim
/-- any expression whose test is its value's truth (a name, a call, a subscript, a field ..: he by fun _ => rfl) -/
theorem pt_truth (ha : PE X a ta) (he : ∀ whole, isTrue a X.env whole = (do let v ← whole; standAt a.pos; holding [v] (truthy v))) :
    PT X a (fun σ H Q => ta σ H fun x H' => ∃ k, TruV X.K x H' k ∧ Q k H') := by
  intro pins s σ H Q I h
  exact isTrue_plain (thn (ha pins s σ H _ I h) fun v s1 ⟨x, H1, I1, r1, q1⟩ => tru_ok pins s1 σ H1 x v Q I1 r1 q1) (he _)

/-! ### strs and bytes -/
/-! ### scalar builtins, by CallR -/
theorem vals1 {x : V} {us : List Value} (r : Vals [x] us) : ∃ u, us = [u] ∧ RelV x u := by
  cases r with
  | cons r1 r2 => cases r2; exact ⟨_, rfl, r1⟩
theorem vals2 {x y : V} {us : List Value} (r : Vals [x, y] us) : ∃ u w', us = [u, w'] ∧ RelV x u ∧ RelV y w' := by
  cases r with
  | cons r1 r2 =>
    cases r2 with
    | cons r3 r4 => cases r4; exact ⟨_, _, rfl, r1, r3⟩
theorem call_max2 (hc : X.calm = true) : CallR X (.builtin "max") (fun xs H Q => ∃ i j, xs = [.int i, .int j] ∧ Q (.int (if j > i then j else i)) H) := by
  intro pins s σ H xs us Q I r h
  obtain ⟨i, j, rfl, q⟩ := h
  obtain ⟨u, w', rfl, ⟨t, rfl⟩, ⟨t', rfl⟩⟩ := vals2 r
  refine max_two_ints (I.ok.hd hc) fun h' tk k => ⟨_, H, I.kept k, ?_, q⟩
  by_cases hj : j > i
  · rw [if_pos hj, if_pos hj]; exact ⟨_, rfl⟩
  · rw [if_neg hj, if_neg hj]; exact ⟨_, rfl⟩
theorem call_min2 (hc : X.calm = true) : CallR X (.builtin "min") (fun xs H Q => ∃ i j, xs = [.int i, .int j] ∧ Q (.int (if j < i then j else i)) H) := by
  intro pins s σ H xs us Q I r h
  obtain ⟨i, j, rfl, q⟩ := h
  obtain ⟨u, w', rfl, ⟨t, rfl⟩, ⟨t', rfl⟩⟩ := vals2 r
  refine min_two_ints (I.ok.hd hc) fun h' tk k => ⟨_, H, I.kept k, ?_, q⟩
  by_cases hj : j < i
  · rw [if_pos hj, if_pos hj]; exact ⟨_, rfl⟩
  · rw [if_neg hj, if_neg hj]; exact ⟨_, rfl⟩
theorem call_int1 : CallR X (.type "int") (fun xs H Q => (∃ i, xs = [.int i] ∧ Q (.int i) H) ∨ ∃ k, xs = [.bl k] ∧ Q (.int (if k then 1 else 0)) H) := by
  intro pins s σ H xs us Q I r h
  rcases h with ⟨i, rfl, q⟩ | ⟨k, rfl, q⟩
  · obtain ⟨u, rfl, t, rfl⟩ := vals1 r
    exact call_int_int ⟨.int i, H, I, ⟨_, rfl⟩, q⟩
  · obtain ⟨u, rfl, r1⟩ := vals1 r
    cases r1
    exact call_int_bool ⟨.int (if k then 1 else 0), H, I.tok _, ⟨_, rfl⟩, q⟩
end
end L2

namespace L2
open PySem PySem.Spec PyProof.Rows

/-! ### an instance, its attributes a map -/
structure ObjM (h : Heap) (x dx C : Addr) (mA : Str → Option Value) : Prop where
  obj : h.get? x = some (PySem.W.instObj C dx)
  ns : h.Ns1 dx mA
  ne : dx ≠ x

theorem lookIn_ns {h : Heap} {dx : Addr} {mA : Str → Option Value} (n : h.Ns1 dx mA) : ∃ od, h.get? dx = some od ∧ ∀ name, PySem.W.lookIn name od = some (mA name) := by
  obtain ⟨o, es, ep, ho, hd, hk, _, hm⟩ := n
  refine ⟨o, ho, fun name => ?_⟩
  have e := hm name
  unfold nsFind findBy at e
  rw [← Array.find?_toList] at e
  unfold PySem.W.lookIn
  rw [hd]
  dsimp only
  split
  · rename_i y q
    rw [q] at e
    exact congrArg some e
  · rename_i q
    rw [q] at e
    have a : es.toList.any (·.refKey) = false := by
      rw [List.any_eq_false]
      intro y hy
      obtain ⟨z, t, hkey⟩ := hk y (Array.mem_toList_iff.mp hy)
      simp [DictEntry.refKey, hkey]
    have a' : ¬ es.toList.any (·.refKey) = true := by rw [a]; exact Bool.false_ne_true
    rw [if_neg a']
    exact congrArg some e

theorem ObjM.look {h : Heap} {x dx C : Addr} {mA : Str → Option Value} (I : ObjM h x dx C mA) : ∃ od, PySem.W.InstAt h x (PySem.W.instObj C dx) C (some od) ∧ ∀ name, PySem.W.lookIn name od = some (mA name) :=
  let ⟨od, ho, hl⟩ := lookIn_ns I.ns
  ⟨od, ⟨I.obj, rfl, rfl, ho⟩, hl⟩

section
variable {prog : Program} {w : World} {A : Around} {E : Value → Shared → Prop} {s : Shared} {K : PySem.W.Frag} {x dx C f : Addr} {mA : Str → Option Value} {name : Str} {v : Value}

end

/-! ### the attributes as a list of pairs -/
def putF (f : Str) (v : V) : List (Str × V) → List (Str × V)
  | [] => [(f, v)]
  | (g, x) :: r => if g = f then (g, v) :: r else (g, x) :: putF f v r
section
variable {P : Program} {w : World} {H H' : Hp} {h h' : Heap} {a C dx : Addr} {fs fs' : List (Str × V)}
theorem ins_get (hok : HOk P w H h) (e : H a = some (.ins C dx fs)) : ∃ mA, ObjM h a dx C mA ∧ (∀ f, RelO (fs.lookup f) (mA f)) ∧ PySem.Within mA (fs.map (·.1)) ∧ fs.length ≤ 1000 ∧ H dx = some (.own a) := by
  obtain ⟨d, z, ne, ob, mA, n, r, q⟩ := (show ObjOk P w H h a (.ins C dx fs) from hok a _ e)
  exact ⟨mA, ⟨ob, n, ne⟩, r, q, z, d⟩
end

/-! ### what of the text a class must have -/
structure Cls (K : PySem.W.Frag) (C : Addr) : Prop where
  pg : PySem.W.plainGet K C Str.empty = true
  hd : PySem.W.hasDictIn K C = true
  po : PySem.W.plainOver K C = true
  sa : PySem.W.findIn K (.ref C) "__setattr__" = some (some (.builtin "object.__setattr__"))
theorem Cls.get {K : PySem.W.Frag} {C : Addr} (c : Cls K C) (f : Str) : PySem.W.plainGet K C f = true := c.pg
/-- no class of it has the name -/
def NoAttr (K : PySem.W.Frag) (C : Addr) (f : Str) : Prop := PySem.W.findIn K (.ref C) f = some none
/-- a constant of the class -/
structure Con (K : PySem.W.Frag) (C : Addr) (f : Str) (v : V) (u : Value) : Prop where
  at_ : PySem.W.findIn K (.ref C) f = some (some u)
  rel : RelV v u
  get : PySem.W.specialIn K u "__get__" = some none
  cp : PySem.W.copiedNames.contains f = false
/-- a method: a plain def of the class or of one above it -/
structure Meth (K : PySem.W.Frag) (C : Addr) (m : Str) (f : Addr) : Prop where
  at_ : PySem.W.findIn K (.ref C) m = some (some (.ref f))
  fn : PySem.W.isFn K (.ref f) = true
  kp : PySem.W.keepIn K (.ref f) = true

section
variable {X : Cx} {pins : List (Addr × Obj)} {σ : St} {H : Hp} {s : Shared} {a C dx : Addr} {fs : List (Str × V)} {f : Str} {v : V} {A : Around} {E : Value → Shared → Prop}

end

/-! ### readings and rules -/
/-- e.f, an attribute of the instance -/
def tFld (K : PySem.W.Frag) (ta : TE) (f : Str) : TE := fun σ H Q => ta σ H fun x H1 => ∃ a C dx fs v, x = .ref a ∧ H1 a = some (.ins C dx fs) ∧ Cls K C ∧ NoAttr K C f ∧ fs.lookup f = some v ∧ Q v H1
/-- e.f = value -/
def sFld (K : PySem.W.Frag) (ta tv : TE) (f : Str) : TS := fun D σ H => tv σ H fun y H1 => ta σ H1 fun x H2 => ∃ a C dx fs, x = .ref a ∧ H2 a = some (.ins C dx fs) ∧ Cls K C ∧ NoAttr K C f ∧ fs.length < 1000 ∧
  D.nx σ (upd H2 a (.ins C dx (putF f y fs)))
section
variable {X : Cx} {o e value : Expr} {f : Str} {pos pos' tpos : Pos} {ta tv : TE}
end

/-! ### isinstance -/
section
variable {X : Cx} {pins : List (Addr × Obj)} {σ : St} {H : Hp} {s : Shared} {A : Around} {E : Value → Shared → Prop} {Q : Value → Shared → Prop} {c : Value} {b : Bool}
/-- the type of a value, as the fragment's deciders take it; for an instance its class -/
inductive TyOf (K : PySem.W.Frag) (H : Hp) : V → Value → Prop where
  | non : TyOf K H .non (.type "NoneType")
  | bl (x : Bool) : TyOf K H (.bl x) (.type "bool")
  | int (i : Int) : TyOf K H (.int i) (.type "int")
  | str (x : Str) : TyOf K H (.str x) (.type "str")
  | flt (x : UInt64) : TyOf K H (.flt x) (.type "float")
  | lst {a : Addr} {xs : List V} (e : H a = some (.lst xs)) : TyOf K H (.ref a) (.type "list")
  | frz {a : Addr} {o : Obj} {xs : List V} (e : H a = some (.frz o (.lst xs))) : TyOf K H (.ref a) (.type "list")
  | tup {a : Addr} {xs : List V} (e : H a = some (.tup xs)) : TyOf K H (.ref a) (.type "tuple")
  | dK {a : Addr} {kvs : List (Key × V)} (e : H a = some (.dK kvs)) : TyOf K H (.ref a) (.type "dict")
  | dT {a : Addr} {kvs : List (List Key × V)} (e : H a = some (.dT kvs)) : TyOf K H (.ref a) (.type "dict")
  | ins {a C dx : Addr} {fs : List (Str × V)} (e : H a = some (.ins C dx fs)) (cl : Cls K C) (ha : PySem.W.findIn K (.ref C) "__class__" = some (some (.builtin "object.__class__")))
      (hn : PySem.W.specialIn K (.builtin "object.__class__") "__get__" = some (some (.builtin "getset_descriptor.__get__"))) (htk : PySem.W.takesIn K (.builtin "object.__class__") = some true)
      (hm : PySem.W.mroIn K C (.type "object") = some true) : TyOf K H (.ref a) (.ref C)
/-- isinstance(x, c) for one class c, a built-in or an own one: kitOne's answer -/
theorem isinst_ok {x : V} {u t : Value} (I : Inv X pins σ H s) (rx : RelV x u) (ty : TyOf X.K H x t) (e : PySem.W.kitOne X.K t c = some b) (h : ∀ tk, Q (.bool b) { s with toks := tk }) :
    wpAny (model X.prog X.w) A (call (.builtin "isinstance") [u, c]) Q E s := by
  cases ty with
  | non => cases (show u = Value.none from rx); exact PySem.W.kia_one PySem.W.kitx_none I.kIn True.intro e (fun z => nomatch z) h
  | bl y => cases (show u = Value.bool y from rx); exact PySem.W.kia_one PySem.W.kitx_bool I.kIn True.intro e (fun z => nomatch z) h
  | int i => obtain ⟨t, q⟩ := (show ∃ t, u = Value.int i t from rx); cases q; exact PySem.W.kia_one PySem.W.kitx_int I.kIn True.intro e (fun z => nomatch z) h
  | str y => obtain ⟨t, q⟩ := (show ∃ t, u = Value.str y t from rx); cases q; exact PySem.W.kia_one PySem.W.kitx_str I.kIn True.intro e (fun z => nomatch z) h
  | flt y => obtain ⟨t, q⟩ := (show ∃ t, u = Value.float y t from rx); cases q; exact PySem.W.kia_one PySem.W.kitx_float I.kIn True.intro e (fun z => nomatch z) h
  | @lst a xs ea =>
    cases (show u = Value.ref a from rx)
    obtain ⟨_, _, n, _, h1⟩ := (show ObjOk X.prog X.w H s.heap a (.lst xs) from I.hok a _ ea)
    exact PySem.W.kia_one PySem.W.kitx_list I.kIn ⟨_, h1, rfl⟩ e (fun z => nomatch z) h
  | @frz a ob xs ea =>
    cases (show u = Value.ref a from rx)
    obtain ⟨_, _, _, n, _, h1⟩ := (show ObjOk X.prog X.w H s.heap a (.frz ob (.lst xs)) from I.hok a _ ea)
    exact PySem.W.kia_one PySem.W.kitx_list I.kIn ⟨_, h1, rfl⟩ e (fun z => nomatch z) h
  | @tup a xs ea =>
    cases (show u = Value.ref a from rx)
    obtain ⟨_, _, _, p⟩ := (show ObjOk X.prog X.w H s.heap a (.tup xs) from I.hok a _ ea)
    obtain ⟨o, h1, h2, _⟩ := p
    exact PySem.W.kia_one PySem.W.kitx_tuple I.kIn ⟨o, h1, h2⟩ e (fun z => nomatch z) h
  | @dK a kvs ea =>
    cases (show u = Value.ref a from rx)
    obtain ⟨_, _, vs, _, p⟩ := (show ObjOk X.prog X.w H s.heap a (.dK kvs) from I.hok a _ ea)
    obtain ⟨o, es, ep, h1, h2, _⟩ := p
    exact PySem.W.kia_one PySem.W.kitx_dict I.kIn ⟨o, h1, h2.1⟩ e (fun z => nomatch z) h
  | @dT a kvs ea =>
    cases (show u = Value.ref a from rx)
    obtain ⟨_, _, xs, _, o, es, ep, h1, h2, _⟩ := (show ObjOk X.prog X.w H s.heap a (.dT kvs) from I.hok a _ ea)
    exact PySem.W.kia_one PySem.W.kitx_dict I.kIn ⟨o, h1, h2.1⟩ e (fun z => nomatch z) h
  | @ins a C dx fs ea cl ha hn htk hm =>
    cases (show u = Value.ref a from rx)
    obtain ⟨mA, O, _⟩ := ins_get I.hok ea
    obtain ⟨od, J, _⟩ := O.look
    exact PySem.W.kia_one (PySem.W.kitx_own (cl.get _) cl.hd ha hn htk hm) I.kIn J e (fun z => nomatch z) h
end
end L2

namespace L2
open PySem PySem.Spec PyProof.Rows

/-! ### room -/
structure Room (k : Nat) (A : Around) : Prop where
  hd : A.handled = none
  dp : A.depth + 3 * k + 5 < recursionLimit
  un : A.units + 16 * k + 200 < cLine
theorem Room.mono {j k : Nat} {A : Around} (r : Room k A) (h : j ≤ k) : Room j A := ⟨r.hd, by have := r.dp; omega, by have := r.un; omega⟩
theorem Room.deeper {k : Nat} {A : Around} (r : Room (k + 1) A) (env : Env) : Room k (A.deeper env) :=
  ⟨r.hd, by have := r.dp; show A.depth + 1 + 3 * k + 5 < _; omega, by have := r.un; show A.units + 3 + 16 * k + 200 < _; omega⟩
theorem Room.in1 {k : Nat} {A : Around} (r : Room (k + 1) A) : Room k A.in1 :=
  ⟨r.hd, by have := r.dp; show A.depth + 3 * k + 5 < _; omega, by have := r.un; show A.units + 1 + 16 * k + 200 < _; omega⟩
theorem make_depth {A : Around} {C : Addr} {us : List Value} {kw : List (Str × Value)} : (A.under (.builtin "type.__call__" ⟨.ref C :: us, kw⟩)).depth = A.depth + 1 := by
  first | rfl | simp [Around.under, Code.weight, Code.isCreation, Code.isGuard, Code.isCaller, Code.frames, Code.isFrame, guardIds]
theorem make_units {A : Around} {C : Addr} {us : List Value} {kw : List (Str × Value)} : (A.under (.builtin "type.__call__" ⟨.ref C :: us, kw⟩)).units = A.units + 1 := by
  first | rfl | simp [Around.under, Code.cUnits, Code.frames, Code.isFrame]
theorem Room.make {k : Nat} {A : Around} (r : Room (k + 1) A) (C : Addr) (us : List Value) (kw : List (Str × Value)) : Room k (A.under (.builtin "type.__call__" ⟨.ref C :: us, kw⟩)) :=
  ⟨r.hd, by have := r.dp; rw [make_depth]; omega, by have := r.un; rw [make_units]; omega⟩
theorem Room.depth {k : Nat} {A : Around} (r : Room k A) : A.depth < recursionLimit := by have := r.dp; omega
theorem Room.units {k : Nat} {A : Around} (r : Room k A) : A.units + 64 < cLine := by have := r.un; omega
/-! ### argument lists and displays -/
def tNil : TA := fun _ H Q => Q [] H
def tCons (ta : TE) (tr : TA) : TA := fun σ H Q => ta σ H fun x H1 => tr σ H1 fun xs H2 => Q (x :: xs) H2
section
variable {X : Cx} {e : Expr} {es : List Expr} {te : TE} {t : TA} {pos : Pos}
theorem pa_nil : PA X [] tNil := fun _ _ _ _ H Q I h => Calls.spliced_nil ⟨[], H, I, .nil, h⟩
theorem pa_cons (ha : PE X e te) (hr : PA X es t) (hs : starEach (e :: es) X.env = (false, eval e X.env) :: starEach es X.env := by rfl) : PA X (e :: es) (tCons te t) := by
  intro pos pins s σ H Q I h
  rw [hs]
  show wpAny _ _ (spliced ((false, eval e X.env) :: backTo pos (starEach es X.env))) _ _ s
  refine Calls.spliced_cons (thn (ha pins s σ H _ I h) fun u s1 ⟨x, H1, I1, r1, q1⟩ => ?_)
  exact thn (hr pos pins s1 σ H1 _ I1 q1) fun us s2 ⟨xs, H2, I2, r2, q2⟩ => ⟨x :: xs, H2, I2, .cons r1 r2, q2⟩

/-- a tuple, a list of written items -/
def tTup (t : TA) : TE := fun σ H Q => t σ H fun xs H1 => xs.length ≤ sizeLine ∧ ∀ p, H1 p = none → Q (.ref p) (upd H1 p (.tup xs))
def tLst (t : TA) : TE := fun σ H Q => t σ H fun xs H1 => xs.length ≤ sizeLine ∧ ∀ p, H1 p = none → Q (.ref p) (upd H1 p (.lst xs))
theorem pe_tup {x1} (h : PA X es t) : PE X (.Tuple es x1 pos) (tTup t) := by
  intro pins s σ H Q I hq
  refine wpAny_Tuple_spliced (thn (h pos pins s σ H _ I hq) fun us s1 ⟨xs, H1, I1, r, z, q⟩ => ⟨by rw [← r.length]; exact z, ?_⟩)
  have hf : H1 s1.heap.objs.size = none := I1.hok.fresh (Nat.le_refl _)
  refine ⟨.ref s1.heap.objs.size, upd H1 s1.heap.objs.size (.tup xs), I1.laid (t' := s1.toks) (fun b u e => Heap.get?_push_of_some _ e) (Nat.le_refl _) ?_, rfl, q _ hf⟩
  exact ⟨z, us, r, ⟨_, Heap.get?_push_size _ rfl, rfl, _, rfl⟩⟩
theorem pe_lst (h : PA X es t) : PE X (.List es pos) (tLst t) := by
  intro pins s σ H Q I hq
  refine wpAny_List_spliced (thn (h pos pins s σ H _ I hq) fun us s1 ⟨xs, H1, I1, r, z, q⟩ => ⟨by rw [← r.length]; exact z, ?_⟩)
  have hf : H1 s1.heap.objs.size = none := I1.hok.fresh (Nat.le_refl _)
  refine ⟨.ref s1.heap.objs.size, upd H1 s1.heap.objs.size (.lst xs), I1.laid (t' := s1.toks) (fun b u e => Heap.get?_push_of_some _ e) (Nat.le_refl _) ?_, rfl, q _ hf⟩
  exact ⟨z, us, 0, r, Heap.get?_push_size _ rfl⟩
end

/-! ### what a def promises -/
/-- a def's promise: the bound arguments in the parameters' order, the heap, the wanted end, the wanted exception -/
abbrev Sp := List V → Hp → VK → XK → Prop
/-- how an exception lies behind a call (file 08 gives it): the callers' frames, abstract heap and state ahead of the call, the wish, the exception, the state -/
abbrev CXT := List Env → Hp → Shared → XK → Value → Shared → Prop

/-- the state at a call -/
structure Env0 (P : Program) (w : World) (K : PySem.W.Frag) (mg : Str → Option Value) (base : Heap) (A : Around) (outer : List Env) (s : Shared) (H : Hp) : Prop where
  frames : A.frames = some outer
  mod : Mod K mg base
  bs : ∀ b o, base.get? b = some o → s.heap.get? b = some o ∧ H b = none
  bsz : base.objs.size ≤ s.heap.objs.size
  funs : s.heap.FunFrames base outer
  frf : ∀ b ∈ frs outer, H b = none
  hok : HOk P w H s.heap
  bare : AllBare s.gens
/-- a call's end -/
def CE (outer : List Env) (P : Program) (w : World) (H : Hp) (s : Shared) (Q : VK) (u : Value) (s' : Shared) : Prop :=
  ∃ v H', s'.os = s.os ∧ AllBare s'.gens ∧ Un (frs outer) [] H H' s.heap s'.heap ∧ HOk P w H' s'.heap ∧ RelV v u ∧ Q v H'
def CR (CX : CXT) (outer : List Env) (P : Program) (w : World) (H : Hp) (s : Shared) (Q : VK) (E : XK) (r : Result) (s' : Shared) : Prop :=
  match r with
  | .ok (.ret u) => CE outer P w H s Q u s'
  | .ok _ => False
  | .error e => CX outer H s E e s'
structure FnOk (P : Program) (w : World) (K : PySem.W.Frag) (mg : Str → Option Value) (base : Heap) (CX : CXT) (k : Nat) (f : Addr) (fd : FuncData) (ps : List Str) (sp : Sp) : Prop where
  len : ∀ vs H Q E, sp vs H Q E → vs.length = ps.length
  run : ∀ (A : Around) (outer : List Env) (s : Shared) (H : Hp) (args : Args) (us : List Value) (vs : List V) (Q : VK) (E : XK), Room k A → Env0 P w K mg base A outer s H → BindsTo s fd args (ps.zip us) → Vals vs us → sp vs H Q E →
    codeAny (model P w) A (.call (.ref f) args) (CR CX outer P w H s Q E) s
theorem FnOk.mono {P : Program} {w : World} {K : PySem.W.Frag} {mg : Str → Option Value} {base : Heap} {CX : CXT} {j k : Nat} {f : Addr} {fd : FuncData} {ps : List Str} {sp : Sp} (F : FnOk P w K mg base CX j f fd ps sp) (h : j ≤ k) :
    FnOk P w K mg base CX k f fd ps sp := ⟨F.len, fun A outer s H args us vs Q E hr => F.run A outer s H args us vs Q E (hr.mono h)⟩
theorem Env0.make {P : Program} {w : World} {K : PySem.W.Frag} {mg : Str → Option Value} {base : Heap} {A : Around} {outer : List Env} {s : Shared} {H : Hp} (e : Env0 P w K mg base A outer s H) (C : Addr) (us : List Value) (kw : List (Str × Value)) :
    Env0 P w K mg base (A.under (.builtin "type.__call__" ⟨.ref C :: us, kw⟩)) outer s H := ⟨by first | exact e.frames | (simpa [Around.under, Code.envs, Code.isFrame, pushEnvs] using e.frames), e.mod, e.bs, e.bsz, e.funs, e.frf, e.hok, e.bare⟩
theorem Env0.in1 {P : Program} {w : World} {K : PySem.W.Frag} {mg : Str → Option Value} {base : Heap} {A : Around} {outer : List Env} {s : Shared} {H : Hp} (e : Env0 P w K mg base A outer s H) :
    Env0 P w K mg base A.in1 outer s H := ⟨e.frames, e.mod, e.bs, e.bsz, e.funs, e.frf, e.hok, e.bare⟩

section
variable {X : Cx} {pins : List (Addr × Obj)} {σ : St} {H : Hp} {s s' : Shared}
/-- from a body: what a callee wants -/
theorem Inv.env0 (I : Inv X pins σ H s) : Env0 X.prog X.w X.K X.mg X.base X.A X.stack s H :=
  ⟨I.ok.frames, I.ok.mod, I.bs, Nat.le_trans I.ok.bsz I.sz, I.stack, I.stkFree, I.hok, I.bare⟩
/-- behind a call -/
theorem Inv.after {Q : VK} {u : Value} (I : Inv X pins σ H s) (h : CE X.stack X.prog X.w H s Q u s') : EP X pins σ Q u s' := by
  obtain ⟨v, H', os, bare, un, hok, r, q⟩ := h
  obtain ⟨hh, g, d, t, os'⟩ := s'
  obtain rfl : os' = s.os := os
  exact ⟨v, H', I.call (h' := hh) (g' := g) (d' := d) (t' := t) (ch := []) un hok bare (fun b z => absurd z (by simp)), r, q⟩
end

/-! ### calls -/
/-- f(..): the written arguments, then the defaults dvs; E: what is wanted of an exception -/
def tCall (sp : Sp) (dvs : List V) (E : XK) (t : TA) : TE := fun σ H Q => t σ H fun vs H1 => sp (vs ++ dvs) H1 Q E
/-- o.m(..) of an instance of the class at C -/
def tMeth (C : Addr) (m : Str) (sp : Sp) (dvs : List V) (E : XK) (ta : TE) (t : TA) : TE := fun σ H Q => ta σ H fun x H1 => ∃ a dx fs, x = .ref a ∧ H1 a = some (.ins C dx fs) ∧ fs.lookup m = none ∧
  t σ H1 fun vs H2 => sp (x :: (vs ++ dvs)) H2 Q E
/-- C(..): a new instance and its dict, then __init__ -/
def tMake (C : Addr) (sp : Sp) (dvs : List V) (E : XK) (t : TA) : TE := fun σ H Q => t σ H fun vs H1 => ∀ x dx, H1 x = none → H1 dx = none → dx ≠ x →
  sp (.ref x :: (vs ++ dvs)) (upd (upd H1 dx (.own x)) x (.ins C dx [])) (fun v H2 => v = .non ∧ Q (.ref x) H2) E

/-- how the parameters are bound: us the positional arguments, kw the keywords' values by name, ds the defaults that fill up -/
def Binds (K : PySem.W.Frag) (fd : FuncData) (ps : List Str) (ds : List Value) : Prop :=
  ∀ (s : Shared) (us : List Value), K.In s.heap → (us ++ ds).length = ps.length → BindsTo s fd ⟨us, []⟩ (ps.zip (us ++ ds))
/-- every parameter is given -/
theorem Binds.all {K : PySem.W.Frag} {fd : FuncData} {ps : List Str} (h : ∀ us : List Value, us.length = ps.length → bindArgs fd ⟨us, []⟩ = pure (ps.zip us)) : Binds K fd ps [] := fun s us _ hl => by
  rw [List.append_nil] at hl ⊢
  exact .of_eq (h us hl)

/-- an exception of a callee reaches what this body wants of exceptions -/
def Passes (CX : CXT) (X : Cx) (E : XK) : Prop := ∀ (pins : List (Addr × Obj)) (σ : St) (H : Hp) (s : Shared) (e : Value) (s' : Shared), Inv X pins σ H s → CX X.stack H s E e s' → X.xe e s'

section
variable {X : Cx} {CX : CXT} {k : Nat} {f C : Addr} {fd : FuncData} {ps : List Str} {sp : Sp} {dvs : List V} {ds : List Value} {E : XK} {x m : Str} {p pos apos : Pos} {e o : Expr} {es : List Expr} {ta : TE} {t : TA}

/-- the callee runs -/
theorem run_fn {pins : List (Addr × Obj)} {σ : St} {H : Hp} {s : Shared} {Q : VK} {us : List Value} {vs : List V} (F : FnOk X.prog X.w X.K X.mg X.base CX k f fd ps sp) (hr : Room k X.A) (hb : Binds X.K fd ps ds) (hd : Vals dvs ds) (hx : Passes CX X E)
    (I : Inv X pins σ H s) (r : Vals vs us) (h : sp (vs ++ dvs) H Q E) : wpAny (model X.prog X.w) X.A (call (.ref f) us) (EP X pins σ Q) X.xe s := by
  have r2 : Vals (vs ++ dvs) (us ++ ds) := r.append hd
  have hl : (us ++ ds).length = ps.length := by rw [← r2.length]; exact F.len _ _ _ _ h
  refine wpAny_call (codeAny_mono (F.run X.A X.stack s H ⟨us, []⟩ (us ++ ds) (vs ++ dvs) Q E hr I.env0 (hb s us I.kIn hl) r2 h) fun r s' hq => ?_)
  cases r with
  | error e => exact hx pins σ H s e s' I hq
  | ok fl =>
    cases fl with
    | ret u => exact I.after hq
    | next => exact False.elim hq
    | brk => exact False.elim hq
    | cont => exact False.elim hq

theorem pe_call (F : FnOk X.prog X.w X.K X.mg X.base CX k f fd ps sp) (hr : Room k X.A) (hg : Gl X x) (hm : X.mg x = some (.ref f)) (hk : PySem.W.keepIn X.K (.ref f) = true) (hb : Binds X.K fd ps ds) (hd : Vals dvs ds) (hx : Passes CX X E)
    (ha : PA X (e :: es) t) (hdb : (x == ("__debug__" : Str)) = false := by decide) (he : starEach (e :: es) X.env = (false, eval e X.env) :: starEach es X.env := by rfl) (hpl : (backTo pos (starEach es X.env)).any (·.1) = false := by rfl) :
    PE X (.Call (.Name x p) (e :: es) [] pos) (tCall sp dvs E t) := by
  intro pins s σ H Q I h
  refine wpAny_Call_Name_kw (ld_glob I hg hm ?_ hdb)
  refine PySem.W.callWith_K (h₀ := X.base) I.ok.mod.kin hk (thn (ha pos pins s σ H _ I h) fun us s1 ⟨vs, H1, I1, r, q⟩ => ⟨I1.kIn, ?_⟩) he hpl
  exact run_fn F hr hb hd hx I1 r q
/-- what a class must have to be made -/
structure Mk (K : PySem.W.Frag) (C f : Addr) : Prop where
  makes : PySem.W.makesIn K C = true
  init : PySem.W.findIn K (.ref C) "__init__" = some (some (.ref f))
  fn : PySem.W.isFn K (.ref f) = true
  kp : PySem.W.keepIn K (.ref C) = true

end

/-! ### keywords -/
/-- the values of the keywords, from the left -/
def PK (X : Cx) (kws : List Keyword) (t : TA) : Prop :=
  ∀ (pos : Pos) (pins : List (Addr × Obj)) (s : Shared) (σ : St) (H : Hp) (Q : List V → Hp → Prop), Inv X pins σ H s → t σ H Q → wpAny (model X.prog X.w) X.A (evalAll ((backToKw pos (keywordEach kws X.env)).map (·.2))) (AP X pins σ Q) X.xe s
section
variable {X : Cx} {CX : CXT} {k : Nat} {f C : Addr} {fd : FuncData} {ps ks : List Str} {sp : Sp} {E : XK} {x m : Str} {p pos apos kpos : Pos} {e o : Expr} {es : List Expr} {kws : List Keyword} {te ta : TE} {t tk : TA} {nm : Option Str}
theorem pk_nil : PK X [] tNil := fun _ _ _ _ H Q I h => wpAny_evalAll_nil ⟨[], H, I, .nil, h⟩
theorem pk_cons (ha : PE X e te) (hr : PK X kws t) : PK X (⟨nm, e, kpos⟩ :: kws) (tCons te t) := by
  intro pos pins s σ H Q I h
  show wpAny _ _ (evalAll ((do let v ← eval e X.env; standAt pos; pure v) :: (backToKw pos (keywordEach kws X.env)).map (·.2))) _ _ s
  refine wpAny_evalAll_cons (wpAny_bind (thn (ha pins s σ H _ I h) fun u s1 ⟨x, H1, I1, r1, q1⟩ => wpAny_bind (wpAny_standAt (wpAny_pure ?_))))
  exact thn (hr pos pins s1 σ H1 _ I1 q1) fun us s2 ⟨xs, H2, I2, r2, q2⟩ => ⟨x :: xs, H2, I2, .cons r1 r2, q2⟩

/-- how a call with keywords binds: g puts the positional values us and the keywords' values ws (names ks) in the parameters' order, defaults among them -/
structure KBinds (K : PySem.W.Frag) (fd : FuncData) (ps ks : List Str) (g : List Value → List Value → List Value) (gV : List V → List V → List V) : Prop where
  to : ∀ (s : Shared) (us ws : List Value), K.In s.heap → (g us ws).length = ps.length → BindsTo s fd ⟨us, ks.zip ws⟩ (ps.zip (g us ws))
  rel : ∀ {vs : List V} {us : List Value} {zs : List V} {ws : List Value}, Vals vs us → Vals zs ws → Vals (gV vs zs) (g us ws)
variable {g : List Value → List Value → List Value} {gV : List V → List V → List V}
end

/-! ### a def's body keeps its promise -/
/-- names: the parameters first -/
structure FnScope (N P : List Str) (sc : Scope) : Prop where
  kind : sc.kind = .function
  co : sc.isCoroutine = false
  gen : sc.isGenerator = false
  nd : N.Nodup
  pre : N.take P.length = P
  par : ∀ x ∈ P, sc.names.lookup x = some .local ∨ sc.names.lookup x = some .cell
  nofree : ∀ y ∈ sc.names, y.2 ≠ .free

theorem bindL_out {kindOf : Str → Option NameKind} {x : Str} : ∀ {binds : List (Str × Value)} {m : Str → Option Value}, (∀ v, (x, v) ∉ binds) → bindL kindOf binds m x = m x
  | [], _, _ => rfl
  | (n, v) :: r, m, h => by
    unfold bindL
    rw [bindL_out fun w hw => h w (List.mem_cons_of_mem _ hw)]
    split
    · have : x ≠ n := by rintro rfl; exact h v List.mem_cons_self
      simp [this]
    · rfl
theorem bindC_out {kindOf : Str → Option NameKind} {x : Str} : ∀ {binds : List (Str × Value)} {m : Str → Option Value}, (∀ v, (x, v) ∉ binds) → bindC kindOf binds m x = m x
  | [], _, _ => rfl
  | (n, v) :: r, m, h => by
    unfold bindC
    rw [bindC_out fun w hw => h w (List.mem_cons_of_mem _ hw)]
    split
    · rfl
    · have : x ≠ n := by rintro rfl; exact h v List.mem_cons_self
      simp [this]
theorem bindL_get {kindOf : Str → Option NameKind} {x : Str} {v : Value} : ∀ {P : List Str} {vs : List Value} {i : Nat} {m : Str → Option Value}, P.Nodup → P[i]? = some x → vs[i]? = some v → kindOf x = some .local →
    bindL kindOf (P.zip vs) m x = some v
  | [], _, _, _, _, h, _, _ => by simp at h
  | _ :: _, [], _, _, _, _, h, _ => by simp at h
  | p :: P, w :: vs, 0, m, nd, h1, h2, hk => by
    simp at h1 h2; subst h1; subst h2
    show bindL kindOf ((p, w) :: P.zip vs) m p = _
    unfold bindL
    rw [bindL_out fun v hv => (List.nodup_cons.mp nd).1 (List.of_mem_zip hv).1, if_pos hk]
    simp
  | p :: P, w :: vs, i + 1, m, nd, h1, h2, hk => by
    show bindL kindOf ((p, w) :: P.zip vs) m x = _
    unfold bindL
    exact bindL_get (i := i) (List.nodup_cons.mp nd).2 (by simpa using h1) (by simpa using h2) hk
theorem bindC_get {kindOf : Str → Option NameKind} {x : Str} {v : Value} : ∀ {P : List Str} {vs : List Value} {i : Nat} {m : Str → Option Value}, P.Nodup → P[i]? = some x → vs[i]? = some v → kindOf x ≠ some .local →
    bindC kindOf (P.zip vs) m x = some v
  | [], _, _, _, _, h, _, _ => by simp at h
  | _ :: _, [], _, _, _, _, h, _ => by simp at h
  | p :: P, w :: vs, 0, m, nd, h1, h2, hk => by
    simp at h1 h2; subst h1; subst h2
    show bindC kindOf ((p, w) :: P.zip vs) m p = _
    unfold bindC
    rw [bindC_out fun v hv => (List.nodup_cons.mp nd).1 (List.of_mem_zip hv).1, if_neg hk]
    simp
  | p :: P, w :: vs, i + 1, m, nd, h1, h2, hk => by
    show bindC kindOf ((p, w) :: P.zip vs) m x = _
    unfold bindC
    exact bindC_get (i := i) (List.nodup_cons.mp nd).2 (by simpa using h1) (by simpa using h2) hk

/-- the names' values at the entry -/
def start (N : List Str) (vs : List V) : St := vs.map some ++ List.replicate (N.length - vs.length) none

/-- the context of a def's body, at its entry; an exception leaves the frame, then lies as CX says -/
def cxOf (CX : CXT) (P : Program) (w : World) (K : PySem.W.Frag) (mg : Str → Option Value) (base : Heap) (N : List Str) (qual : Str) (scope : Scope) (f : Addr) (cd : Value) (A : Around) (outer : List Env) (s : Shared) (H : Hp) (E : XK) : Cx where
  prog := P
  w := w
  K := K
  mg := mg
  base := base
  A := A.deeper (envOfC qual scope s.heap.objs.size f cd)
  N := N
  s₀ := s
  H₀ := H
  env := envOfC qual scope s.heap.objs.size f cd
  outer := outer
  stack := envOfC qual scope s.heap.objs.size f cd :: outer
  ex := []
  calm := true
  fn := fun _ => true
  pn := []
  xe := fun e s' => wpAny (model P w) (A.deeper (envOfC qual scope s.heap.objs.size f cd)) (leaving (envOfC qual scope s.heap.objs.size f cd) e) (fun _ s'' => CX outer H s E e s'') (fun e' s'' => CX outer H s E e' s'') s'

theorem cell_has {sc : Scope} {n : Nat} {x : Str} (h : sc.names.lookup x = some .cell) : ∃ c, (cellsFrom n sc.names []).lookup x = some c := by
  have q := PySem.W.cellsFrom_some sc.names n [] (.inl h)
  exact Option.isSome_iff_exists.mp q

theorem inv_start {CX : CXT} {P : Program} {w : World} {K : PySem.W.Frag} {mg : Str → Option Value} {base : Heap} {N ps : List Str} {qual : Str} {scope : Scope} {f : Addr} {cd : Value} {A : Around} {outer : List Env} {s s1 : Shared} {H : Hp} {E : XK} {us : List Value} {vs : List V}
    (S : FnScope N ps scope) (hd : A.handled = none) (e0 : Env0 P w K mg base A outer s H) (hl : vs.length = ps.length) (r : Vals vs us)
    (x : InCallC s s.heap.objs.size (bindL (envOfC qual scope s.heap.objs.size f cd).kindOf (ps.zip us) fun _ => none) (cellsFrom (s.heap.objs.size + 1) scope.names []) (bindC (envOfC qual scope s.heap.objs.size f cd).kindOf (ps.zip us) fun _ => none) s1) :
    Inv (cxOf CX P w K mg base N qual scope f cd A outer s H E) [] (start N vs) H s1 := by
  have hpl : ps.length ≤ N.length := by have := congrArg List.length S.pre; rw [List.length_take] at this; omega
  obtain ⟨h1, tk, rfl, hk⟩ := x.done
  have noA : ∀ b : Addr, b ∉ (cxOf CX P w K mg base N qual scope f cd A outer s H E).ex := fun b z => absurd (show b ∈ ([] : List Addr) from z) (by simp)
  refine ⟨⟨e0.mod, S.kind, rfl, rfl, Nat.le_refl _, fun y z c h1 h2 => ?_, fun y hy => ?_, fun y c _ h => ?_, fun _ => hd, Around.frames_deeper e0.frames, .inr ⟨rfl, rfl⟩, fun b z => absurd z (noA b), e0.bs, e0.bsz, fun b _ _ => noA b, fun b z => absurd z (noA b), e0.funs, e0.frf⟩,
    rfl, e0.bare, Un.kept hk, ⟨_, x.toInCall.ns, fun i y v h1 h2 h3 => ?_⟩, fun y c h => ⟨_, x.cell y c h⟩, e0.hok.fresh (Nat.le_refl _), fun y c h => ?_, fun p hp => absurd (show p ∈ ([] : List (Addr × Obj)) from hp) (by simp), e0.hok.kept hk, ?_⟩
  · exact name_of_addr x.apart (PySem.mem_of_lookup h1) (PySem.mem_of_lookup h2)
  · have hy : scope.names.lookup y = some .cell ∨ scope.names.lookup y = some .free := hy
    rcases hy with hy | hy
    · exact cell_has hy
    · exact absurd rfl (S.nofree _ (PySem.mem_of_lookup hy))
  · exact Nat.le_of_lt (x.above y c (PySem.mem_of_lookup h))
  · have hi : i < vs.length := by
      unfold start at h2
      by_cases hi : i < vs.length
      · exact hi
      · rw [List.getElem?_append_right (by simpa using hi)] at h2
        rw [List.getElem?_replicate] at h2
        split at h2 <;> cases h2
    have ha : vs[i]? = some v := by
      unfold start at h2
      rw [List.getElem?_append_left (by simpa using hi), List.getElem?_map] at h2
      cases e : vs[i]? with
      | none => rw [e] at h2; cases h2
      | some a => rw [e] at h2; cases h2; rfl
    obtain ⟨u, hu, rv⟩ := r.get ha
    have hp : ps[i]? = some y := by
      rw [← S.pre, List.getElem?_take_of_lt (by omega)]; exact h1
    have ndP : ps.Nodup := by rw [← S.pre]; exact S.nd.sublist (List.take_sublist _ _)
    refine ⟨u, rv, ?_⟩
    rcases S.par y (List.mem_of_getElem? hp) with k | k
    · exact .inl ⟨k, bindL_get ndP hp hu k⟩
    · obtain ⟨c, e⟩ := cell_has (n := s.heap.objs.size + 1) k
      refine .inr ⟨.inl k, c, e, ?_⟩
      have q := x.cell y c e
      rw [bindC_get ndP hp hu (by show scope.names.lookup y ≠ _; rw [k]; decide)] at q
      exact q
  · exact e0.hok.fresh (Nat.le_of_lt (x.above y c (PySem.mem_of_lookup h)))
  · unfold start
    show _ = N.length
    rw [List.length_append, List.length_map, List.length_replicate]
    omega

/-- THE RULE: a def (or a method) of the text, by its body. The body's reading t is chosen for each entry; it is run at the parameters' values -/
theorem fn_of {CX : CXT} {P : Program} {w : World} {K : PySem.W.Frag} {mg : Str → Option Value} {base : Heap} {k : Nat} {f : Addr} {name qual : Str} {params : Arguments} {body : List Stmt} {scope : Scope} {dV kV doc pm cdv ct oc : Value} {an od : Option Addr}
    {osl : Array (Option Value)} {N ps : List Str} {sp : Sp} (lk : K.lookup f = some ⟨oc, od, .func (PySem.W.fnOf name qual params body scope dV kV doc pm an cdv ct), osl⟩) (hcd : PySem.W.codeIn K cdv qual = true) (S : FnScope N ps scope)
    (len : ∀ vs H Q E, sp vs H Q E → vs.length = ps.length)
    (hbody : ∀ (A : Around) (outer : List Env) (s : Shared) (H : Hp) (vs : List V) (Q : VK) (E : XK), Room k (A.deeper (envOfC qual scope s.heap.objs.size f cdv)) → sp vs H Q E →
      ∃ t, PSs (cxOf CX P w K mg base N qual scope f cdv A outer s H E) body t ∧ t { nx := fun _ H' => Q .non H', rt := Q } (start N vs) H) :
    FnOk P w K mg base CX (k + 1) f (PySem.W.fnOf name qual params body scope dV kV doc pm an cdv ct) ps sp := by
  refine ⟨len, fun A outer s H args us vs Q E hr e0 hb r hsp => ?_⟩
  have hl := len _ _ _ _ hsp
  have KX : K.In s.heap := e0.mod.kin.keeps fun b o e => (e0.bs b o e).1
  have lim : s.heap.NoLimit := e0.mod.nolimit.keeps fun b o e => (e0.bs b o e).1
  have hkind : ∀ y ∈ ps.zip us, scope.names.lookup y.1 = some .local ∨ (scope.names.lookup y.1 = some .cell ∧ ((cellsFrom (s.heap.objs.size + 1) scope.names []).lookup y.1).isSome = true) := fun ⟨n, v⟩ hy => by
    rcases S.par n (List.of_mem_zip hy).1 with q | q
    · exact .inl q
    · exact .inr ⟨q, PySem.W.cellsFrom_some _ _ _ (.inl q)⟩
  refine codeAny_call_function hr.depth (KX _ _ lk) rfl S.co S.gen rfl (PySem.W.codeRec_of KX hcd) (hb _ _ _ _ ?_)
  refine wpAny_newFunctionEnv_cells S.kind hkind fun env he s1 x => ?_
  subst he
  refine ⟨lim.keeps x.toInCall.keep, codeAny_func ?_⟩
  obtain ⟨t, ht, hq⟩ := hbody A outer s H vs Q E (hr.deeper _) hsp
  have I : Inv (cxOf CX P w K mg base N qual scope f cdv A outer s H E) [] (start N vs) H s1 := inv_start S hr.hd e0 hl r x
  refine wpAny_mono (ht [] s1 (start N vs) H _ I hq) (fun fl s' hs => ?_) fun e s' hs => hs
  have fin : ∀ {σ' : St} {H' : Hp} {v : V} {u : Value}, Inv (cxOf CX P w K mg base N qual scope f cdv A outer s H E) [] σ' H' s' → RelV v u → Q v H' → CE outer P w H s Q u s' :=
    fun {σ' H' v u} J rv q => ⟨v, H', J.os, J.bare, J.base, J.hok, rv, q⟩
  cases fl with
  | ret u =>
    obtain ⟨v, σ', H', J, rv, q⟩ := hs
    exact fin J rv q
  | next =>
    obtain ⟨σ', H', J, q⟩ := hs
    exact fin (v := V.non) (u := Value.none) J rfl q
  | brk =>
    obtain ⟨_, _, _, q⟩ := hs
    exact False.elim q
  | cont =>
    obtain ⟨_, _, _, q⟩ := hs
    exact False.elim q
end L2

namespace L2
open PySem PySem.Spec PyProof.Rows
section
variable {X : Cx} {x : Str} {p pos : Pos} {e : Expr} {es : List Expr} {t : TA} {id T : String} {r : List V → Hp → VK → Prop}

def tCB (r : List V → Hp → VK → Prop) (t : TA) : TE := fun σ H Q => t σ H fun vs H1 => r vs H1 Q
/-- f(e, ..), f a built-in function -/
theorem pe_callB (hc : CallR X (.builtin id) r) (hg : Gl X x) (hm : X.mg x = none) (hv : bootBuiltins x = some (.builtin id)) (ha : PA X (e :: es) t) (hn : x ≠ "__name__" := by decide) (hdb : (x == ("__debug__" : Str)) = false := by decide)
    (he : starEach (e :: es) X.env = (false, eval e X.env) :: starEach es X.env := by rfl) (hpl : (backTo pos (starEach es X.env)).any (·.1) = false := by rfl) : PE X (.Call (.Name x p) (e :: es) [] pos) (tCB r t) := by
  intro pins s σ H Q I h
  refine wpAny_Call_Name_kw (ld_blt I hg hm hv ?_ hn hdb)
  exact PyProof.Rows.callWith_builtin1 (thn (ha pos pins s σ H _ I h) fun us s1 ⟨vs, H1, I1, r1, q1⟩ => hc pins s1 σ H1 vs us Q I1 r1 q1) he hpl
/-- T(e, ..), T a built-in type -/
theorem pe_callTy (hc : CallR X (.type T) r) (hg : Gl X x) (hm : X.mg x = none) (hv : bootBuiltins x = some (.type T)) (ha : PA X (e :: es) t) (hn : x ≠ "__name__" := by decide) (hdb : (x == ("__debug__" : Str)) = false := by decide)
    (he : starEach (e :: es) X.env = (false, eval e X.env) :: starEach es X.env := by rfl) (hpl : (backTo pos (starEach es X.env)).any (·.1) = false := by rfl) : PE X (.Call (.Name x p) (e :: es) [] pos) (tCB r t) := by
  intro pins s σ H Q I h
  refine wpAny_Call_Name_kw (ld_blt I hg hm hv ?_ hn hdb)
  exact PyProof.Rows.callWith_type1 (thn (ha pos pins s σ H _ I h) fun us s1 ⟨vs, H1, I1, r1, q1⟩ => hc pins s1 σ H1 vs us Q I1 r1 q1) he hpl
end
end L2

namespace HT
open PySem PyProof.Rows

/-- t < u of tuples of ints -/
def lexLt : List Int → List Int → Bool
  | [], [] => false
  | [], _ :: _ => true
  | _ :: _, [] => false
  | x :: xs, y :: ys => if x = y then lexLt xs ys else decide (x < y)
theorem lexLt_cons (x y : Int) (xs ys : List Int) : lexLt (x :: xs) (y :: ys) = if x = y then lexLt xs ys else decide (x < y) := rfl
theorem lexLt_nil_nil : lexLt [] [] = false := rfl
theorem lexLt_nil_cons (y : Int) (ys : List Int) : lexLt [] (y :: ys) = true := rfl
theorem lexLt_cons_nil (x : Int) (xs : List Int) : lexLt (x :: xs) [] = false := rfl

theorem eqAt_int (A : Around) (s : Shared) (a : Int) (t : Tok) (c : Int) (u : Tok) : ∃ e, SeqAt.EqAt A s (.int a t) (.int c u) e ∧ (e = true ↔ a = c) :=
  ⟨(a == c), SeqAt.EqAt.int_int a t c u, by simp⟩
theorem rcLt_int (A : Around) (s : Shared) (a : Int) (t : Tok) (c : Int) (u : Tok) (prog : Program) (w : World) (E : Value → Shared → Prop) (Q : Value → Shared → Prop) (h : Q (.bool (decide (a < c))) s) :
    wpAny (model prog w) A (richCompare .Lt (.int a t) (.int c u)) Q E s :=
  (PyProof.Rows.lt_int h : wpAny (model prog w) A (compareOp .Lt (.int a t) (.int c u)) Q E s)

section
open PySem.SeqAt
open PySem.AutoSeq1 (wpAny_loadPart')
open PySem.MeetsSeq PySem.MeetsSeq2 PySem.MeetsSeq3

theorem tuple_lt_ints (l b : Addr) (items items2 : Array Value) (n n2 : Nat) (dd dd2 : Option Addr) (sl sl2 : Array (Option Value)) (ns ms : List Int) (hi : IntsAre items.toList ns) (hj : IntsAre items2.toList ms) :
    Meets (Builtin.«tuple.__lt__» ⟨[.ref l, .ref b], []⟩)
      (fun _ R s => s.heap.get? l = some { cls := .type "tuple", dict := dd, data := .seq items n, slots := sl } ∧ s.heap.get? b = some { cls := .type "tuple", dict := dd2, data := .seq items2 n2, slots := sl2 } ∧
        R (.ok (.ret (.bool (lexLt ns ms)))) s) :=
  .of_wp fun prog w A R s h => by
    obtain ⟨hp, g, d, tk, os⟩ := s; obtain ⟨hl, hb, h⟩ := h
    have f2 := AutoSeq1.sub_tuple_tuple
    have z1 : items.size = ns.length := by rw [← hi.length]; simp
    have z2 : items2.size = ms.length := by rw [← hj.length]; simp
    wp_walk using wpAny_loadPart' hl, wpAny_loadPart' hb, wpAny_forIn_list _ (fun rest b s' => b.1 = none ∧ s' = ⟨hp, g, d, tk, os⟩ ∧ ∃ (vs ws : List Value) (ns' ms' : List Int), rest = vs.zip ws ∧
      IntsAre vs ns' ∧ IntsAre ws ms' ∧ ns'.length + items2.size = ms'.length + items.size ∧ R (.ok (.ret (.bool (lexLt ns' ms')))) ⟨hp, g, d, tk, os⟩) _
    case turn =>
      rintro ⟨y, x⟩ rest b s' ⟨hb', rfl, vs, ws, ns', ms', hz, hvi, hwi, hlen, hR⟩
      cases hvi with
      | nil => rw [List.zip_nil_left] at hz; cases hz
      | cons a t hvi' =>
        cases hwi with
        | nil => rw [List.zip_nil_right] at hz; cases hz
        | cons c u hwi' =>
          rw [List.zip_cons_cons] at hz
          injection hz with hyx hrest
          injection hyx with hy hx
          subst hy hx
          rw [lexLt_cons] at hR
          simp only [List.length_cons] at hlen
          obtain ⟨e, he, hiff⟩ := eqAt_int A.in1 ⟨hp, g, d, tk, os⟩ a t c u
          refine wpAny_bind (he prog w _ _ ?_)
          cases e with
          | true =>
            rw [if_pos (hiff.mp rfl)] at hR
            wp_walk
            exact ⟨rfl, rfl, _, _, _, _, hrest, hvi', hwi', by omega, hR⟩
          | false =>
            rw [if_neg (fun q => absurd (hiff.mpr q) Bool.false_ne_true)] at hR
            have hri := rcLt_int A.in1 ⟨hp, g, d, tk, os⟩ a t c u prog w
            wp_walk using hri
            exact ⟨_, rfl, by simpa using hR⟩
    case fin =>
      rintro ⟨b1, b2⟩ s' ⟨hb', rfl, vs, ws, ns', ms', hz, hvi, hwi, hlen, hR⟩
      simp only at hb'
      subst hb'
      have hv : lexLt ns' ms' = decide (items.size < items2.size) := by
        cases hvi with
        | nil =>
          cases hwi with
          | nil =>
            simp only [List.length_nil] at hlen
            rw [lexLt_nil_nil]
            exact (decide_eq_false (by omega)).symm
          | cons c u hw =>
            simp only [List.length_nil, List.length_cons] at hlen
            rw [lexLt_nil_cons]
            exact (decide_eq_true (by omega)).symm
        | cons a t hv =>
          cases hwi with
          | nil =>
            simp only [List.length_nil, List.length_cons] at hlen
            rw [lexLt_cons_nil]
            exact (decide_eq_false (by omega)).symm
          | cons c u hw =>
            rw [List.zip_cons_cons] at hz
            cases hz
      rw [hv] at hR
      wp_walk
      exact ⟨_, rfl, by simpa [Builtin.Tuple.tupleCompareSizes] using hR⟩
    case h =>
      exact ⟨rfl, rfl, items.toList, items2.toList, ns, ms, rfl, hi, hj, by omega, h⟩
end

section
variable {prog : Program} {w : World} {A : Around} {E : Value → Shared → Prop} {s : Shared}

theorem lt_tupInts {l b : Addr} {items items2 : Array Value} {ns ms : List Int} {Q : Value → Shared → Prop} (hl : IsTup s.heap l items) (hb : IsTup s.heap b items2) (hi : IntsAre items.toList ns) (hj : IntsAre items2.toList ms)
    (hu : A.units < cLine) (h : Q (.bool (lexLt ns ms)) s) : wpAny (model prog w) A (compareOp .Lt (.ref l) (.ref b)) Q E s := by
  obtain ⟨⟨cls, dd, data, sl⟩, ho, hc, n, hd⟩ := id hl
  obtain ⟨⟨cls2, dd2, data2, sl2⟩, ho2, hc2, n2, hd2⟩ := id hb
  simp only at hc hd hc2 hd2
  subst hc hd hc2 hd2
  exact richCompare_meets_room (op := .Lt) ⟨_, ho, rfl⟩ ⟨_, ho2, rfl⟩ PySem.F.slot_tuple_lt PySem.F.entry_tuple_lt (PySem.F.args_tuple_lt_2 _ _) (tuple_lt_ints l b items items2 n n2 dd dd2 sl sl2 ns ms hi hj)
    ⟨ho, ho2, show Value.bool (lexLt ns ms) ≠ Value.notImplemented ∧ Q (.bool (lexLt ns ms)) s from ⟨(fun x => nomatch x), h⟩⟩ hu

/-! ### t[a:b], not the whole -/
/-- a slice's bound as a place among n (d where it is left out) -/
def sIx (n d : Nat) : Option Int → Nat
  | none => d
  | some v => if v < 0 then (v + (n : Int)).toNat else min v.toNat n
theorem sIx_none (n d : Nat) : sIx n d none = d := rfl
theorem sIx_nat (n d k : Nat) : sIx n d (some (k : Int)) = min k n := by
  show (if (k : Int) < 0 then ((k : Int) + (n : Int)).toNat else min (k : Int).toNat n) = min k n
  rw [if_neg (by omega), Int.toNat_natCast]
end
end HT

namespace L2
open PySem PySem.Spec PyProof.Rows

/-! ### the parts of a slice -/
abbrev TO := St → Hp → (Option Int → Hp → Prop) → Prop
/-- a slice's part (left out, or an int) -/
def PO (X : Cx) (e : Option Expr) (t : TO) : Prop :=
  ∀ (pins : List (Addr × Obj)) (s : Shared) (σ : St) (H : Hp) (Q : Option Int → Hp → Prop), Inv X pins σ H s → t σ H Q →
    wpAny (model X.prog X.w) X.A (evalPart e X.env) (fun u s' => ∃ o H', Inv X pins σ H' s' ∧ IsPart u o ∧ Q o H') X.xe s
def tNoPart : TO := fun _ H Q => Q none H
def tPart (t : TE) : TO := fun σ H Q => t σ H fun x H1 => ∃ i, x = .int i ∧ Q (some i) H1

theorem intsAre_of {ns : List Int} : ∀ {us : List Value}, Vals (ns.map V.int) us → IntsAre us ns := by
  induction ns with
  | nil => intro us r; rw [List.map_nil] at r; cases r; exact .nil
  | cons n ns ih =>
    intro us r
    rw [List.map_cons] at r
    cases r with
    | cons r1 r2 =>
      obtain ⟨t, e⟩ := r1
      subst e
      exact .cons n t (ih r2)

section
variable {X : Cx} {e : Expr} {te : TE} {lo hi : Option Expr} {tl th : TO} {pos p2 : Pos}

theorem po_none : PO X none tNoPart := by
  intro pins s σ H Q I h
  rw [evalPart_none]
  exact wpAny_pure ⟨none, H, I, .none, h⟩
theorem po_some (h : PE X e te) : PO X (some e) (tPart te) := by
  intro pins s σ H Q I hw
  rw [evalPart_some]
  refine thn (h pins s σ H _ I hw) fun u s1 ⟨x, H1, I1, r1, q1⟩ => ?_
  obtain ⟨i, rfl, q⟩ := q1
  obtain ⟨t, rfl⟩ := r1
  exact ⟨some i, H1, I1, .int i t, q⟩

/-- what a slice of a value is, by values: the slice object stands at sl -/
def SlR (X : Cx) (r : V → Option Int → Option Int → Hp → VK → Prop) : Prop :=
  ∀ (pins : List (Addr × Obj)) (s : Shared) (σ : St) (H : Hp) (x : V) (v vl vu : Value) (lo hi : Option Int) (sl : Addr) (Q : VK), Inv X pins σ H s → RelV x v → s.heap.IsSliceOf sl vl vu .none → IsPart vl lo → IsPart vu hi → r x lo hi H Q →
    ∃ T id, typeLookup (.type T) "__getitem__" = pure (some (.builtin id)) ∧ s.TypeIs v T ∧ wpAny (model X.prog X.w) X.A (getItem v (.ref sl)) (EP X pins σ Q) X.xe s
def tSl (r : V → Option Int → Option Int → Hp → VK → Prop) (te : TE) (tl th : TO) : TE := fun σ H Q => te σ H fun x H1 => tl σ H1 fun l H2 => th σ H2 fun u H3 => r x l u H3 Q
/-- a[lo:hi], any a -/
theorem pe_slice {r : V → Option Int → Option Int → Hp → VK → Prop} (hr : SlR X r) (he : PE X e te) (hl : PO X lo tl) (hu : PO X hi th) : PE X (.Subscript e (.Slice lo hi none p2) pos) (tSl r te tl th) := by
  intro pins s σ H Q I h
  refine Subscript_ (thn (he pins s σ H _ I h) fun v s1 ⟨x, H1, I1, r1, q1⟩ => ?_)
  refine wpAny_Slice (thn (hl pins s1 σ H1 _ I1 q1) fun vl s2 ⟨l, H2, I2, pl, q2⟩ => thn (hu pins s2 σ H2 _ I2 q2) fun vu s3 ⟨u, H3, I3, pu, q3⟩ => ?_)
  rw [evalPart_none]
  refine wpAny_pure ?_
  have I4 : Inv X pins σ H3 { s3 with heap := s3.heap.push { cls := .type "slice", data := .fields #[vl, vu, .none] } } := I3.kept (t' := s3.toks) fun b ob q => Heap.get?_push_of_some _ q
  obtain ⟨T, id, hT, ht, hg⟩ := hr pins { s3 with heap := s3.heap.push { cls := .type "slice", data := .fields #[vl, vu, .none] } } σ H3 x v vl vu l u s3.heap.objs.size Q I4 r1 (Heap.IsSliceOf.new ..) pl pu q3
  show wpAny (model X.prog X.w) X.A (subscriptTail e (.Slice lo hi none p2) v (.ref s3.heap.objs.size)) (EP X pins σ Q) X.xe { s3 with heap := s3.heap.push { cls := .type "slice", data := .fields #[vl, vu, .none] } }
  exact tail_any (ops := [.ref s3.heap.objs.size, v]) ht hT hg (by with_unfolding_all rfl)

/-- the items of xs[lo:hi] -/
def cutV (xs : List V) (lo hi : Option Int) : List V := (xs.drop (HT.sIx xs.length 0 lo)).take (HT.sIx xs.length xs.length hi - HT.sIx xs.length 0 lo)
theorem cutV_length (xs : List V) (lo hi : Option Int) : (cutV xs lo hi).length ≤ xs.length := by
  unfold cutV
  rw [List.length_take, List.length_drop]
  omega
/-! ### t < u, t + u -/
end
end L2

namespace L2
open PySem PySem.Spec PyProof.Rows

/-! ### places -/
/-- the place that an index of any sign means -/
def ixN (n : Nat) (i : Int) : Option Nat := if 0 ≤ i then (if i < n then some i.toNat else none) else if -(n : Int) ≤ i then some (i + n).toNat else none
def atI {α : Type} (xs : List α) (i : Int) : Option α := (ixN xs.length i).bind fun j => xs[j]?
theorem ixN_seq {n : Nat} {i : Int} {j : Nat} (h : ixN n i = some j) : seqIndex? i n = some j ∧ j < n ∧ -(n : Int) ≤ i ∧ i < n := by
  unfold ixN at h
  by_cases h0 : 0 ≤ i
  · rw [if_pos h0] at h
    by_cases h1 : i < n
    · rw [if_pos h1] at h
      have e : i.toNat = j := Option.some.inj h
      exact ⟨by rw [seqIndex_of h0 h1, e], by omega, by omega, h1⟩
    · rw [if_neg h1] at h; cases h
  · rw [if_neg h0] at h
    by_cases h1 : -(n : Int) ≤ i
    · rw [if_pos h1] at h
      have e : (i + n).toNat = j := Option.some.inj h
      exact ⟨by rw [seqIndex_neg (by omega) h1, e], by omega, h1, by omega⟩
    · rw [if_neg h1] at h; cases h
theorem atI_get {α : Type} {xs : List α} {i : Int} {v : α} (h : atI xs i = some v) : ∃ j, seqIndex? i xs.length = some j ∧ xs[j]? = some v ∧ j < xs.length ∧ -(xs.length : Int) ≤ i ∧ i < xs.length := by
  unfold atI at h
  cases e : ixN xs.length i with
  | none => rw [e] at h; cases h
  | some j =>
    rw [e] at h
    obtain ⟨h1, h2, h3, h4⟩ := ixN_seq e
    exact ⟨j, h1, h, h2, h3, h4⟩
theorem atI_nat {α : Type} {xs : List α} {j : Nat} {v : α} (h : xs[j]? = some v) : atI xs (j : Int) = some v := by
  have hj : j < xs.length := (List.getElem?_eq_some_iff.mp h).1
  have e : ixN xs.length (j : Int) = some j := by
    unfold ixN
    rw [if_pos (by omega), if_pos (by omega)]; simp
  unfold atI; rw [e]; exact h
theorem atI_last {α : Type} (xs : List α) (v : α) : atI (xs ++ [v]) (-1) = some v := by
  have hl : (xs ++ [v]).length = xs.length + 1 := by simp
  have e : ixN (xs ++ [v]).length (-1) = some xs.length := by
    unfold ixN
    rw [hl, if_neg (by decide), if_pos (by omega)]
    congr 1
    omega
  unfold atI
  rw [e]
  show (xs ++ [v])[xs.length]? = some v
  simp

/-! ### what may be subscripted -/
/-- what stands as an index of a plain subscript -/
def PlainIx (b : Expr) : Prop := ∀ o i, subscripted b false o i = operate [o, i] (getItem o i)
/-- a subscript by values -/
def IxR (X : Cx) (r : R2) : Prop :=
  ∀ (value slice : Expr) (pins : List (Addr × Obj)) (s : Shared) (σ : St) (H : Hp) (x y : V) (v u : Value) (Q : VK), Inv X pins σ H s → RelV x v → RelV y u → r x y H Q →
    subscripted slice false v u = operate [v, u] (getItem v u) → wpAny (model X.prog X.w) X.A (subscriptTail value slice v u) (EP X pins σ Q) X.xe s
/-- a call of a builtin's method by values: the receiver, the arguments -/
def MtR (X : Cx) (id : String) (r : V → List V → Hp → VK → Prop) : Prop :=
  ∀ (pins : List (Addr × Obj)) (s : Shared) (σ : St) (H : Hp) (x : V) (xs : List V) (v : Value) (us : List Value) (Q : VK), Inv X pins σ H s → RelV x v → Vals xs us → r x xs H Q →
    wpAny (model X.prog X.w) X.A (call (.builtin id) (v :: us)) (EP X pins σ Q) X.xe s
section
variable {X : Cx} {a b : Expr} {ta tb : TE} {pos : Pos}
/-- a[b] -/
theorem pe_ix {r : R2} (hr : IxR X r) (ha : PE X a ta) (hb : PE X b tb) (hs : PlainIx b) : PE X (.Subscript a b pos) (tOp r ta tb) := by
  intro pins s σ H Q I h
  exact Subscript_ (binT ha hb I h fun v u s2 x y H2 I2 rx ry q => hr a b pins s2 σ H2 x y v u Q I2 rx ry q (hs _ _))

def rIxL (K : PySem.W.Frag) : R2 := fun x y H Q => ∃ p xs i v, x = .ref p ∧ y = .int i ∧ SqL K H p xs ∧ atI xs i = some v ∧ Q v H
def rIxT (K : PySem.W.Frag) : R2 := fun x y H Q => ∃ p xs i v, x = .ref p ∧ y = .int i ∧ SqT K H p xs ∧ atI xs i = some v ∧ Q v H
theorem ix_list : IxR X (rIxL X.K) := by
  intro value slice pins s σ H x y v u Q I rx ry h hs
  obtain ⟨p, xs, i, z, rfl, rfl, hq, he, q⟩ := h
  cases rx
  obtain ⟨t, rfl⟩ := ry
  obtain ⟨its, r, pl, hz⟩ := I.list hq
  obtain ⟨j, h1, h2, h3, h4, h5⟩ := atI_get he
  obtain ⟨w, ew, rw'⟩ := r.get h2
  have hl := r.length
  have hn := line63
  have fin : EP X pins σ Q w s := ⟨z, H, I, rw', q⟩
  by_cases h0 : 0 ≤ i
  · have hj : i.toNat = j := by
      rw [seqIndex_of h0 h5] at h1
      exact Option.some.inj h1
    exact item_listR pl.isList h0 (by omega) (by rw [hj]; simpa using ew) fin hs
  · have hj : (i + (its.toArray.size : Int)).toNat = j := by
      rw [seqIndex_neg (by omega) h4] at h1
      rw [List.size_toArray, ← hl]
      exact Option.some.inj h1
    exact subscriptTail_builtinR (x := w) pl.isList.typeIs slot_list_getitem.lookup
      (wpAny_getItem_list_neg (Q := fun r s' => r = w ∧ EP X pins σ Q r s') pl.isList (by omega) (by rw [List.size_toArray] <;> omega) (by omega) (by rw [hj]; simpa using ew) ⟨rfl, fin⟩) hs
theorem ix_tup : IxR X (rIxT X.K) := by
  intro value slice pins s σ H x y v u Q I rx ry h hs
  obtain ⟨p, xs, i, z, rfl, rfl, hq, he, q⟩ := h
  cases rx
  obtain ⟨t, rfl⟩ := ry
  obtain ⟨its, r, pl, hz⟩ := I.tuple hq
  obtain ⟨j, h1, h2, h3, h4, h5⟩ := atI_get he
  obtain ⟨w, ew, rw'⟩ := r.get h2
  have hl := r.length
  have hn := line63
  have fin : EP X pins σ Q w s := ⟨z, H, I, rw', q⟩
  exact subscriptTail_builtinR (x := w) pl.typeIs slot_tuple_getitem.lookup
    (getItem_tuple (j := j) (Q := fun r s' => r = w ∧ EP X pins σ Q r s') pl (by omega) (by omega) (by rw [List.size_toArray, ← hl]; exact h1) (by simpa using ew) ⟨rfl, fin⟩) hs
/-! ### xs[i] = v, any sign -/
/-- the list's object behind a store -/
theorem mapSeq_set (its : List Value) (n j : Nat) (u : Value) : Obj.mapSeq (·.setIfInBounds j u) { cls := .type "list", data := .seq its.toArray n } = { cls := .type "list", data := .seq (its.set j u).toArray n } := by
  simp [Obj.mapSeq]
theorem Inv.lst {pins : List (Addr × Obj)} {σ : St} {H : Hp} {s : Shared} {p : Addr} {xs : List V} (I : Inv X pins σ H s) (h : H p = some (.lst xs)) :
    ∃ (its : List Value) (n : Nat), Vals xs its ∧ s.heap.get? p = some { cls := .type "list", data := .seq its.toArray n } ∧ xs.length ≤ sizeLine := by
  obtain ⟨z, its, n, r, e⟩ := I.hok p _ h
  exact ⟨its, n, r, e, z⟩
/-- the list at p is written by an update of its object -/
theorem Inv.lstUpd {pins : List (Addr × Obj)} {σ : St} {H : Hp} {s : Shared} {p : Addr} {xs ys : List V} {its its' : List Value} {n n' : Nat} {f : Obj → Obj} (I : Inv X pins σ H s) (h : H p = some (.lst xs))
    (ho : s.heap.get? p = some { cls := .type "list", data := .seq its.toArray n }) (hf : f { cls := .type "list", data := .seq its.toArray n } = { cls := .type "list", data := .seq its'.toArray n' }) (r : Vals ys its') (hz : ys.length ≤ sizeLine) (t : Nat) :
    Inv X pins σ (upd H p (.lst ys)) { s with heap := s.heap.update p f, toks := t } := by
  have e : (s.heap.update p f).get? p = some { cls := .type "list", data := .seq its'.toArray n' } := by
    rw [Heap.get?_update_self f ho (by rw [hf] <;> rfl), hf]
  refine I.write (x := p) (e := p) (by rw [h]; trivial) (.inl rfl) (fun b u hb q => (Heap.get?_update_other _ _ (Ne.symm hb)).trans q) ⟨_, e⟩ ?_
  exact ⟨hz, its', n', r, e⟩
def rSetL : V → V → V → Hp → (Hp → Prop) → Prop := fun o i v H Q => ∃ p xs k j, o = .ref p ∧ i = .int k ∧ H p = some (.lst xs) ∧ ixN xs.length k = some j ∧ Q (upd H p (.lst (xs.set j v)))
theorem set_list : PSet X rSetL := by
  intro pins s σ H o i v ov iv u Q I ro ri rv h
  obtain ⟨p, xs, k, j, rfl, rfl, hp, hj, q⟩ := h
  cases ro
  obtain ⟨t, rfl⟩ := ri
  obtain ⟨its, n, r, ho, hz⟩ := I.lst hp
  obtain ⟨h1, h2, h3, h4⟩ := ixN_seq hj
  have hl := r.length
  have hn := line63
  have I' : Inv X pins σ (upd H p (.lst (xs.set j v))) { s with heap := s.heap.update p (Obj.mapSeq (·.setIfInBounds j u)) } :=
    I.lstUpd hp ho (mapSeq_set its n j u) (r.set rv j) (by rw [List.length_set]; exact hz) s.toks
  by_cases h0 : 0 ≤ k
  · have hk : k.toNat = j := by
      rw [seqIndex_of h0 h4] at h1
      exact Option.some.inj h1
    exact PySem.W.ki_setAt ho h0 (by omega) (by rw [List.size_toArray, ← hl]; exact h4) (by rw [hk]; exact ⟨_, I', q⟩)
  · have hk : (k + (its.toArray.size : Int)).toNat = j := by
      rw [seqIndex_neg (by omega) h3] at h1
      rw [List.size_toArray, ← hl]
      exact Option.some.inj h1
    exact PySem.W.ki_setBack ho (by omega) (by rw [List.size_toArray, ← hl]; exact h3) (by omega) (by rw [hk]; exact ⟨_, I', q⟩)

/-! ### slices -/
theorem slice_bounds (lo hi : Option Int) (n : Nat) : (sliceBounds lo hi none n).1 = ((HT.sIx n 0 lo : Nat) : Int) ∧ (sliceBounds lo hi none n).2.1 = ((HT.sIx n n hi : Nat) : Int) ∧ (sliceBounds lo hi none n).2.2 = 1 := by
  refine ⟨?_, ?_, rfl⟩
  · cases lo with
    | none => simp [sliceBounds, HT.sIx]
    | some i =>
      simp only [sliceBounds, HT.sIx, Option.getD_none, show (1 : Int) > 0 by decide, if_true]
      by_cases h : i < 0
      · simp only [h, if_true] <;> omega
      · simp only [h, if_false] <;> omega
  · cases hi with
    | none => simp [sliceBounds, HT.sIx]
    | some i =>
      simp only [sliceBounds, HT.sIx, Option.getD_none, show (1 : Int) > 0 by decide, if_true]
      by_cases h : i < 0
      · simp only [h, if_true] <;> omega
      · simp only [h, if_false] <;> omega
theorem slicePick_cut (its : List Value) (lo hi : Option Int) : slicePick its.toArray lo hi none = ((its.drop (HT.sIx its.length 0 lo)).take (HT.sIx its.length its.length hi - HT.sIx its.length 0 lo)).toArray := by
  obtain ⟨h1, h2, h3⟩ := slice_bounds lo hi its.toArray.size
  unfold slicePick
  rw [h1, h2, h3]
  simp only [sliceRange_one, pick_run, List.size_toArray] <;> rfl
/-- xs[lo:hi] of a list: a new list -/
def rSlL (K : PySem.W.Frag) : V → Option Int → Option Int → Hp → VK → Prop := fun x lo hi H Q => ∃ a xs, x = .ref a ∧ SqL K H a xs ∧ ∀ p, H p = none → Q (.ref p) (upd H p (.lst (cutV xs lo hi)))
theorem sl_list : SlR X (rSlL X.K) := by
  intro pins s σ H x v vl vu lo hi sl Q I rx hs pl pu h
  obtain ⟨a, xs, rfl, hx, q⟩ := h
  cases rx
  obtain ⟨its, r, ht, hz⟩ := I.list hx
  have hlen := r.length
  refine ⟨"list", _, slot_list_getitem.lookup, ht.isList.typeIs, ?_⟩
  refine wpAny_getItem_list_slice ht.isList hs pl pu .none (by simp) ?_ (by rw [List.size_toArray] <;> omega)
  rw [slicePick_cut, ← hlen]
  refine ⟨.ref s.heap.objs.size, _, I.laid (t' := s.toks) (o := .lst (cutV xs lo hi)) (fun b ob q => Heap.get?_push_of_some _ q) (Nat.le_refl _) ?_, rfl, q _ (I.hok.fresh (Nat.le_refl _))⟩
  exact ⟨Nat.le_trans (cutV_length xs lo hi) hz, _, 0, (r.drop (HT.sIx xs.length 0 lo)).take (HT.sIx xs.length xs.length hi - HT.sIx xs.length 0 lo), Heap.get?_push_size _ rfl⟩

/-! ### in, not in: flat items -/
def flatV : V → Bool
  | .non => true
  | .bl _ => true
  | .int _ => true
  | .str _ => true
  | _ => false
/-- == of flat values -/
def eqV : V → V → Bool
  | .non, .non => true
  | .bl a, .bl b => a == b
  | .bl a, .int b => (if a then 1 else 0) == b
  | .int a, .bl b => a == (if b then 1 else 0)
  | .int a, .int b => a == b
  | .str a, .str b => a == b
  | _, _ => false
def inV (x : V) (xs : List V) : Bool := xs.any fun y => eqV y x
/-! ### len, list(x), tuple(x) of any list or tuple that is read -/
theorem call_len_seq : CallR X (.builtin "len") (fun xs H Q => ∃ p ys, xs = [.ref p] ∧ (SqL X.K H p ys ∨ SqT X.K H p ys) ∧ Q (.int ys.length) H) := by
  intro pins s σ H xs us Q I r h
  obtain ⟨p, ys, rfl, hq, q⟩ := h
  obtain ⟨u, rfl, rx⟩ := vals1 r
  cases rx
  have hn := line63
  rcases hq with hq | hq
  · obtain ⟨its, r', pl, hz⟩ := I.list hq
    have hlen := r'.length
    exact Calls.call_len_list pl.isList (by simp only [List.size_toArray] <;> omega) ⟨.int ys.length, H, I.tok _, ⟨s.toks + 1, by rw [List.size_toArray, hlen]⟩, q⟩
  · obtain ⟨its, r', pl, hz⟩ := I.tuple hq
    have hlen := r'.length
    exact len_tuple pl (by simp only [List.size_toArray] <;> omega) ⟨.int ys.length, H, I.tok _, ⟨s.toks + 1, by rw [List.size_toArray, hlen]⟩, q⟩
theorem call_list_of : CallR X (.type "list") (fun xs H Q => ∃ p ys, xs = [.ref p] ∧ (SqL X.K H p ys ∨ SqT X.K H p ys) ∧ ∀ l, H l = none → Q (.ref l) (upd H l (.lst ys))) := by
  intro pins s σ H xs us Q I r h
  obtain ⟨p, ys, rfl, hq, q⟩ := h
  obtain ⟨u, rfl, rx⟩ := vals1 r
  cases rx
  have fin : ∀ (its : List Value), Vals ys its → ys.length ≤ sizeLine → ∀ (h' : Heap) (c' : Nat), (∀ b o', s.heap.get? b = some o' → h'.get? b = some o') →
      h'.get? s.heap.objs.size = some { cls := .type "list", dict := none, data := .seq its.toArray c', slots := #[] } → EP X pins σ Q (.ref s.heap.objs.size) { s with heap := h' } := fun its r' hz h' c' kp e =>
    ⟨.ref s.heap.objs.size, _, I.laid (t' := s.toks) kp (Nat.le_refl _) (show ObjOk X.prog X.w _ h' _ (.lst ys) from ⟨hz, its, c', r', e⟩), rfl, q _ (I.hok.fresh (Nat.le_refl _))⟩
  rcases hq with hq | hq
  · obtain ⟨its, r', pl, hz⟩ := I.list hq
    have hlen := r'.length
    obtain ⟨o, ho, hc, n, hd⟩ := pl.isList
    exact call_list_seq p (.inl rfl) ho hc hd (fun h' c' kp e => fin its r' hz h' c' kp e) (by simp only [List.size_toArray] <;> omega)
  · obtain ⟨its, r', pl, hz⟩ := I.tuple hq
    have hlen := r'.length
    obtain ⟨o, ho, hc, n, hd⟩ := pl
    exact call_list_seq p (.inr rfl) ho hc hd (fun h' c' kp e => fin its r' hz h' c' kp e) (by simp only [List.size_toArray] <;> omega)
/-! ### the call of a builtin's method: o.m(..) -/
/-- the value is of that builtin type -/
def tyV (K : PySem.W.Frag) (T : String) (x : V) (H : Hp) : Prop := match x with
  | .str _ => T = "str"
  | .int _ => T = "int"
  | .ref p => (T = "list" ∧ ∃ xs, SqL K H p xs) ∨ (T = "tuple" ∧ ∃ o, K.lookup p = some o ∧ o.cls = .type "tuple" ∧ o.dict = none) ∨
      (T = "dict" ∧ ((∃ kvs, H p = some (.dK kvs)) ∨ ∃ kvs, H p = some (.dT kvs))) ∨ (T = "set" ∧ ∃ S n, H p = some (.set S n))
  | _ => False
theorem tyV_is {pins : List (Addr × Obj)} {σ : St} {H : Hp} {s : Shared} {T : String} {x : V} {v : Value} (I : Inv X pins σ H s) (r : RelV x v) (ty : tyV X.K T x H) :
    s.TypeIs v T ∧ ∀ a, v = .ref a → ∃ ob, s.heap.get? a = some ob ∧ ob.dict = none := by
  cases x with
  | str z =>
    obtain ⟨t, rfl⟩ := r
    cases (show T = "str" from ty)
    exact ⟨typeIs_str s z t, fun _ e => nomatch e⟩
  | int i =>
    obtain ⟨t, rfl⟩ := r
    cases (show T = "int" from ty)
    exact ⟨typeIs_int s i t, fun _ e => nomatch e⟩
  | ref p =>
    cases r
    rcases ty with ⟨rfl, xs, hq⟩ | ⟨rfl, o, hk, hc, hd⟩ | ⟨rfl, hk⟩ | ⟨rfl, S, n, hk⟩
    · obtain ⟨its, _, pl, _⟩ := I.list hq
      refine ⟨pl.isList.typeIs, fun a e => ?_⟩
      cases e
      obtain ⟨o, n, e, c, hd, _⟩ := pl
      exact ⟨o, e, hd⟩
    · refine ⟨⟨o, I.kIn p o hk, hc⟩, fun a e => ?_⟩
      cases e
      exact ⟨o, I.kIn _ o hk, hd⟩
    · have z : ∃ o, s.heap.get? p = some o ∧ o.ExactDict := by
        rcases hk with ⟨kvs, hk⟩ | ⟨kvs, hk⟩
        · obtain ⟨_, _, _, _, o, _, _, e, ex, _⟩ := I.hok p _ hk
          exact ⟨o, e, ex⟩
        · obtain ⟨_, _, _, _, o, _, _, e, ex, _⟩ := I.hok p _ hk
          exact ⟨o, e, ex⟩
      obtain ⟨o, e, ex⟩ := z
      refine ⟨⟨o, e, ex.1⟩, fun a e2 => ?_⟩
      cases e2
      exact ⟨o, e, ex.2.1⟩
    · obtain ⟨o, _, _, _, e, ex, _⟩ := I.hok p _ hk
      refine ⟨⟨o, e, ex.1⟩, fun a e2 => ?_⟩
      cases e2
      exact ⟨o, e, ex.2.1⟩
  | _ => exact False.elim ty
def tBM0 (K : PySem.W.Frag) (T : String) (r : V → List V → Hp → VK → Prop) (to : TE) : TE := fun σ H Q => to σ H fun x H1 => tyV K T x H1 ∧ r x [] H1 Q
def tBM (K : PySem.W.Frag) (T : String) (r : V → List V → Hp → VK → Prop) (to : TE) (t : TA) : TE := fun σ H Q => to σ H fun x H1 => tyV K T x H1 ∧ t σ H1 fun xs H2 => r x xs H2 Q
variable {o e : Expr} {es : List Expr} {to : TE} {t : TA} {name : Str} {apos cpos : Pos} {T id : String} {r : V → List V → Hp → VK → Prop}
theorem pe_bm (pa : PlainAttrs T) (slot : Slot T name id) (hty : typeOf (.builtin id) = pure (.type "method_descriptor")) (hm : MtR X id r) (ho : PE X o to) (ha : PA X (e :: es) t)
    (hbase : attributeBase o name X.env (eval o X.env) = eval o X.env := by rfl)
    (hfew : ((backTo cpos (starEach (e :: es) X.env)).all (fun x => !x.1) && (backToKw cpos (keywordEach [] X.env)).all (fun x => x.1.isSome)
      && decide ((e :: es).length + ([] : List Keyword).length + (if ([] : List Keyword).isEmpty then 0 else 1) < 30)) = true := by rfl)
    (hline : (apos.endLine == cpos.line) = true := by rfl) (hs : starEach (e :: es) X.env = (false, eval e X.env) :: starEach es X.env := by rfl) (hplain : (backTo cpos (starEach es X.env)).any (·.1) = false := by rfl) :
    PE X (.Call (.Attribute o name apos) (e :: es) [] cpos) (tBM X.K T r to t) := by
  intro pins s σ H Q I h
  refine wpAny_Call_method_late hbase hfew hline rfl (thn (ho pins s σ H _ I h) fun v s1 ⟨x, H1, I1, r1, ty, q1⟩ => ?_)
  obtain ⟨h1, h2⟩ := tyV_is I1 r1 ty
  refine ⟨T, id, pa, slot, hty, h1, h2, ?_⟩
  have hA := ha cpos pins s1 σ H1 _ I1 q1
  rw [hs] at hA ⊢
  refine Calls.callWith_builtin (by show (false || (backTo cpos (starEach es X.env)).any (·.1)) = false; rw [hplain] <;> rfl) (Calls.evalArgs_plain ?_)
  exact thn hA fun us s2 ⟨vs, H2, I2, r2, q2⟩ => hm pins s2 σ H2 x vs v us Q I2 r1 r2 q2
/- xs.append(e), list.index on a module's tuple .. are MtR facts of 06m -/
end
end L2

namespace L2
open PySem PySem.Spec PyProof.Rows

def MtM (X : Cx) (id : String) (r : V → List V → Hp → VK → Prop) : Prop :=
  ∀ (pins : List (Addr × Obj)) (s : Shared) (σ : St) (H : Hp) (x : V) (xs : List V) (v : Value) (us : List Value) (Q : VK), Inv X pins σ H s → RelV x v → Vals xs us → r x xs H Q →
    wpAny (model X.prog X.w) X.A (call (.builtin id) (v :: us)) (EP X pins σ Q) X.xe s

/-! ### lists of values -/
theorem Vals.one : ∀ {x : V} {us : List Value}, Vals [x] us → ∃ u, us = [u] ∧ RelV x u
  | _, _, .cons r .nil => ⟨_, rfl, r⟩
theorem Vals.zero : ∀ {us : List Value}, Vals [] us → us = []
  | _, .nil => rfl
theorem Vals.dropLast {xs : List V} {us : List Value} (h : Vals xs us) : Vals xs.dropLast us.dropLast := by
  induction h with
  | nil => exact .nil
  | cons r t ih =>
    cases t with
    | nil => exact .nil
    | cons q t' => exact .cons r ih
section
variable {X : Cx} {pins : List (Addr × Obj)} {σ : St} {H : Hp} {s : Shared} {l b : Addr} {xs ys zs : List V}

/-! ### the two steps: a tracked list is rewritten, a new list is laid -/
theorem Inv.lset {its its' : List Value} {n : Nat} {f : Array Value → Array Value} {t' : Nat} (I : Inv X pins σ H s) (hH : H l = some (.lst xs))
    (e : s.heap.get? l = some { cls := .type "list", data := .seq its.toArray n }) (hf : f its.toArray = its'.toArray) (hv : Vals ys its') (hz : ys.length ≤ sizeLine) :
    Inv X pins σ (upd H l (.lst ys)) { s with heap := s.heap.update l (Obj.mapSeq f), toks := t' } := by
  have q := PySem.IsL.update e f
  rw [hf] at q
  refine I.write (x := l) (e := l) (by rw [hH]; exact trivial) (.inl rfl) (fun b' u hb hu => (Heap.get?_update_other s.heap (Obj.mapSeq f) (Ne.symm hb)).trans hu) ⟨_, q⟩ ?_
  exact ⟨hz, its', _, hv, q⟩
theorem Inv.lnew {its : List Value} {t' : Nat} (I : Inv X pins σ H s) (hv : Vals ys its) (hz : ys.length ≤ sizeLine) :
    Inv X pins σ (upd H s.heap.objs.size (.lst ys)) { s with heap := s.heap.push { cls := .type "list", data := .seq its.toArray }, toks := t' } :=
  I.laid (fun _ _ q => Heap.get?_push_of_some _ q) (Nat.le_refl _) ⟨hz, its, 0, hv, Heap.get?_push_size _ rfl⟩
theorem Inv.fresh (I : Inv X pins σ H s) : H s.heap.objs.size = none := I.hok.fresh (Nat.le_refl _)
theorem Inv.lstM (I : Inv X pins σ H s) (hH : H l = some (.lst xs)) : xs.length ≤ sizeLine ∧ ∃ (its : List Value) (n : Nat), Vals xs its ∧ xs.length = its.length ∧ s.heap.get? l = some { cls := .type "list", data := .seq its.toArray n } := by
  obtain ⟨z, its, n, r, e⟩ := I.hok l _ hH
  exact ⟨z, its, n, r, r.length, e⟩

end

section
variable {X : Cx}

/-! ### methods -/
def rAppend : V → List V → Hp → VK → Prop := fun x vs H Q => ∃ l xs y, x = .ref l ∧ vs = [y] ∧ H l = some (.lst xs) ∧ xs.length < sizeLine ∧ Q .non (upd H l (.lst (xs ++ [y])))
theorem mt_append : MtM X "list.append" rAppend := by
  intro pins s σ H x vs v us Q I rx rv h
  obtain ⟨l, xs, y, rfl, rfl, hH, hz, q⟩ := h
  cases rx
  obtain ⟨u, rfl, ru⟩ := rv.one
  obtain ⟨z, its, n, r, hl, e⟩ := I.lstM hH
  refine call_meets F.slot_list_append ⟨_, e, rfl⟩ F.entry_list_append (F.args_list_append_2 _ _) (PySem.list_append l its.toArray n u (by rw [List.size_toArray]; omega)) ⟨e, ?_⟩
  refine ⟨.non, _, I.lset (its' := its ++ [u]) hH e (by simp) (r.append (.cons ru .nil)) ?_, rfl, q⟩
  rw [List.length_append, List.length_singleton]
  omega

/-! ### list + list, list += list, list * int -/
def rCat : R2 := fun x y H Q => ∃ l b xs zs, x = .ref l ∧ y = .ref b ∧ H l = some (.lst xs) ∧ H b = some (.lst zs) ∧ xs.length + zs.length ≤ sizeLine ∧ ∀ p, H p = none → Q (.ref p) (upd H p (.lst (xs ++ zs)))
theorem op_cat : OpR X (binaryOp .Add) rCat := by
  intro pins s σ H x y v u Q I rx ry h
  obtain ⟨l, b, xs, zs, rfl, rfl, hH, hB, hz, q⟩ := h
  cases rx
  cases ry
  obtain ⟨z, its, n, r, hl, e⟩ := I.lstM hH
  obtain ⟨z2, its2, n2, r2, hl2, e2⟩ := I.lstM hB
  refine PySem.P.add_list e e2 ?_ (by rw [List.size_toArray, List.size_toArray]; omega)
  have ea : its.toArray ++ its2.toArray = (its ++ its2).toArray := by simp
  rw [ea]
  exact ⟨.ref _, _, I.lnew (t' := s.toks) (r.append r2) (by rw [List.length_append]; omega), rfl, q _ I.fresh⟩
/-! ### del xs[i] -/
end

/-! ### xs[a:b] = ys -/
section
variable {prog : Program} {w : World} {A : Around} {E : Value → Shared → Prop} {s : Shared}
end

section
variable {X : Cx}
end
end L2

namespace Att
open PySem PySem.W PySem.Calls PyProof.Rows

/-! ### the script -/
theorem ints_of_wellAll {P : Params} {h : Heap} : ∀ (ns : List Int) (vs : List Value), WellAll P h vs (ns.map WData.int) → IntsAre vs ns := by
  intro ns
  induction ns with
  | nil =>
    intro vs w
    rw [List.map_nil] at w
    cases w
    exact .nil
  | cons n ns ih =>
    intro vs w
    rw [List.map_cons] at w
    cases w with
    | cons a b =>
      cases a
      exact .cons _ _ (ih _ b)

theorem script_of {l : OpenLaw} {n : Nat} (hn : l.most = some n) {P : Params} {h : Heap} {args : List WData} {vals : List Value}
    (hpre : l.row.toRowW.claim.pre args = true) (hwl : WellAll P h vals args) :
    ∃ a vs ns, vals = [Value.ref a] ∧ args = [WData.list (ns.map WData.int)] ∧ h.get? a = some { cls := .type "list", data := .seq vs.toArray } ∧ IntsAre vs ns ∧ ns.length ≤ n := by
  have hsh : WShape.hasAll [] args [.list .int] = true := (pre_splitW hpre).1
  have hc : l.pre.holds [] { args := args } = true := (pre_splitW hpre).2
  obtain ⟨d, r, rfl, h1, h2⟩ := hasAllW_cons hsh
  obtain rfl := hasAllW_nil h2
  obtain ⟨xs, rfl, h3⟩ := hasW_list h1
  obtain ⟨ns, rfl⟩ := items_int h3
  have hlen : ns.length ≤ n := by
    unfold OpenLaw.pre at hc
    have h4 : (WTm.not (.lt (.lit (.int (n : Int))) (.len (.arg 0)))).holds [] { args := [.list (ns.map .int)] } = true := by
      have h4 := (holds_andW hc).1
      rw [hn] at h4
      exact h4
    have h5 := condW_of h4 (w_not (w_lt w_lit (w_len_list (w_arg rfl))))
    rw [List.length_map] at h5
    refine Nat.le_of_not_lt fun q => ?_
    have q' : (n : Int) < ((ns.length : Nat) : Int) := by omega
    first
      | (rw [decide_eq_true q'] at h5; exact absurd h5 (by decide))
      | (simp at h5; omega)
  cases hwl with
  | cons w1 w2 =>
    cases w2
    cases w1 with
    | list ho hall => exact ⟨_, _, ns, rfl, rfl, ho, ints_of_wellAll ns _ hall, hlen⟩

theorem post_true (l : OpenLaw) (args : List WData) : l.row.toRowW.claim.post args (.bool true) args = true :=
  postW_of (r := l.row.toRowW) (X := (true == true))
    (show WShape.has [] (.bool true) .bool = true by first | rfl | decide | simp [WShape.has, WShape.arms, WShape.armsAll])
    (show (WTm.eq .res (.lit (.bool true))).value [] { args := args, res := some (.bool true), after := args } = some (.bool (true == true)) from w_eq_bool (w_res rfl) w_lit) rfl

/-! ### the attachment: holds_open's last premise (the goal 'hc' behind k_head) from a wpAny of the law's body -/
/-- the same from a codeAny of the CALL (for a layer whose function contracts speak of calls) -/
theorem attach_call {l : OpenLaw} {n : Nat} {q : Program} {loose : List Str} {XP : (Str → Option Value) → Heap → Prop} {YP : World → Heap → Prop} {d : DefRec}
    (hn : l.most = some n) (hdf : d.params.defaults = [])
    (call : ∀ (w : World) (s₀ s₁ : Shared) (mg mb : Str → Option Value) (fa : Addr) (o : Obj) (pm cd doc : Value) (a : Addr) (vs : List Value) (ns : List Int),
      Ground q loose [] XP w s₀ mg mb s₁.heap → YP w s₁.heap →
      s₁.heap.get? fa = some o → o.data = .func (docDef d.name d.params d.body d.scope pm cd doc) → s₁.heap.CodeRec cd d.name → mg d.name = some (.ref fa) →
      s₁.heap.get? a = some { cls := .type "list", data := .seq vs.toArray } → IntsAre vs ns → ns.length ≤ n → s₁.gens = #[] →
      codeAny (model l.prog w) callerA (.call (.ref fa) ⟨[.ref a], []⟩) (fun r s' => r = .ok (.ret (.bool true)) ∧ OldK s₁.heap s'.heap ∧ s'.os = s₁.os ∧ AllBare s'.gens) s₁) :
    WalkO q loose XP YP l.row.toRowW d [] (fun f vs => PySem.call f vs) := by
  intro w s₀ s₁ mg mb G Y fa o pm cd doc dV kV ho hd hcd hD hmg hg args vals as hpre hlay hrd hwl hlo
  obtain rfl : dV = .none := Dflts.none hD hdf
  obtain rfl : kV = .none := Dflts.noKw hD
  obtain ⟨a, vs, ns, rfl, rfl, hobj, hints, hlen⟩ := script_of hn hpre hwl
  refine enter_call (codeAny_mono (call w s₀ s₁ mg mb fa o pm cd doc a vs ns G Y ho (fd_plain hd) hcd hmg hobj hints hlen hg) fun r s' hq => ?_)
  obtain ⟨rfl, h2, h3, h4⟩ := hq
  exact ⟨.inl ⟨.bool true, .bool true, [], rfl, fun _ => rfl, .bool true, post_true l _, fun _ => ⟨List.Pairwise.nil, fun _ hm => (nomatch hm)⟩⟩, h2, h3, h4⟩

/-! ### rules over ANY heap (no ledger) from facts about the written part K: the library's own take a ledger (News) for what they write -/
section
variable {prog : Program} {w : World} {A : Around} {E : Value → Shared → Prop} {s : Shared} {K : Frag}

/-! the whole heap as the ledger: makes every rule that writes through a ledger a rule over any heap -/
end
end Att

namespace L2
open PySem PySem.Spec PyProof.Rows

theorem vals_ints : ∀ {vs : List Value} {ns : List Int}, IntsAre vs ns → Vals (ns.map V.int) vs
  | _, _, .nil => .nil
  | _, _, .cons n t h => .cons ⟨t, rfl⟩ (vals_ints h)

/-- nothing is tracked but the script, known to the object (or it is an object of the module) -/
def Only (H : Hp) : Prop := ∀ b, H b = none ∨ ∃ o xs, H b = some (.frz o (.lst xs))

/-- THE HEAD: the law's promise, at the heap behind the top. F, the promise of the law's def, may use that base is part of the heap (so K.In base, base.Ns mainGlobals mg stand in Mod) -/
theorem law_call {P : Program} {w : World} {K : PySem.W.Frag} {mg mb : Str → Option Value} {CX : CXT} {k : Nat} {fa a : Addr} {fd : FuncData} {x : Str} {sp : Sp} {s₁ : Shared} {vs : List Value} {ns : List Int}
    (KX : K.In s₁.heap) (hns : s₁.heap.Ns mainGlobals mg) (hb : s₁.heap.Ns builtinsNs mb) (hbb : ∀ x : Str, x ≠ "__name__" → mb x = bootBuiltins x) (hlim : s₁.heap.NoLimit) (hg : s₁.gens = #[])
    (ha : s₁.heap.get? a = some { cls := .type "list", data := .seq vs.toArray }) (hi : IntsAre vs ns) (hl : ns.length ≤ sizeLine) (hr : Room k callerA)
    (F : ∀ base : Heap, K.In base → base.Ns mainGlobals mg → FnOk P w K mg base CX k fa fd [x] sp) (hbind : ∀ (s : Shared) (u : Value), BindsTo s fd ⟨[u], []⟩ [(x, u)])
    (hsp : ∀ H : Hp, Only H → SqL K H a (ns.map V.int) → sp [.ref a] H (fun v _ => v = .bl true) fun _ _ _ => False)
    (hCX : ∀ H e s', CX [] H s₁ (fun _ _ _ => False) e s' → False) :
    codeAny (model P w) callerA (.call (.ref fa) ⟨[.ref a], []⟩) (fun r s' => r = .ok (.ret (.bool true)) ∧ OldK s₁.heap s'.heap ∧ s'.os = s₁.os ∧ AllBare s'.gens) s₁ := by
  have rv := vals_ints hi
  have lenV := hi.length
  -- from an abstract heap in which nothing but the script may be tracked
  have core : ∀ H : Hp, Only H → SqL K H a (ns.map V.int) → HOk P w H s₁.heap → (∀ b, H b ≠ none → b = a) → (H a ≠ none → K.lookup a = none) →
      codeAny (model P w) callerA (.call (.ref fa) ⟨[.ref a], []⟩) (fun r s' => r = .ok (.ret (.bool true)) ∧ OldK s₁.heap s'.heap ∧ s'.os = s₁.os ∧ AllBare s'.gens) s₁ := by
    intro H hO hS hok hA hK
    have base_of : ∀ {b : Addr} {o : Obj}, s₁.heap.get? b = some o → H b = none → (hidT s₁.heap H).get? b = some o := fun e n => hidT_get e n
    have noA : ∀ {b : Addr} {o : Obj} {es : Array DictEntry} {ep : Nat}, s₁.heap.get? b = some o → o.data = .dict es ep → H b = none := fun {b o es ep} e d => by
      cases q : H b with
      | none => rfl
      | some u =>
        have e' : b = a := hA b (by rw [q]; simp)
        subst e'
        rw [ha] at e; cases e
        have d' : Data.seq vs.toArray _ = Data.dict es ep := d
        cases d'
    have nsK : ∀ {b : Addr} {m : Str → Option Value}, s₁.heap.Ns b m → (hidT s₁.heap H).Ns b m := fun {b m} ⟨o, es, ep, e, d, r⟩ => ⟨o, es, ep, base_of e (noA e d), d, r⟩
    have hKb : K.In (hidT s₁.heap H) := fun b o e => base_of (KX b o e) (by
      cases q : H b with
      | none => rfl
      | some u =>
        have e' : b = a := hA b (by rw [q]; simp)
        subst e'
        rw [hK (by rw [q]; simp)] at e; cases e)
    have hM : Mod K mg (hidT s₁.heap H) := ⟨hKb, nsK hns, ⟨mb, nsK hb, hbb⟩, let ⟨mc, h1, h2⟩ := hlim; ⟨mc, nsK h1, h2⟩⟩
    have e0 : Env0 P w K mg (hidT s₁.heap H) callerA [] s₁ H := ⟨rfl, hM, fun b o e => of_hidT e, Nat.le_of_eq (hidT_size _ _), trivial, fun b hb => absurd (show b ∈ ([] : List Addr) from hb) (by simp), hok, .of_eq hg⟩
    refine codeAny_mono ((F _ hKb (nsK hns)).run callerA [] s₁ H ⟨[.ref a], []⟩ [.ref a] [.ref a] _ _ hr e0 (hbind s₁ (.ref a)) (.cons rfl .nil) (hsp H hO hS)) fun r s' h => ?_
    cases r with
    | error e => exact (hCX H e s' h).elim
    | ok fl =>
      cases fl with
      | next => exact False.elim h
      | brk => exact False.elim h
      | cont => exact False.elim h
      | ret u =>
        obtain ⟨v, H', os, bare, un, hok', r', q⟩ := h
        have q' : v = .bl true := q
        subst q'
        obtain rfl : u = Value.bool true := r'
        refine ⟨rfl, OldK.of_keep fun b o e => ?_, os, bare⟩
        cases q : H b with
        | none => exact un.keep b o e q (by intro z; exact absurd (show b ∈ ([] : List Addr) from z) (by simp)) (by simp)
        | some u =>
          rcases hO b with z | ⟨ob, xs, z⟩
          · rw [q] at z; cases z
          · have z2 := un.frzs b ob _ z
            obtain ⟨e1, _⟩ := hok b _ z
            obtain ⟨e2, _⟩ := hok' b _ z2
            rw [e] at e1; cases e1
            exact e2
  cases hk : K.lookup a with
  | some o =>
    -- the script is one of the module's own objects
    have e := KX a o hk
    rw [ha] at e
    cases e
    refine core (fun _ => none) (fun _ => .inl rfl) (.inr ⟨_, vs.toArray, _, hk, rfl, rfl, rfl, by rw [List.size_toArray, lenV]; exact hl, by simpa using rv⟩) (fun b u z => by have z' : (none : Option HO) = some u := z; cases z') (fun b z => absurd rfl z) fun z => absurd rfl z
  | none =>
    refine core (fun b => if b = a then some (.frz { cls := .type "list", data := .seq vs.toArray } (.lst (ns.map V.int))) else none) (fun b => ?_) (.inl (.inr ⟨{ cls := .type "list", data := .seq vs.toArray }, if_pos rfl⟩)) (fun b u z => ?_) (fun b z => ?_) fun _ => hk
    · by_cases hb : b = a
      · exact .inr ⟨_, _, if_pos hb⟩
      · exact .inl (if_neg hb)
    · by_cases hb : b = a
      · have z' := (if_pos hb).symm.trans z
        cases z'
        subst hb
        exact ⟨ha, by rw [List.length_map]; exact hl, vs, _, rv, ha⟩
      · have z' := (if_neg hb).symm.trans z
        cases z'
    · by_cases hb : b = a
      · exact hb
      · exact absurd (if_neg hb) z
end L2

namespace L2
open PySem PySem.Spec PyProof.Rows

/-- the goal that k_head leaves (case hc), from the law's promise. F gives the function object fd (K's own) once, then the promise over every base -/
theorem walk_of {l : PySem.W.OpenLaw} {n k : Nat} {q : Program} {loose : List Str} {XP : (Str → Option Value) → Heap → Prop} {YP : World → Heap → Prop} {d : DefRec} {K : Params → PySem.W.Frag} {CX : World → CXT} {sp : World → Sp} {x : Str}
    (hn : l.most = some n) (hn2 : n ≤ sizeLine) (hdf : d.params.defaults = []) (hr : Room k callerA)
    (hY : ∀ (w : World) (h : Heap), YP w h → (K w.params).In h)
    (F : ∀ (w : World) (mg : Str → Option Value) (fa : Addr) (h : Heap), (K w.params).In h → h.Ns mainGlobals mg → mg d.name = some (.ref fa) →
      ∃ fd : FuncData, (∀ (s : Shared) (u : Value), BindsTo s fd ⟨[u], []⟩ [(x, u)]) ∧
        ∀ base : Heap, (K w.params).In base → base.Ns mainGlobals mg → FnOk l.prog w (K w.params) mg base (CX w) k fa fd [x] (sp w))
    (hsp : ∀ (w : World) (H : Hp) (a : Addr) (ns : List Int), ns.length ≤ n → Only H → SqL (K w.params) H a (ns.map V.int) → sp w [.ref a] H (fun v _ => v = .bl true) fun _ _ _ => False)
    (hCX : ∀ (w : World) (H : Hp) (s : Shared) (e : Value) (s' : Shared), CX w [] H s (fun _ _ _ => False) e s' → False) :
    PySem.W.WalkO q loose XP YP l.row.toRowW d [] (fun f vs => PySem.call f vs) := by
  refine Att.attach_call hn hdf fun w s₀ s₁ mg mb fa o pm cd doc a vs ns G Y ho hd hcd hmg hobj hints hlen hg => ?_
  have KX := hY w _ Y
  obtain ⟨fd, hb, hF⟩ := F w mg fa _ KX G.T.g hmg
  exact law_call KX G.T.g G.T.b G.T.builtins G.T.nolimit hg hobj hints (Nat.le_trans hlen hn2) hr hF hb (fun H hO hS => hsp w H a ns hlen hO hS) fun H e s' => hCX w H s₁ e s'
end L2



/-! SHORT WORDS over the layer: a def of the text, its body, what a loop and a test want. -/
namespace L2
open PySem PySem.Spec PyProof.Rows

/-! ### the text by places -/
/-- the j-th statement of a class's body -/
def inClass (s : Stmt) (j : Nat) : Stmt := match s with
  | .ClassDef _ _ _ body _ _ _ _ _ _ _ => body.getD j (.Pass ⟨0, 0, 0, 0⟩)
  | _ => .Pass ⟨0, 0, 0, 0⟩
def defArgs (s : Stmt) : Arguments := match s with
  | .FunctionDef _ a _ _ _ _ _ _ _ _ => a
  | _ => { posonlyargs := [], args := [], vararg := none, kwonlyargs := [], kw_defaults := [], kwarg := none, defaults := [] }
def defBody (s : Stmt) : List Stmt := match s with
  | .FunctionDef _ _ b _ _ _ _ _ _ _ => b
  | _ => []
def defScope (s : Stmt) : Scope := match s with
  | .FunctionDef _ _ _ _ _ _ sc _ _ _ => sc
  | _ => { kind := .function, names := [], isGenerator := false, isCoroutine := false }

/-! ### no exception leaves a def -/
abbrev CX0 : CXT := fun _ _ _ _ _ _ => False
abbrev E0 : XK := fun _ _ _ => False
/-! ### a def (or method) of the text as it stands behind the top -/
structure Fun (K : PySem.W.Frag) (x qual : Str) (st : Stmt) (f : Addr) (fd : FuncData) : Prop where
  ex : ∃ (oc : Value) (od : Option Addr) (kV doc pm : Value) (an : Option Addr) (cdv ct : Value) (osl : Array (Option Value)),
    fd = PySem.W.fnOf x qual (defArgs st) (defBody st) (defScope st) .none kV doc pm an cdv ct ∧ K.lookup f = some ⟨oc, od, .func fd, osl⟩ ∧ PySem.W.codeIn K cdv qual = true
  kp : PySem.W.keepIn K (.ref f) = true
section
variable {P : Program} {w : World} {K : PySem.W.Frag} {mg : Str → Option Value} {base : Heap}
/-- THE RULE for a def: its body as a term of rules, and the reading of that term -/
theorem Fun.ok {x qual : Str} {st : Stmt} {f : Addr} {fd : FuncData} {N ps : List Str} {k : Nat} {sp : Sp} (F : Fun K x qual st f fd) (S : FnScope N ps (defScope st)) (len : ∀ vs H Q E, sp vs H Q E → vs.length = ps.length)
    (hbody : ∀ (cdv : Value) (A : Around) (outer : List Env) (s : Shared) (H : Hp) (vs : List V) (Q : VK) (E : XK), Room k (A.deeper (envOfC qual (defScope st) s.heap.objs.size f cdv)) → sp vs H Q E →
      ∃ t, PSs (cxOf CX0 P w K mg base N qual (defScope st) f cdv A outer s H E).nox (defBody st) t ∧ t { nx := fun _ H' => Q .non H', rt := Q } (start N vs) H) : FnOk P w K mg base CX0 (k + 1) f fd ps sp := by
  obtain ⟨oc, od, kV, doc, pm, an, cdv, ct, osl, rfl, lk, hcd⟩ := F.ex
  refine fn_of lk hcd S len fun A outer s H vs Q E hr hsp => ?_
  obtain ⟨t, h, q⟩ := hbody cdv A outer s H vs Q E hr hsp
  exact ⟨t, h.nox, q⟩
/-- how its arguments bind (no defaults): h is «fun _ _ _ _ _ _ us hl => match us, hl with | [_, _], _ => rfl», one _ a parameter -/
theorem Fun.binds {x qual : Str} {st : Stmt} {f : Addr} {fd : FuncData} {ps : List Str} (F : Fun K x qual st f fd)
    (h : ∀ (kV doc pm : Value) (an : Option Addr) (cdv ct : Value) (us : List Value), us.length = ps.length → bindArgs (PySem.W.fnOf x qual (defArgs st) (defBody st) (defScope st) .none kV doc pm an cdv ct) ⟨us, []⟩ = pure (ps.zip us)) : Binds K fd ps [] := by
  obtain ⟨oc, od, kV, doc, pm, an, cdv, ct, osl, rfl, lk, hcd⟩ := F.ex
  exact .all (h kV doc pm an cdv ct)
theorem fun_mk {x qual : Str} {st : Stmt} {f : Addr} {oc : Value} {od an : Option Addr} {osl : Array (Option Value)} {kV doc pm cdv ct : Value} (l : K.lookup f = some ⟨oc, od, .func (PySem.W.fnOf x qual (defArgs st) (defBody st) (defScope st) .none kV doc pm an cdv ct), osl⟩)
    (c : PySem.W.codeIn K cdv qual = true) (k : PySem.W.keepIn K (.ref f) = true) : Fun K x qual st f (PySem.W.fnOf x qual (defArgs st) (defBody st) (defScope st) .none kV doc pm an cdv ct) := ⟨⟨oc, od, kV, doc, pm, an, cdv, ct, osl, rfl, l, c⟩, k⟩
end
theorem small1000 {n : Nat} (h : n ≤ 1000) : n < sizeLine := Nat.lt_of_le_of_lt h (by decide)

/-! ### expressions in short: the name that stands in the i-th slot -/
section
variable {X : Cx}
theorem pv (i : Nat) {x : Str} {pos : Pos} (hN : X.N[i]? = some x := by rfl) (hv : Vis X.env.scope x := by first | exact Or.inl rfl | exact Or.inr (Or.inl rfl) | exact Or.inr (Or.inr rfl)) (hd : (x == ("__debug__" : Str)) = false := by decide)
    (hcd : (x == ("__classdict__" : Str)) = false := by decide) : PE X (.Name x pos) (tVar i) := pe_var hN hv hd hcd
end

/-! ### tests -/
theorem iteF {A B : Prop} (h : B) : if false = true then A else B := by
  rw [if_neg Bool.false_ne_true]
  exact h
theorem iteT {A B : Prop} (h : A) : if true = true then A else B := by
  rw [if_pos rfl]
  exact h
/-! ### heaps -/
/-- all that was tracked is as it was -/
def Same (H H' : Hp) : Prop := ∀ b o, H b = some o → H' b = some o
theorem Same.refl (H : Hp) : Same H H := fun _ _ h => h
theorem Same.trans {H H1 H2 : Hp} (a : Same H H1) (b : Same H1 H2) : Same H H2 := fun c o h => b c o (a c o h)
theorem Same.free {H H' : Hp} (e : Same H H') {l : Addr} (h : H' l = Option.none) : H l = Option.none := by
  cases q : H l with
  | none => rfl
  | some o =>
    rw [e l o q] at h
    cases h
theorem Same.seq {K : PySem.W.Frag} {H H' : Hp} {a : Addr} {xs : List V} (e : Same H H') (h : SqL K H a xs) : SqL K H' a xs := by
  rcases h with (h | ⟨o, h⟩) | h
  · exact .inl (.inl (e _ _ h))
  · exact .inl (.inr ⟨o, e _ _ h⟩)
  · exact .inr h

end L2

set_option Elab.async false
set_option linter.all false
set_option maxRecDepth 100000
set_option maxHeartbeats 4000000
namespace Stow
/-- a piece: its first cell, its cells, live -/
structure Pc where
  a : Int
  l : Int
  v : Bool
  deriving DecidableEq
def mkOf (l : Int) (v : Bool) : Int := l * 2 + (if v then 1 else 0)
def Pc.mk' (p : Pc) : Int := mkOf p.l p.v
/-- pieces end to end from s to e -/
def Chain : Int → List Pc → Int → Prop
  | s, [], e => s = e
  | s, p :: r, e => p.a = s ∧ 1 ≤ p.l ∧ (p.v = true → 3 ≤ p.l) ∧ Chain (s + p.l) r e
theorem Chain.le : ∀ {ps : List Pc} {s e : Int}, Chain s ps e → s + ps.length ≤ e
  | [], s, e, h => by have h : s = e := h; simp [h]
  | p :: r, s, e, h => by
    obtain ⟨_, h1, _, h2⟩ := h
    have := Chain.le h2
    simp only [List.length_cons]; omega
theorem Chain.app : ∀ {ps qs : List Pc} {s m e : Int}, Chain s ps m → Chain m qs e → Chain s (ps ++ qs) e
  | [], _, s, m, e, h, k => by have h : s = m := h; subst h; exact k
  | p :: r, qs, s, m, e, h, k => by
    obtain ⟨h0, h1, h2, h3⟩ := h
    exact ⟨h0, h1, h2, Chain.app h3 k⟩
theorem Chain.one {p : Pc} (h1 : 1 ≤ p.l) (h3 : p.v = true → 3 ≤ p.l) : Chain p.a [p] (p.a + p.l) := ⟨rfl, h1, h3, rfl⟩
theorem Chain.snoc {ps : List Pc} {s : Int} {p : Pc} (h : Chain s ps p.a) (h1 : 1 ≤ p.l) (h3 : p.v = true → 3 ≤ p.l) : Chain s (ps ++ [p]) (p.a + p.l) := h.app (.one h1 h3)
theorem Chain.mem : ∀ {ps : List Pc} {s e : Int}, Chain s ps e → ∀ p ∈ ps, s ≤ p.a ∧ 1 ≤ p.l ∧ (p.v = true → 3 ≤ p.l) ∧ p.a + p.l ≤ e
  | [], _, _, _, p, hp => by cases hp
  | q :: r, s, e, h, p, hp => by
    obtain ⟨h0, h1, h2, h3⟩ := h
    rcases List.mem_cons.mp hp with rfl | hp
    · have := h3.le
      exact ⟨by omega, h1, h2, by omega⟩
    · obtain ⟨a, b, c, d⟩ := Chain.mem h3 p hp
      exact ⟨by omega, b, c, d⟩
/-- the marks of the pieces stand in the cells -/
def Marks (cs : List Int) (ps : List Pc) : Prop := ∀ p ∈ ps, cs[p.a.toNat]? = some p.mk' ∧ cs[(p.a + p.l - 1).toNat]? = some p.mk'
theorem Marks.nil (cs : List Int) : Marks cs [] := fun p hp => by cases hp
/-- the cells of one more piece -/
theorem Marks.snoc {cs ext : List Int} {ps : List Pc} {p : Pc} (hc : Chain 0 ps p.a) (hl : (cs.length : Int) = p.a) (h1 : 1 ≤ p.l) (he : (ext.length : Int) = p.l) (m : Marks cs ps) :
    Marks ((((cs ++ ext).set p.a.toNat p.mk')).set (p.a + p.l - 1).toNat p.mk') (ps ++ [p]) := by
  intro q hq
  have h0 := hc.le
  rcases List.mem_append.mp hq with hq | hq
  · obtain ⟨a1, a2, a3, a4⟩ := hc.mem q hq
    obtain ⟨b1, b2⟩ := m q hq
    have key : ∀ k : Nat, (k : Int) < p.a → ∀ z, cs[k]? = some z → ((((cs ++ ext).set p.a.toNat p.mk')).set (p.a + p.l - 1).toNat p.mk')[k]? = some z := by
      intro k hk z hz
      rw [List.getElem?_set_ne (by omega), List.getElem?_set_ne (by omega), List.getElem?_append_left (by omega)]
      exact hz
    exact ⟨key _ (by omega) _ b1, key _ (by omega) _ b2⟩
  · have e : q = p := by simpa using hq
    subst e
    have len : (cs ++ ext).length = cs.length + ext.length := List.length_append
    constructor
    · by_cases h : (q.a + q.l - 1).toNat = q.a.toNat
      · rw [h, List.getElem?_set_self (by simp; omega)]
      · rw [List.getElem?_set_ne (by omega), List.getElem?_set_self (by simp; omega)]
    · rw [List.getElem?_set_self (by simp; omega)]
theorem mk_long (l : Int) (v : Bool) : mkOf l v / 2 = l := by unfold mkOf; split <;> omega
theorem mk_live (l : Int) (v : Bool) : decide (mkOf l v % 2 = 1) = v := by
  unfold mkOf
  cases v
  · exact decide_eq_false (by simp)
  · exact decide_eq_true (by simp)
/-- the program's own look at a piece that may begin at a cell -/
def canBegin (ns : List Int) (k : Int) : Bool :=
  if ns.getD k.toNat 0 / 2 < 1 ∨ (ns.length : Int) < k + ns.getD k.toNat 0 / 2 then false else decide (3 ≤ ns.getD k.toNat 0 / 2) || !decide (ns.getD k.toNat 0 % 2 = 1)
def badOf (ns : List Int) (k : Int) : Option Int :=
  if canBegin ns k = true then (if ns.getD (k + ns.getD k.toNat 0 / 2 - 1).toNat 0 = ns.getD k.toNat 0 then none else some (k + ns.getD k.toNat 0 / 2 - 1)) else some k
theorem getD_of {ns : List Int} {k : Nat} {x : Int} (h : ns[k]? = some x) : ns.getD k 0 = x := by rw [List.getD_eq_getElem?_getD, h]; rfl
theorem bad_none {ns : List Int} {p : Pc} (h1 : 1 ≤ p.l) (h3 : p.v = true → 3 ≤ p.l) (hl : p.a + p.l ≤ ns.length) (m1 : ns[p.a.toNat]? = some p.mk') (m2 : ns[(p.a + p.l - 1).toNat]? = some p.mk') : badOf ns p.a = none := by
  have e1 := getD_of m1
  have e2 := getD_of m2
  have e3 : ns.getD p.a.toNat 0 / 2 = p.l := by rw [e1]; exact mk_long _ _
  have hc : canBegin ns p.a = true := by
    unfold canBegin
    rw [e3, if_neg (by omega), e1]
    show (decide (3 ≤ p.l) || !decide (mkOf p.l p.v % 2 = 1)) = true
    rw [mk_live]
    cases hv : p.v with
    | false => simp
    | true => simp [h3 hv]
  unfold badOf
  rw [if_pos hc, e3, e2, e1, if_pos rfl]
end Stow

namespace Stow
theorem canBegin_iff (ns : List Int) (k : Int) : canBegin ns k = true ↔ (1 ≤ ns.getD k.toNat 0 / 2 ∧ k + ns.getD k.toNat 0 / 2 ≤ ns.length ∧ (ns.getD k.toNat 0 % 2 = 1 → 3 ≤ ns.getD k.toNat 0 / 2)) := by
  unfold canBegin
  by_cases h : ns.getD k.toNat 0 / 2 < 1 ∨ (ns.length : Int) < k + ns.getD k.toNat 0 / 2
  · rw [if_pos h]
    constructor
    · intro z; cases z
    · intro z; omega
  · rw [if_neg h]
    simp only [Bool.or_eq_true, decide_eq_true_eq, Bool.not_eq_true', decide_eq_false_iff_not]
    constructor
    · intro z
      refine ⟨by omega, by omega, fun w => ?_⟩
      rcases z with z | z
      · exact z
      · exact absurd w z
    · rintro ⟨_, _, z⟩
      by_cases w : ns.getD k.toNat 0 % 2 = 1
      · exact .inl (z w)
      · exact .inr w
/-- the piece that begins at k -/
def pcAt (ns : List Int) (k : Int) : Pc := ⟨k, ns.getD k.toNat 0 / 2, decide (ns.getD k.toNat 0 % 2 = 1)⟩
theorem bad_can {ns : List Int} {k : Int} (h : badOf ns k = none) : canBegin ns k = true := by
  unfold badOf at h
  split at h
  · assumption
  · cases h
theorem bad_pos {ns : List Int} {k : Int} (h : badOf ns k = none) : 1 ≤ ns.getD k.toNat 0 / 2 ∧ k + ns.getD k.toNat 0 / 2 ≤ ns.length ∧ (ns.getD k.toNat 0 % 2 = 1 → 3 ≤ ns.getD k.toNat 0 / 2) := (canBegin_iff ns k).mp (bad_can h)
theorem bad_no {ns : List Int} {k : Int} (h : canBegin ns k = false) : badOf ns k = some k := by
  unfold badOf
  rw [if_neg (by rw [h]; exact Bool.false_ne_true)]
theorem bad_last {ns : List Int} {k : Int} (h : canBegin ns k = true) (h2 : ns.getD (k + ns.getD k.toNat 0 / 2 - 1).toNat 0 ≠ ns.getD k.toNat 0) : badOf ns k = some (k + ns.getD k.toNat 0 / 2 - 1) := by
  unfold badOf
  rw [if_pos h, if_neg h2]
theorem bad_well {ns : List Int} {k : Int} (h : canBegin ns k = true) (h2 : ns.getD (k + ns.getD k.toNat 0 / 2 - 1).toNat 0 = ns.getD k.toNat 0) : badOf ns k = none := by
  unfold badOf
  rw [if_pos h, if_pos h2]
/-- the walk from cell k: the pieces, the first cell that cannot be -/
def walkF (ns : List Int) (k : Int) : List Pc × Option Int :=
  if h : k < ns.length ∧ badOf ns k = none then
    (pcAt ns k :: (walkF ns (k + ns.getD k.toNat 0 / 2)).1, (walkF ns (k + ns.getD k.toNat 0 / 2)).2)
  else ([], if k < ns.length then badOf ns k else none)
termination_by (ns.length - k).toNat
decreasing_by
  all_goals
    have := bad_pos h.2
    omega
theorem walkF_end {ns : List Int} {k : Int} (h : ¬ k < ns.length) : walkF ns k = ([], none) := by
  rw [walkF, dif_neg (fun z => h z.1), if_neg h]
theorem walkF_bad {ns : List Int} {k b : Int} (h : k < ns.length) (hb : badOf ns k = some b) : walkF ns k = ([], some b) := by
  rw [walkF, dif_neg (fun z => by rw [hb] at z; cases z.2), if_pos h, hb]
theorem walkF_step {ns : List Int} {k : Int} (h : k < ns.length) (hb : badOf ns k = none) : walkF ns k = (pcAt ns k :: (walkF ns (k + ns.getD k.toNat 0 / 2)).1, (walkF ns (k + ns.getD k.toNat 0 / 2)).2) := by
  rw [walkF, dif_pos ⟨h, hb⟩]
/-- the walk has come to k, the pieces ds lie behind it -/
def WPre (ns : List Int) (ds : List Pc) (k : Int) : Prop := walkF ns 0 = (ds ++ (walkF ns k).1, (walkF ns k).2)
theorem WPre.nil (ns : List Int) : WPre ns [] 0 := by unfold WPre; simp
theorem WPre.step {ns : List Int} {ds : List Pc} {k : Int} (w : WPre ns ds k) (h : k < ns.length) (hb : badOf ns k = none) : WPre ns (ds ++ [pcAt ns k]) (k + ns.getD k.toNat 0 / 2) := by
  unfold WPre at *
  rw [w, walkF_step h hb]
  simp
theorem WPre.fin {ns : List Int} {ds : List Pc} {k : Int} (w : WPre ns ds k) (h : ¬ k < ns.length) : walkF ns 0 = (ds, none) := by
  unfold WPre at w
  rw [w, walkF_end h]
  simp
theorem WPre.bad {ns : List Int} {ds : List Pc} {k b : Int} (w : WPre ns ds k) (h : k < ns.length) (hb : badOf ns k = some b) : walkF ns 0 = (ds, some b) := by
  unfold WPre at w
  rw [w, walkF_bad h hb]
  simp
end Stow
namespace Stow
end Stow
namespace Stow
theorem pcAt_of {cs : List Int} {p : Pc} (m : cs[p.a.toNat]? = some p.mk') : pcAt cs p.a = p := by
  have e := getD_of m
  unfold pcAt
  rw [e]
  show (⟨p.a, mkOf p.l p.v / 2, decide (mkOf p.l p.v % 2 = 1)⟩ : Pc) = p
  rw [mk_long, mk_live]
theorem walk_of_marks {cs : List Int} : ∀ {ps : List Pc} {k : Int}, Chain k ps cs.length → Marks cs ps → walkF cs k = (ps, none)
  | [], k, h, _ => by
    have h : k = cs.length := h
    exact walkF_end (by omega)
  | p :: r, k, h, m => by
    obtain ⟨ea, h1, h3, h4⟩ := h
    have le := h4.le
    obtain ⟨m1, m2⟩ := m p List.mem_cons_self
    have bn := bad_none h1 h3 (by omega) m1 m2
    rw [ea] at bn
    have e2 : cs.getD k.toNat 0 / 2 = p.l := by rw [← ea, getD_of m1]; exact mk_long _ _
    have ih := walk_of_marks (cs := cs) h4 fun q hq => m q (List.mem_cons_of_mem _ hq)
    rw [walkF_step (by omega) bn, e2, ih, ← ea, pcAt_of m1]
end Stow

namespace Stow
open PySem L2 PyProof.Rows

/-! ### defs of the text, by their names -/
structure Def (P : Program) (w : World) (K : PySem.W.Frag) (mg : Str → Option Value) (base : Heap) (x : Str) (k : Nat) (ps : List Str) (sp : Sp) : Prop where
  ex : ∃ (f : Addr) (fd : FuncData), FnOk P w K mg base CX0 k f fd ps sp ∧ mg x = some (.ref f) ∧ PySem.W.keepIn K (.ref f) = true ∧ Binds K fd ps []
structure Src (K : PySem.W.Frag) (mg : Str → Option Value) (x : Str) (st : Stmt) : Prop where
  ex : ∃ (f : Addr) (fd : FuncData), Fun K x x st f fd ∧ mg x = some (.ref f)
theorem src_mk {K : PySem.W.Frag} {h : Heap} {mg : Str → Option Value} {x : Str} {st : Stmt} {f : Addr} {oc kV doc pm cdv ct : Value} {od an : Option Addr} {osl : Array (Option Value)} (X : K.In h) (G : h.Ns mainGlobals mg)
    (a : PySem.W.nsIn K mainGlobals x = some (some (.ref f))) (l : K.lookup f = some ⟨oc, od, .func (PySem.W.fnOf x x (defArgs st) (defBody st) (defScope st) .none kV doc pm an cdv ct), osl⟩)
    (c : PySem.W.codeIn K cdv x = true) (k : PySem.W.keepIn K (.ref f) = true) : Src K mg x st := ⟨f, _, fun_mk l c k, PySem.W.mg_of X G a⟩
section
variable {P : Program} {w : World} {K : PySem.W.Frag} {mg : Str → Option Value} {base : Heap}
theorem Src.ok {x : Str} {st : Stmt} {N ps : List Str} {k : Nat} {sp : Sp} (S : Src K mg x st) (sc : FnScope N ps (defScope st))
    (hb : ∀ (kV doc pm : Value) (an : Option Addr) (cdv ct : Value) (us : List Value), us.length = ps.length → bindArgs (PySem.W.fnOf x x (defArgs st) (defBody st) (defScope st) .none kV doc pm an cdv ct) ⟨us, []⟩ = pure (ps.zip us))
    (len : ∀ vs H Q E, sp vs H Q E → vs.length = ps.length)
    (hbody : ∀ (f : Addr) (cdv : Value) (A : Around) (outer : List Env) (s : Shared) (H : Hp) (vs : List V) (Q : VK) (E : XK), Room k (A.deeper (envOfC x (defScope st) s.heap.objs.size f cdv)) → sp vs H Q E →
      ∃ t, PSs (cxOf CX0 P w K mg base N x (defScope st) f cdv A outer s H E).nox (defBody st) t ∧ t { nx := fun _ H' => Q .non H', rt := Q } (start N vs) H) : Def P w K mg base x (k + 1) ps sp := by
  obtain ⟨f, fd, F, hm⟩ := S.ex
  exact ⟨f, fd, F.ok sc len (hbody f), hm, F.kp, F.binds hb⟩
end
section
variable {X : Cx}
theorem call_isi : CallR X (.builtin "isinstance") (fun xs H Q => ∃ x n t b, xs = [x, .ty n] ∧ TyOf X.K H x t ∧ PySem.W.kitOne X.K t (.type n) = some b ∧ Q (.bl b) H) := by
  intro pins s σ H xs us Q I r h
  obtain ⟨x, n, t, b, rfl, ty, e, q⟩ := h
  obtain ⟨u, u', rfl, rx, ry⟩ := vals2 r
  cases (show u' = Value.type n from ry)
  exact isinst_ok I rx ty e fun tk => ⟨.bl b, H, I.tok tk, rfl, q⟩
end

/-! ### heaps -/
theorem _root_.L2.Same.new {H : Hp} {p : Addr} {o : HO} (h : H p = none) : Same H (upd H p o) := fun b u e => by
  rw [upd_ne (ne_of_none e h)]
  exact e
theorem _root_.L2.Same.put {H H' : Hp} {p : Addr} {o : HO} (s : Same H H') (h : H p = none) : Same H (upd H' p o) := fun b u e => by
  rw [upd_ne (ne_of_none e h)]
  exact s b u e
theorem small4000 {n : Nat} (h : n ≤ 4000) : n < sizeLine := Nat.lt_of_le_of_lt h (by decide)
theorem two1 : (2 : Int) ^ (1 : Int).toNat = 2 := by decide
theorem atI_map (ns : List Int) (k : Int) (h0 : 0 ≤ k) (h : k < ns.length) : atI (ns.map V.int) k = some (.int (ns.getD k.toNat 0)) := by
  have e : (ns.map V.int)[k.toNat]? = some (.int (ns.getD k.toNat 0)) := by
    rw [List.getElem?_map, List.getD_eq_getElem?_getD, List.getElem?_eq_getElem (by omega)]
    rfl
  have := atI_nat e
  rwa [Int.toNat_of_nonneg h0] at this
theorem live_eq (n : Int) : decide (V.int (Builtin.bitAnd n 1) = V.int 1) = decide (n % 2 = 1) := by
  rw [dec_int, bitAnd_m1]
  rfl

/-! ### isinstance of the built-in kinds -/
section
variable {K : PySem.W.Frag}
theorem kit_ii : PySem.W.kitOne K (.type "int") (.type "int") = some true := by rfl
theorem kit_bb : PySem.W.kitOne K (.type "bool") (.type "bool") = some true := by rfl
theorem kit_ll : PySem.W.kitOne K (.type "list") (.type "list") = some true := by rfl
theorem kit_tt : PySem.W.kitOne K (.type "tuple") (.type "tuple") = some true := by rfl
theorem kit_ib : PySem.W.kitOne K (.type "int") (.type "bool") = some false := by
  show (if (Value.type "int" == Value.type "bool") = true then some true else PySem.W.kitCls K (.type "int") (.type "bool")) = some false
  rw [if_neg (by decide)]
  show (if PySem.W.kitMeta "bool" = true then PySem.W.subIn K (.type "int") (.type "bool") else none) = some false
  rw [if_pos (by decide +kernel)]
  show (fastBuiltinMro "int").map (·.contains (Value.type "bool")) = some false
  decide +kernel
end
end Stow

namespace Stow
open PySem
/-- what a look of a frame at an exception leaves: e has a new entry T, the frames' slots may have changed, all else stays -/
structure Noted (fr : List Addr) (e : Addr) (oe : Obj) (fl : Value) (h h' : Heap) : Prop where
  keep : ∀ b o, b ≠ e → b ∉ fr → h.get? b = some o → h'.get? b = some o
  slot : ∀ b o, b ≠ e → h.get? b = some o → ∃ sl, h'.get? b = some { o with slots := sl }
  ent : ∃ (T : Addr) (oT : Obj) (ts : Array Value), h.get? T = none ∧ T ≠ e ∧ h'.get? e = some (oe.mapFields (·.setIfInBounds 1 (.ref T))) ∧ h'.get? T = some oT ∧ oT.data = .fields ts ∧ ts[3]? = some fl
section
variable {M : Model} {A : Around} {E : Value → Shared → Prop} {s : Shared}
theorem entry_x {base : Heap} {env : Env} {outer : List Env} {L e : Addr} {oe : Obj} {vs : Array Value} {head : Value} {had : Bool} {Q : Unit → Shared → Prop} (hfr : A.frames = some (env :: outer)) (hl : s.heap.FunFrames base (env :: outer)) (hf : env.frame = some L)
    (he : s.heap.get? e = some oe) (hd : oe.data = .fields vs) (hsz : 1 < vs.size) (h : ∀ h', Noted ((env :: outer).filterMap (·.frame)) e oe (rawInt L) s.heap h' → Q () { s with heap := h' }) :
    wpAny M A (do
      let a ← frameOf env
      let pl ← entryPlaceOf L had
      let b ← EntryCells.newEntry head a .none (rawInt L) .none pl
      setField (.ref e) 1 b) Q E s := by
  have out : e ∉ (env :: outer).filterMap (·.frame) := fun z => by
    obtain ⟨_, o, q, nf⟩ := hl.mem z
    rw [he] at q
    cases q
    exact nf vs hd
  refine wpAny_bind (wpAny_frameOf_fun hfr hl hf fun hA sA => ?_)
  refine wpAny_bind (wpAny_entryPlaceOf fun pl isP => ?_)
  unfold EntryCells.newEntry newFields
  refine wpAny_bind (wpAny_newObj_type ?_ (isP.sizeOk5 _ _ _ _ _))
  have eA : hA.get? e = some oe := (sA.2.1 e out).trans he
  refine wpAny_setField (Heap.get?_push_of_some _ eA) hd hsz (h _ ?_)
  have apart : hA.objs.size ≠ e := Nat.ne_of_gt (Heap.lt_size eA)
  have other : ∀ {ob : Obj} b o, b ≠ e → hA.get? b = some o → ((hA.push ob).update e (Obj.mapFields (·.setIfInBounds 1 (Value.ref hA.objs.size)))).get? b = some o := fun b o nb q => by
    rw [Heap.get?_update_other _ _ (fun z => nb z.symm)]
    exact Heap.get?_push_of_some _ q
  refine ⟨fun b o nb nf q => other b o nb ((sA.2.1 b nf).trans q), fun b o nb q => ?_, hA.objs.size, _, _, ?_, apart, ?_, (Heap.get?_update_other _ _ (fun z => apart z.symm)).trans (Heap.get?_push_size _ rfl), rfl, ?_⟩
  · obtain ⟨sl, q'⟩ := sA.2.2 b o q
    exact ⟨sl, other b _ nb q'⟩
  · rw [sA.1]
    exact Heap.get?_none_of_le (Nat.le_refl _)
  · exact Heap.get?_update_self _ (Heap.get?_push_of_some _ eA) (Obj.isFreed_of_fields (Obj.data_mapFields hd _))
  · first
      | (simp; done)
      | (rcases isP with rfl | ⟨_, _, _, _, _, _, _, rfl⟩ <;> simp)
theorem mapF_dict (o : Obj) (f : Array Value → Array Value) : (o.mapFields f).dict = o.dict := by
  obtain ⟨c, d, dt, sl⟩ := o
  cases dt <;> rfl
end
/-- an exception at x of the class cls: its entry T, the entry's flight -/
def Exc (h : Heap) (x : Addr) (cls : Value) (od : Option Addr) (T : Addr) (fl : Value) : Prop :=
  ∃ (oe : Obj) (vs : Array Value) (oT : Obj) (ts : Array Value), T ≠ x ∧ h.get? x = some oe ∧ oe.cls = cls ∧ oe.dict = od ∧ oe.data = .fields vs ∧ vs[1]? = some (.ref T) ∧ h.get? T = some oT ∧ oT.data = .fields ts ∧ ts[3]? = some fl
/-- an exception that has no entry yet -/
def Exc0 (h : Heap) (x : Addr) (cls : Value) (od : Option Addr) : Prop := ∃ (oe : Obj) (vs : Array Value), h.get? x = some oe ∧ oe.cls = cls ∧ oe.dict = od ∧ oe.data = .fields vs ∧ vs[1]? = some .none
/-- from h to h': of the frames at fr the slots may have changed, the objects at ex may have changed, all else stays -/
structure Upto (fr ex : List Addr) (h h' : Heap) : Prop where
  keep : ∀ b o, b ∉ ex → b ∉ fr → h.get? b = some o → h'.get? b = some o
  slot : ∀ b o, b ∉ ex → h.get? b = some o → ∃ sl, h'.get? b = some { o with slots := sl }
theorem Upto.trans {fr ex ex' : List Addr} {h1 h2 h3 : Heap} (a : Upto fr ex h1 h2) (b : Upto fr ex' h2 h3) : Upto fr (ex ++ ex') h1 h3 :=
  ⟨fun c o n1 n2 q => b.keep c o (fun z => n1 (List.mem_append_right _ z)) n2 (a.keep c o (fun z => n1 (List.mem_append_left _ z)) n2 q), fun c o n1 q => by
    obtain ⟨sl, q1⟩ := a.slot c o (fun z => n1 (List.mem_append_left _ z)) q
    obtain ⟨sl', q2⟩ := b.slot c _ (fun z => n1 (List.mem_append_right _ z)) q1
    exact ⟨sl', q2⟩⟩
theorem Upto.update {fr : List Addr} {h : Heap} {a : Addr} {f : Obj → Obj} : Upto fr [a] h (h.update a f) :=
  ⟨fun b o n _ q => by rw [Heap.get?_update_other _ _ (fun z => n (by simp [z]))]; exact q, fun b o n q => ⟨o.slots, by rw [Heap.get?_update_other _ _ (fun z => n (by simp [z]))]; exact q⟩⟩
section
variable {M : Model} {A : Around} {E : Value → Shared → Prop} {s : Shared}
/-- setFlight of an exception with an entry -/
theorem flight_x {fr : List Addr} {x : Addr} {cls : Value} {od : Option Addr} {T : Addr} {fl : Value} {Q : Unit → Shared → Prop} (ht : Exc s.heap x cls od T fl)
    (h : ∀ h', Upto fr [T] s.heap h' → Exc h' x cls od T .none → Q () { s with heap := h' }) : wpAny M A (setFlight (.ref x) none) Q E s := by
  obtain ⟨oe, vs, oT, ts, ne, ex, hc, hdi, hd, h1, eT, dT, h3⟩ := ht
  unfold setFlight
  refine wpAny_bind (wpAny_field ex hd h1 ?_)
  rw [if_pos (show (Value.ref T != Value.none) = true by simp)]
  have sz : 3 < ts.size := (Array.getElem?_eq_some_iff.mp h3).1
  refine wpAny_setField eT dT sz (h _ .update ⟨oe, vs, _, _, ne, ?_, hc, hdi, hd, h1, Heap.get?_update_self _ eT (Obj.isFreed_of_fields (Obj.data_mapFields dT _)), Obj.data_mapFields dT _, ?_⟩)
  · rw [Heap.get?_update_other _ _ ne]
    exact ex
  · simp [sz]
theorem Noted.exc {fr : List Addr} {x : Addr} {oe : Obj} {vs : Array Value} {fl : Value} {h h' : Heap} (n : Noted fr x oe fl h h') (hd : oe.data = .fields vs) (hsz : 1 < vs.size) : ∃ T, h.get? T = none ∧ Exc h' x oe.cls oe.dict T fl := by
  obtain ⟨T, oT, ts, nT, ne, ex, eT, dT, h3⟩ := n.ent
  exact ⟨T, nT, _, _, oT, ts, ne, ex, Obj.cls_mapFields _ _, mapF_dict _ _, Obj.data_mapFields hd _, by simp [hsz], eT, dT, h3⟩
theorem Noted.upto {fr : List Addr} {x : Addr} {oe : Obj} {fl : Value} {h h' : Heap} (n : Noted fr x oe fl h h') : Upto fr [x] h h' :=
  ⟨fun b o nb nf q => n.keep b o (fun z => nb (by simp [z])) nf q, fun b o nb q => n.slot b o (fun z => nb (by simp [z])) q⟩
/-- a frame looks at an exception that has no entry yet -/
theorem look0 {base : Heap} {env : Env} {outer : List Env} {L x : Addr} {cls : Value} {od : Option Addr} {Q : Unit → Shared → Prop} (hfr : A.frames = some (env :: outer)) (hl : s.heap.FunFrames base (env :: outer)) (hf : env.frame = some L) (hx : Exc0 s.heap x cls od)
    (h : ∀ h' T, s.heap.get? T = none → Upto ((env :: outer).filterMap (·.frame)) [x] s.heap h' → Exc h' x cls od T (rawInt L) → Q () { s with heap := h' }) : wpAny M A (noteFrame (.ref x) env) Q E s := by
  obtain ⟨oe, vs, ex, rfl, rfl, hd, h1⟩ := hx
  have sz := (Array.getElem?_eq_some_iff.mp h1).1
  unfold noteFrame
  simp only [hf]
  refine wpAny_bind (wpAny_field ex hd h1 ?_)
  rw [if_neg (by decide)]
  refine entry_x hfr hl hf ex hd sz fun h' n => ?_
  obtain ⟨T, nT, t⟩ := n.exc hd sz
  exact h h' T nT n.upto t
/-- a frame is left -/
theorem leave0 {base : Heap} {env : Env} {outer : List Env} {L x : Addr} {cls : Value} {od : Option Addr} {Q : Unit → Shared → Prop} (hfr : A.frames = some (env :: outer)) (hl : s.heap.FunFrames base (env :: outer)) (hf : env.frame = some L) (hx : Exc0 s.heap x cls od)
    (h : ∀ h' T, s.heap.get? T = none → Upto ((env :: outer).filterMap (·.frame)) [x, T] s.heap h' → Exc h' x cls od T .none → Q () { s with heap := h' }) : wpAny M A (leaving env (.ref x)) Q E s := by
  unfold leaving
  refine wpAny_bind (look0 hfr hl hf hx fun h1 T nT u t => ?_)
  exact flight_x (s := { s with heap := h1 }) (fr := (env :: outer).filterMap (·.frame)) t fun h2 u2 t2 => h h2 T nT (u.trans u2) t2
end
end Stow

namespace Stow
open PySem
open Sem (wp)
section
variable {M : Model} {A : Around} {E : Value → Shared → Prop}
variable {nm q nm0 q0 : Str} {C N C0 N0 : Addr} {bs bm bs0 bm0 : List Value} {hdct hdct0 : Bool} {sn sn0 : List Str} {sub sub0 : List Value} {ab ab0 : Bool} {col col0 : Option Bool} {dd dd0 : Option Addr} {k0 k1 k2 k3 k5 j0 j1 j2 j3 j5 : Option Value} {newId newId0 : String}
end
end Stow

namespace Stow
open PySem
open Sem (wp)
/-- a question that is answered by the heap alone -/
def Lk (M : Model) (h : Heap) {α : Type} (m : Sem α) (v : α) : Prop := ∀ (A : Around) (E : Value → Shared → Prop) (g : Array GenState) (d : Drawn) (t : Nat) (os : OsState) (Q : α → Shared → Prop), Q v ⟨h, g, d, t, os⟩ → wpAny M A m Q E ⟨h, g, d, t, os⟩
theorem Lk.at {M : Model} {h : Heap} {α : Type} {m : Sem α} {v : α} (l : Lk M h m v) {A : Around} {E : Value → Shared → Prop} {g : Array GenState} {d : Drawn} {t : Nat} {os : OsState} {Q : α → Shared → Prop} (q : Q v ⟨h, g, d, t, os⟩) : wpAny M A m Q E ⟨h, g, d, t, os⟩ := l A E g d t os Q q
section
variable {prog : Program} {w : World} {A : Around} {E : Value → Shared → Prop} {h : Heap} {g : Array GenState} {d : Drawn} {t : Nat} {os : OsState} {a C : Addr} {o : Obj}
/-- what the class of an exception answers -/
structure XLk (prog : Program) (w : World) (h : Heap) (C : Addr) : Prop where
  ga : Lk (model prog w) h (typeLookup (.ref C) "__getattribute__") (some (.builtin "BaseException.__getattribute__"))
  gat : Lk (model prog w) h (typeLookup (.ref C) "__getattr__") none
  cls : Lk (model prog w) h (typeLookup (.ref C) "__class__") (some (.builtin "object.__class__"))
  obj : Lk (model prog w) h (isSubtype (.ref C) (.type "object")) true
  exc : Lk (model prog w) h (isSubtype (.ref C) (.type "BaseException")) true
end
end Stow

namespace Stow
open PySem L2 PyProof.Rows

/-! ### exceptions of own classes that leave defs -/
section
variable {P : Program} {w : World} {H H' : Hp} {h h' g : Heap} {a : Addr} {o : HO}
theorem ok_there (x : ObjOk P w H h a o) : ∃ ob, h.get? a = some ob := by
  cases o with
  | lst xs => obtain ⟨_, _, _, _, e⟩ := x; exact ⟨_, e⟩
  | tup xs => obtain ⟨_, _, _, ob, e, _⟩ := x; exact ⟨_, e⟩
  | dK kvs => obtain ⟨_, _, _, _, ob, _, _, e, _⟩ := x; exact ⟨_, e⟩
  | dT kvs => obtain ⟨_, _, _, _, ob, _, _, e, _⟩ := x; exact ⟨_, e⟩
  | set S n => obtain ⟨ob, _, _, _, e, _⟩ := x; exact ⟨_, e⟩
  | ins C dx fs => obtain ⟨_, _, _, e, _⟩ := x; exact ⟨_, e⟩
  | own y => obtain ⟨_, e⟩ := x; exact ⟨_, e⟩
  | xd fs => obtain ⟨_, ⟨_, _, _, e, _⟩, _⟩ := x; exact ⟨_, e⟩
  | rng lo hi => obtain ⟨_, _, _, e⟩ := x; exact ⟨_, e⟩
  | frz ob u => obtain ⟨e, _⟩ := x; exact ⟨_, e⟩
  | tbl ps => exact ⟨_, (show h.get? a = some _ from x)⟩
  | met f y => exact ⟨_, (show h.get? a = some _ from x)⟩
  | ext φ => obtain ⟨_, e, _⟩ := x; exact e
theorem hok_none (x : HOk P w H h) (e : h.get? a = none) : H a = none := by
  cases q : H a with
  | none => rfl
  | some u =>
    obtain ⟨ob, z⟩ := ok_there (x a u q)
    rw [e] at z
    cases z
theorem hok_upto {fr ex : List Addr} (x : HOk P w H h) (u : Upto fr ex h h') (hf : ∀ b ∈ fr, H b = none) (he : ∀ b ∈ ex, H b = none) : HOk P w H h' := fun a o e => by
  have out : ∀ b v, H b = some v → b ∉ ex ∧ b ∉ fr := fun b v q => ⟨(fun z => by rw [he b z] at q; cases q), (fun z => by rw [hf b z] at q; cases q)⟩
  refine (x a o e).stay (fun b ob hb q => ?_) (fun _ q => q) fun _ _ q => q
  rcases hb with rfl | hb
  · exact u.keep b ob (out b _ e).1 (out b _ e).2 q
  · exact u.keep b ob (out b _ hb).1 (out b _ hb).2 q
theorem un_upto {fs fr ex : List Addr} (u : Un fs [] H H' g h) (v : Upto fr ex h h') (hfr : ∀ b ∈ fr, b ∈ fs ∨ g.get? b = none) (hex : ∀ b ∈ ex, g.get? b = none) : Un fs [] H H' g h' := by
  have nex : ∀ b o, g.get? b = some o → b ∉ ex := fun b o q z => by rw [hex b z] at q; cases q
  refine ⟨fun b o q n hb hx => ?_, fun b o q n hb hx => ?_, u.free, fun b o q hx => ?_, u.tups, u.frzs, u.tbls⟩
  · refine v.keep b o (nex b o q) (fun z => ?_) (u.keep b o q n hb hx)
    rcases hfr b z with z | z
    · exact hb z
    · rw [z] at q
      cases q
  · obtain ⟨sl, q1⟩ := u.slot b o q n hb hx
    obtain ⟨sl', q2⟩ := v.slot b _ (nex b o q) q1
    exact ⟨sl', q2⟩
  · obtain ⟨o', q1⟩ := u.there b o q hx
    obtain ⟨sl, q2⟩ := v.slot b o' (nex b o q) q1
    exact ⟨_, q2⟩
theorem un_new {fs : List Addr} (u : Un fs [] H H' g h) (e : h.get? a = none) : g.get? a = none := by
  cases q : g.get? a with
  | none => rfl
  | some o =>
    obtain ⟨o', z⟩ := u.there a o q (by simp)
    rw [e] at z
    cases z
end
/-- how an exception lies behind a call -/
def CXe (P : Program) (w : World) : CXT := fun outer H s E e s' => ∃ (x C T : Addr) (od : Option Addr) (H' : Hp), e = .ref x ∧ s'.os = s.os ∧ AllBare s'.gens ∧ Un (frs outer) [] H H' s.heap s'.heap ∧ HOk P w H' s'.heap ∧
  s.heap.get? x = none ∧ s.heap.get? T = none ∧ H' x = none ∧ H' T = none ∧ Exc s'.heap x (.ref C) od T .none ∧ E (.ref C) od H'
section
variable {P : Program} {w : World} {K : PySem.W.Frag} {mg : Str → Option Value} {base : Heap} {N : List Str} {qual : Str} {scope : Scope} {f : Addr} {cd : Value} {A : Around} {outer : List Env} {s₀ : Shared} {H₀ : Hp} {EX : XK}
/-- an exception that was made in the body leaves it -/
theorem xe_made {pins : List (Addr × Obj)} {σ : L2.St} {H : Hp} {s : Shared} {x C : Addr} {od : Option Addr} (I : Inv (cxOf (CXe P w) P w K mg base N qual scope f cd A outer s₀ H₀ EX) pins σ H s) (hx : Exc0 s.heap x (.ref C) od) (nx : s₀.heap.get? x = none) (ux : H x = none) (q : EX (.ref C) od H) :
    (cxOf (CXe P w) P w K mg base N qual scope f cd A outer s₀ H₀ EX).xe (.ref x) s := by
  refine leave0 (base := base) (outer := outer) I.ok.frames I.stack rfl hx fun h' T nT u t => ?_
  have hu : Un (frs outer) [] H₀ H s₀.heap s.heap := I.base
  have uT : H T = none := hok_none I.hok nT
  refine ⟨x, C, T, od, H, rfl, I.os, I.bare, un_upto hu u (fun b hb => ?_) (fun b hb => ?_), hok_upto I.hok u I.stkFree (fun b hb => ?_), nx, un_new hu nT, ux, uT, t, q⟩
  · rcases List.mem_cons.mp hb with rfl | hb
    · exact .inr (Heap.get?_none_of_le (Nat.le_refl _))
    · exact .inl hb
  · rcases List.mem_cons.mp hb with rfl | hb
    · exact nx
    · have e : b = T := by simpa using hb
      subst e
      exact un_new hu nT
  · rcases List.mem_cons.mp hb with rfl | hb
    · exact ux
    · have e : b = T := by simpa using hb
      subst e
      exact uT
end
end Stow

namespace Stow
open PySem L2 PyProof.Rows

/-! ### the classes of exceptions, as the written part tells them -/
theorem exc_cls {K : PySem.W.Frag} {h : Heap} {C : Addr} {bmB : List Value} {newId : String} (X : K.In h) (q : PySem.W.excIn K C bmB newId = true) :
    ∃ (bm : List Value) (N : Addr) (nm qn : Str) (bs : List Value) (hd : Bool) (sn : List Str) (sub : List Value) (ab : Bool) (col : Option Bool) (dd : Option Addr) (k0 k1 k2 k3 k5 : Option Value) (mN : Str → Option Value),
      h.get? C = some (excClassObj nm qn C N bs bm hd sn sub ab col dd k0 k1 k2 k3 k5 newId) ∧ h.Ns N mN ∧ mN "__init__" = none ∧ OwnTail h bmB bm ∧ ∀ v, PySem.W.mroIn K C v = some ((Value.ref C :: bm).contains v) := by
  unfold PySem.W.excIn at q
  split at q
  · rename_i dd cd sl lk
    split at q
    · rename_i C' bm a0 a1 a2 a3 n a5 em es
      simp only [Bool.and_eq_true, beq_iff_eq, Bool.not_eq_true'] at q
      obtain ⟨⟨⟨⟨⟨eC, rfl⟩, nodel⟩, tl⟩, okN⟩, noI⟩ := q
      have eC := eC.symm
      subst eC
      have mro : ∀ v, PySem.W.mroIn K C v = some ((Value.ref C :: bm).contains v) := fun v => by
        unfold PySem.W.mroIn PySem.W.clsIn
        rw [lk]
        first
          | rfl
          | (simp [em]; done)
      obtain ⟨nm, bs, mr, ns, qn, hd, sn, sub, ab, col, del⟩ := cd
      dsimp only at em nodel okN noI
      subst em nodel
      have esl : sl = #[a0, a1, a2, a3, some (.builtin n), a5] := by
        cases sl with
        | mk l =>
          dsimp only at es
          rw [es]
      subst esl
      exact ⟨bm, ns, nm, qn, bs, hd, sn, sub, ab, col, dd, a0, a1, a2, a3, a5, _, X _ _ lk, .of_isNs (PySem.W.isNs_of_in X okN), PySem.W.nsMap_none_of_in X okN noI, PySem.W.tail_of_in X tl, mro⟩
    · cases q
  · cases q
/-- an own exception class without methods, right or not right under a built-in one -/
structure XCls (K : PySem.W.Frag) (mg : Str → Option Value) (x : Str) (C : Addr) : Prop where
  bound : mg x = some (.ref C)
  ex : ∃ (bmB : List Value) (B newId initId : String), PySem.W.excIn K C bmB newId = true ∧ ExcBaseFacts B newId initId bmB ∧ bmB.contains (.type "BaseException") = true
/-- raise C(e, ..) -/
def tRaise (C : Addr) (E : XK) (t : TA) : TS := fun _ σ H => t σ H fun xs H1 => xs.length ≤ sizeLine ∧ E (.ref C) none H1
section
variable {P : Program} {w : World} {K : PySem.W.Frag} {mg : Str → Option Value} {base : Heap} {N : List Str} {qual : Str} {scope : Scope} {f : Addr} {cd : Value} {A : Around} {outer : List Env} {s₀ : Shared} {H₀ : Hp} {EX : XK}
theorem ps_raise {x : Str} {C : Addr} {np cpos pos : Pos} {e : Expr} {es : List Expr} {t : TA} (XC : XCls K mg x C) (hh : (cxOf (CXe P w) P w K mg base N qual scope f cd A outer s₀ H₀ EX).A.handled = none)
    (hg : Gl (cxOf (CXe P w) P w K mg base N qual scope f cd A outer s₀ H₀ EX) x) (ha : PA (cxOf (CXe P w) P w K mg base N qual scope f cd A outer s₀ H₀ EX) (e :: es) t)
    (hdb : (x == ("__debug__" : Str)) = false := by decide) (he : starEach (e :: es) (cxOf (CXe P w) P w K mg base N qual scope f cd A outer s₀ H₀ EX).env = (false, eval e (cxOf (CXe P w) P w K mg base N qual scope f cd A outer s₀ H₀ EX).env) :: starEach es (cxOf (CXe P w) P w K mg base N qual scope f cd A outer s₀ H₀ EX).env := by rfl)
    (hpl : (backTo cpos (starEach es (cxOf (CXe P w) P w K mg base N qual scope f cd A outer s₀ H₀ EX).env)).any (·.1) = false := by rfl) :
    PS (cxOf (CXe P w) P w K mg base N qual scope f cd A outer s₀ H₀ EX) (.Raise (some (.Call (.Name x np) (e :: es) [] cpos)) none pos) (tRaise C EX t) := by
  intro pins s σ H D I h
  obtain ⟨bmB, B, newId, initId, q, FB, hB⟩ := XC.ex
  obtain ⟨bm, NN, nm, qn, bs, hd, sn, sub, ab, col, dd, k0, k1, k2, k3, k5, mN, hC, hN, noI, tl, _⟩ := exc_cls I.mod.kin q
  refine wpAny_Raise_call_subT (C := C) (nm := nm) (q := qn) (N := NN) (bs := bs) (bm := bm) (hdct := hd) (sn := sn) (sub := sub) (ab := ab) (col := col) (dd := dd) (k0 := k0) (k1 := k1) (k2 := k2) (k3 := k3) (k5 := k5) FB (mN := mN) (tl.hasType hB) hh
    (by rw [he]; show (false || (backTo cpos (starEach es _)).any (·.1)) = false; rw [hpl]; rfl) noI (ld_glob I hg XC.bound ⟨rfl, ?_⟩ hdb)
  have hA := ha cpos pins s σ H _ I h
  rw [he] at hA ⊢
  refine Calls.evalArgs_plain (thn hA fun us s2 ⟨xs, H2, I2, r2, hz, q2⟩ => ⟨rfl, by rw [← r2.length]; exact hz, I2.bk _ _ hC, hN.keeps I2.bk, tl.keeps I2.bk, fun h' x hm => ?_⟩)
  have I3 : Inv (cxOf (CXe P w) P w K mg base N qual scope f cd A outer s₀ H₀ EX) pins σ H2 { s2 with heap := h' } := I2.kept (t' := s2.toks) hm.keeps
  obtain ⟨tt, ht, _, _⟩ := hm.there
  exact xe_made I3 ⟨_, _, ht, rfl, rfl, rfl, rfl⟩ (un_new (show Un (frs outer) [] H₀ H2 s₀.heap s2.heap from I2.base) hm.new) (hok_none I2.hok hm.new) q2
end

/-! ### try around one call -/
/-- an exception that is held: its class, its dict -/
def ExcO (x C : Addr) (od : Option Addr) : HO := .ext fun h => ∃ oe vs, h.get? x = some oe ∧ oe.cls = .ref C ∧ oe.dict = od ∧ oe.data = .fields vs
/-- the context of an except suite -/
abbrev Cx.suite (X : Cx) (x : Addr) : Cx := { X with A := X.A.mark (some (.ref x)), calm := false, xe := fun _ _ => False }
section
variable {X : Cx}
end
end Stow

namespace Stow
open PySem L2 PyProof.Rows
section
variable {X : Cx}
/-- an own exception class as the written part tells it, behind its own name bm -/
def ECls (K : PySem.W.Frag) (C : Addr) (bm : List Value) : Prop := ∃ (nm qn : Str) (N : Addr) (bs : List Value) (hd : Bool) (sn : List Str) (sub : List Value) (ab : Bool) (col : Option Bool) (dd : Option Addr) (k0 k1 k2 k3 k5 : Option Value) (newId : String),
  K.lookup C = some (excClassObj nm qn C N bs bm hd sn sub ab col dd k0 k1 k2 k3 k5 newId)
/-- an exception of the class at C fits the own class at C0 -/
def Fit (K : PySem.W.Frag) (C C0 : Addr) : Prop := ∃ (bm bm0 : List Value), ECls K C bm ∧ ECls K C0 bm0 ∧ (Value.ref C0 :: bm0).contains (.type "BaseException") = true ∧ (Value.ref C :: bm).contains (.ref C0) = true
/-- try: f(e, ..) / except C0: suite -/
def tTry (K : PySem.W.Frag) (C0 : Addr) (ta : TA) (sp : Sp) (ts : Addr → TS) : TS := fun D σ H => ta σ H fun vs H1 => sp (vs ++ []) H1 (fun _ H2 => D.nx σ H2) fun c od H2 => ∃ C, c = .ref C ∧ Fit K C C0 ∧ ∀ x, H2 x = none → ts x D σ (upd H2 x (ExcO x C od))
variable {k : Nat} {f C0 : Addr} {fd : FuncData} {ps : List Str} {sp : Sp} {fx cx : Str} {p cpos epos np hpos pos : Pos} {e : Expr} {es : List Expr} {ta : TA} {b0 : Stmt} {suite : List Stmt} {ts : Addr → TS}
/-- .. as n: the name's slot i -/
def tTryAs (K : PySem.W.Frag) (C0 : Addr) (i : Nat) (ta : TA) (sp : Sp) (ts : Addr → TS) : TS := fun D σ H => ta σ H fun vs H1 => sp (vs ++ []) H1 (fun _ H2 => D.nx σ H2) fun c od H2 => ∃ C, c = .ref C ∧ Fit K C C0 ∧
  ∀ x, H2 x = none → ts x { D with nx := fun σ' H' => D.nx (σ'.set i none) H', bk := fun σ' H' => D.bk (σ'.set i none) H', ct := fun σ' H' => D.ct (σ'.set i none) H' } (σ.set i (some (.ref x))) (upd H2 x (ExcO x C od))
end
end Stow

namespace Stow
open PySem L2 PyProof.Rows
/-! ### defs that may raise, by their names -/
structure Defx (P : Program) (w : World) (K : PySem.W.Frag) (mg : Str → Option Value) (base : Heap) (x : Str) (k : Nat) (ps : List Str) (sp : Sp) : Prop where
  ex : ∃ (f : Addr) (fd : FuncData), FnOk P w K mg base (CXe P w) k f fd ps sp ∧ mg x = some (.ref f) ∧ PySem.W.keepIn K (.ref f) = true ∧ Binds K fd ps []
section
variable {P : Program} {w : World} {K : PySem.W.Frag} {mg : Str → Option Value} {base : Heap}
theorem fun_okx {x qual : Str} {st : Stmt} {f : Addr} {fd : FuncData} {N ps : List Str} {k : Nat} {sp : Sp} (F : Fun K x qual st f fd) (S : FnScope N ps (defScope st)) (len : ∀ vs H Q E, sp vs H Q E → vs.length = ps.length)
    (hbody : ∀ (cdv : Value) (A : Around) (outer : List Env) (s : Shared) (H : Hp) (vs : List V) (Q : VK) (E : XK), Room k (A.deeper (envOfC qual (defScope st) s.heap.objs.size f cdv)) → sp vs H Q E →
      ∃ t, PSs (cxOf (CXe P w) P w K mg base N qual (defScope st) f cdv A outer s H E) (defBody st) t ∧ t { nx := fun _ H' => Q .non H', rt := Q } (start N vs) H) : FnOk P w K mg base (CXe P w) (k + 1) f fd ps sp := by
  obtain ⟨oc, od, kV, doc, pm, an, cdv, ct, osl, rfl, lk, hcd⟩ := F.ex
  exact fn_of lk hcd S len fun A outer s H vs Q E hr hsp => hbody cdv A outer s H vs Q E hr hsp
theorem Src.okx {x : Str} {st : Stmt} {N ps : List Str} {k : Nat} {sp : Sp} (S : Src K mg x st) (sc : FnScope N ps (defScope st))
    (hb : ∀ (kV doc pm : Value) (an : Option Addr) (cdv ct : Value) (us : List Value), us.length = ps.length → bindArgs (PySem.W.fnOf x x (defArgs st) (defBody st) (defScope st) .none kV doc pm an cdv ct) ⟨us, []⟩ = pure (ps.zip us))
    (len : ∀ vs H Q E, sp vs H Q E → vs.length = ps.length)
    (hbody : ∀ (f : Addr) (cdv : Value) (A : Around) (outer : List Env) (s : Shared) (H : Hp) (vs : List V) (Q : VK) (E : XK), Room k (A.deeper (envOfC x (defScope st) s.heap.objs.size f cdv)) → sp vs H Q E →
      ∃ t, PSs (cxOf (CXe P w) P w K mg base N x (defScope st) f cdv A outer s H E) (defBody st) t ∧ t { nx := fun _ H' => Q .non H', rt := Q } (start N vs) H) : Defx P w K mg base x (k + 1) ps sp := by
  obtain ⟨f, fd, F, hm⟩ := S.ex
  exact ⟨f, fd, fun_okx F sc len (hbody f), hm, F.kp, F.binds hb⟩
end
section
variable {X : Cx}
theorem pass_e0 : Passes (CXe X.prog X.w) X E0 := by
  rintro pins σ H s e s' I ⟨x, C, T, od, H', _, _, _, _, _, _, _, _, _, _, q⟩
  exact q.elim
/-- f(e, ..), that raises nothing there -/
theorem pe_defq {x : Str} {j k : Nat} {ps : List Str} {sp : Sp} {p pos : Pos} {e : Expr} {es : List Expr} {t : TA} (D : Defx X.prog X.w X.K X.mg X.base x j ps sp) (hr : Room k X.A) (hg : Gl X x) (ha : PA X (e :: es) t) (hk : j ≤ k := by decide)
    (hdb : (x == ("__debug__" : Str)) = false := by decide) (he : starEach (e :: es) X.env = (false, eval e X.env) :: starEach es X.env := by rfl) (hpl : (backTo pos (starEach es X.env)).any (·.1) = false := by rfl) :
    PE X (.Call (.Name x p) (e :: es) [] pos) (tCall sp [] E0 t) := by
  obtain ⟨f, fd, F, hm, kp, b⟩ := D.ex
  exact pe_call F (hr.mono hk) hg hm kp b .nil pass_e0 ha hdb he hpl
variable {j k : Nat} {C0 : Addr} {ps : List Str} {sp : Sp} {fx cx : Str} {p cpos epos np hpos pos : Pos} {e : Expr} {es : List Expr} {ta : TA} {b0 : Stmt} {suite : List Stmt} {ts : Addr → TS}
end
/-! ### isinstance of an exception that is held -/
theorem Lk.of {M : Model} {h : Heap} {α : Type} {m : Sem α} {v : α} (l : PySem.W.Looks M h m v) : Lk M h m v := fun A E g d t os Q q => l A Q E ⟨h, g, d, t, os⟩ (fun _ _ e => e) q
/-- what the written part tells of an exception's class -/
structure XK0 (K : PySem.W.Frag) (C : Addr) : Prop where
  ga : PySem.W.findIn K (.ref C) "__getattribute__" = some (some (.builtin "BaseException.__getattribute__"))
  gat : PySem.W.findIn K (.ref C) "__getattr__" = some none
  cls : PySem.W.findIn K (.ref C) "__class__" = some (some (.builtin "object.__class__"))
  obj : PySem.W.mroIn K C (.type "object") = some true
  exc : PySem.W.mroIn K C (.type "BaseException") = some true
theorem XK0.lk {prog : Program} {w : World} {K : PySem.W.Frag} {C : Addr} {h : Heap} (x : XK0 K C) (KX : K.In h) : XLk prog w h C :=
  ⟨.of (PySem.W.looks_findIn KX x.ga), .of (PySem.W.looks_findIn KX x.gat), .of (PySem.W.looks_findIn KX x.cls), .of (PySem.W.looks_mroIn KX x.obj), .of (PySem.W.looks_mroIn KX x.exc)⟩
def clsV : V → Value
  | .ty n => .type n
  | .ref a => .ref a
  | _ => .none
section
variable {X : Cx}
end
end Stow

namespace Stow
open PySem L2 PyProof.Rows
open PySem.W in
theorem refuse_base (self : Value) : refuseLoop self "__setattr__" [.type "ValueError", .type "Exception", .type "BaseException", .type "object"] = pure () := by kernel_rfl
def excTail : List Value → Bool
  | .ref _ :: r => excTail r
  | l => l == [.type "ValueError", .type "Exception", .type "BaseException", .type "object"]
open PySem.W in
theorem refuse_tail (self : Value) : ∀ {l : List Value}, excTail l = true → refuseLoop self "__setattr__" l = pure ()
  | .ref c :: r, e => by rw [refuseLoop_ref]; exact refuse_tail self e
  | [], e => by cases e
  | .none :: r, e => by cases e
  | .type n :: r, e => by
    have e' : (Value.type n :: r) = [.type "ValueError", .type "Exception", .type "BaseException", .type "object"] := beq_iff_eq.mp e
    rw [e']
    exact refuse_base self
  | .ellipsis :: r, e => by cases e
  | .notImplemented :: r, e => by cases e
  | .bool b :: r, e => by cases e
  | .int i t :: r, e => by cases e
  | .float i t :: r, e => by cases e
  | .str i t :: r, e => by cases e
  | .bytes i t :: r, e => by cases e
  | .builtin i :: r, e => by cases e
section
variable {prog : Program} {w : World} {A : Around} {K : PySem.W.Frag} {x C : Addr} {s : Shared}
open PySem.W in
theorem set_exc0 {E : Value → Shared → Prop} {ox : Obj} {vs : Array Value} {name : Str} {v : Value} {cd : ClassData} {Q : Unit → Shared → Prop} (X : K.In s.heap) (hx : s.heap.get? x = some ox) (hcl : ox.cls = .ref C) (hdi : ox.dict = none) (hda : ox.data = .fields vs)
    (hs : findIn K (.ref C) "__setattr__" = some (some (.builtin "object.__setattr__"))) (hc : clsIn K C = some cd) (ho : excTail cd.mro = true) (hm : mroIn K C (.type "object") = some true) (hd : cd.hasDict = true) (ht : findIn K (.ref C) name = some none)
    (h : ∀ h' dx, s.heap.get? dx = none → dx ≠ x → h'.get? x = some { ox with dict := some dx } → h'.Ns1 dx (fun y => if y = name then some v else none) → (∀ b o, b ≠ x → s.heap.get? b = some o → h'.get? b = some o) → Q () { s with heap := h', toks := s.toks + 2 }) :
    wpAny (model prog w) A (setAttr (.ref x) name v) Q E s := by
  have I : InstAt s.heap x ox C none := ⟨hx, hcl, by unfold notCls; rw [hda], by rw [hdi]; trivial⟩
  refine set_plain X I hs ?_
  have SF := PySem.F.store_object
  have sub : Looks (model prog w) s.heap (isInstance (.ref x) (.type "object")) true := I.type.andThen (looks_mroIn X hm)
  refine codeAny_call_builtin SF.slot.plain SF.entry (@check_slot (model prog w) _ _ { s with toks := s.toks + 1 } "object.__setattr__" "object" "__setattr__" (.ref x) [.str name s.toks, v] [] _ SF.kind SF.split sub (SF.args (.ref x) (.str name s.toks) v) ?_)
  have mro : Looks (model prog w) s.heap (mroOf (.ref C)) cd.mro := (looks_clsIn X hc).andThen .now
  rw [osa_eq, refuse_eq]
  refine wpAny_bind (wpAny_bind (Looks.here (s := { s with toks := s.toks + 1 }) I.type (wpAny_bind (Looks.here (s := { s with toks := s.toks + 1 }) mro ?_))))
  rw [refuse_tail _ ho]
  refine wpAny_pure (wpAny_bind (Looks.here (s := { s with toks := s.toks + 1 }) I.type (wpAny_bind (Looks.here (s := { s with toks := s.toks + 1 }) (looks_findIn X ht) (wpAny_bind (wpAny_pure ?_))))))
  show wpAny _ _ (Builtin.ObjectAttr.storeInOwnDict (.ref x) (.ref C) _ name v _) _ _ _
  unfold Builtin.ObjectAttr.storeInOwnDict
  obtain ⟨c0, d0, dt0, sl0⟩ := ox
  dsimp only at hcl hdi hda
  subst hcl hdi hda
  refine wpAny_bind (wpAny_pure (wpAny_bind (wpAny_bind (wpAny_loadPart hx (wpAny_bind (Looks.here (s := { s with toks := s.toks + 1 }) (looks_clsIn X hc) ?_))))))
  rw [hd]
  show wpAny (model prog w) A.in1 (do
    let d ← alloc { cls := Value.type "dict", data := Data.dict #[] }
    update x fun o => { o with dict := some d }
    dictMade (.ref C) x d) _ _ _
  refine wpAny_bind (wpAny_alloc ?_)
  refine wpAny_bind (wpAny_update (Heap.get?_push_of_some _ hx) ?_)
  refine wpAny_pure (a := some s.heap.objs.size) (wpAny_bind (wpAny_pure (wpAny_bind ?_)))
  have ne : s.heap.objs.size ≠ x := Nat.ne_of_gt (Heap.lt_size hx)
  have n0 : ((s.heap.push { cls := .type "dict", data := .dict #[] }).update x fun o => { o with dict := some s.heap.objs.size }).Ns1 s.heap.objs.size (fun _ => none) := by
    have e1 : (s.heap.push { cls := .type "dict", data := .dict #[] }).get? s.heap.objs.size = some { cls := .type "dict", data := .dict #[] } := Heap.get?_push_size s.heap rfl
    have e3 : (s.heap.push { cls := .type "dict", data := .dict #[] }).Ns s.heap.objs.size (fun _ => none) := ⟨_, #[], _, e1, rfl, (fun e he => absurd he (by simp)), fun _ => rfl⟩
    exact (Heap.Ns1.of_empty e3).at fun o q => by rw [Heap.get?_update_other _ _ (fun z => ne z.symm)]; exact q
  refine wpAny_nsSet1 n0 fun h' hn2 hs2 => ?_
  obtain ⟨oD, esD, epD, hoD, hdD, hcD⟩ := hn2.count (PySem.Within.cons name v (ns := []) (fun y hy => absurd rfl hy))
  refine wpAny_bind (wpAny_lookBehind hoD (by rw [hdD]; exact pastItsLine_dict (Nat.le_trans hcD (by show 1 ≤ sizeLine + 1; exact Nat.le_add_left 1 _))) ?_)
  refine wpAny_pure (h _ s.heap.objs.size (Heap.get?_none_of_le (Nat.le_refl _)) ne ?_ hn2 fun b o nb q => ?_)
  · rw [hs2.2 x (fun z => ne z.symm)]
    exact Heap.get?_update_self _ (Heap.get?_push_of_some _ hx) rfl
  · rw [hs2.2 b (Nat.ne_of_lt (Heap.lt_size q))]
    show ((s.heap.push _).update x _).get? b = some o
    rw [Heap.get?_update_other _ _ (fun z => nb z.symm)]
    exact Heap.get?_push_of_some _ q
end
end Stow
namespace Stow
open PySem
open Sem (wp)
section
variable {prog : Program} {w : World} {A : Around} {E : Value → Shared → Prop} {h : Heap} {g : Array GenState} {d : Drawn} {t : Nat} {os : OsState} {a C : Addr} {o : Obj} {name : Str} {v : Value}
end
end Stow

namespace Stow
open PySem L2 PyProof.Rows
/-! ### an exception with a field -/
/-- what the written part tells of a class whose objects take the field f -/
structure XSet (K : PySem.W.Frag) (C : Addr) (f : Str) : Prop where
  sa : PySem.W.findIn K (.ref C) "__setattr__" = some (some (.builtin "object.__setattr__"))
  cd : ∃ cd, PySem.W.clsIn K C = some cd ∧ excTail cd.mro = true ∧ cd.hasDict = true
  ob : PySem.W.mroIn K C (.type "object") = some true
  no : PySem.W.findIn K (.ref C) f = some none
/-- an exception that was made and not raised yet -/
def ExcN (x C : Addr) (od : Option Addr) : HO := .ext fun h => ∃ tt, h.get? x = some { cls := .ref C, dict := od, data := .fields #[.ref tt, .none, .none, .none, .bool false, .none] }
def sFldX (K : PySem.W.Frag) (ta tv : TE) (f : Str) : TS := fun D σ H => tv σ H fun y H1 => ta σ H1 fun x H2 => ∃ a C, x = .ref a ∧ H2 a = some (ExcN a C none) ∧ XSet K C f ∧ ∀ dx, H2 dx = none → D.nx σ (upd (upd H2 dx (.xd [(f, y)])) a (ExcN a C (some dx)))
def tFldX (K : PySem.W.Frag) (ta : TE) (f : Str) : TE := fun σ H Q => ta σ H fun x H1 => ∃ a C dx fs v, x = .ref a ∧ H1 a = some (ExcO a C (some dx)) ∧ H1 dx = some (.xd fs) ∧ XK0 K C ∧ XSet K C f ∧ fs.lookup f = some v ∧ Q v H1
section
variable {X : Cx} {o e value : Expr} {f : Str} {pos pos' : Pos} {ta tv : TE}
theorem ps_fldX (ha : PE X o ta) (hv : PE X value tv) (hs : swapsWith value (some (.Attribute o f pos')) pos.line X.env = pure false := by rfl) : PS X (.Assign [.Attribute o f pos'] value pos) (sFldX X.K ta tv f) := by
  intro pins s σ H D I h
  refine plainObj_wpAny_Assign_Attribute (thn (hv pins s σ H _ I h) fun u s1 ⟨y, H1, I1, ry, q⟩ => thn (ha pins s1 σ H1 _ I1 q) fun ov s2 ⟨x, H2, I2, rx, a, C, ex, ea, Z, q2⟩ => ?_) hs
  subst ex
  obtain rfl : ov = Value.ref a := rx
  obtain ⟨⟨tt, ee⟩, _⟩ := I2.hok a _ ea
  obtain ⟨cd, hcd, ht, hdi⟩ := Z.cd
  refine set_exc0 I2.kIn ee rfl rfl rfl Z.sa hcd ht Z.ob hdi Z.no fun h' dx nd ne e' n' kp => ?_
  have ud : H2 dx = none := hok_none I2.hok nd
  have nda : a ≠ dx := fun z => ne z.symm
  refine ⟨σ, _, ?_, q2 dx ud⟩
  -- the dict is laid, the exception bears it
  have un : Un X.fs [] H2 (upd (upd H2 dx (.xd [(f, y)])) a (ExcN a C (some dx))) s2.heap h' := by
    refine ⟨fun b ob qb n _ _ => kp b ob (fun z => by rw [z, ea] at n; cases n) qb, fun b ob qb n _ _ => ⟨ob.slots, kp b ob (fun z => by rw [z, ea] at n; cases n) qb⟩, fun b ob qb n _ => ?_, fun b ob qb _ => ?_, fun b xs qb => ?_, fun b ob v' qb => ?_, fun b ps qb => ?_⟩
    · rw [upd_ne (fun z => by rw [z, ea] at n; cases n), upd_ne (fun z => by rw [z, nd] at qb; cases qb)]
      exact n
    · by_cases z : b = a
      · subst z
        exact ⟨_, e'⟩
      · exact ⟨ob, kp b ob z qb⟩
    · rw [upd_ne (fun z => by rw [z, ea] at qb; cases qb), upd_ne (ne_of_none qb ud)]
      exact qb
    · rw [upd_ne (fun z => by rw [z, ea] at qb; cases qb), upd_ne (ne_of_none qb ud)]
      exact qb
    · exact ⟨#[], by rw [upd_ne (fun z => by rw [z, ea] at qb; cases qb), upd_ne (ne_of_none qb ud), qb]; simp⟩
  have hok : HOk X.prog X.w (upd (upd H2 dx (.xd [(f, y)])) a (ExcN a C (some dx))) h' := fun b v' qb => by
    by_cases z : b = a
    · subst z
      rw [upd_same] at qb
      cases qb
      exact ⟨⟨tt, e'⟩, ⟨_, e'⟩, fun h1 h2 ⟨t1, q1⟩ k => ⟨t1, k _ q1⟩⟩
    · rw [upd_ne z] at qb
      by_cases z2 : b = dx
      · subst z2
        rw [upd_same] at qb
        cases qb
        refine ⟨_, n', fun g => ?_⟩
        show RelO (List.lookup g [(f, y)]) (if g = f then some u else none)
        by_cases zg : g = f
        · subst zg
          rw [if_pos rfl, List.lookup_cons_self]
          exact ry
        · rw [if_neg zg, List.lookup_cons, show (g == f) = false from beq_false_of_ne zg]
          trivial
      · rw [upd_ne z2] at qb
        refine (I2.hok b v' qb).stay (fun c w' hcw q => kp c w' (fun y' => ?_) q) (fun c q => ?_) fun c xs q => ?_
        · subst y'
          rcases hcw with r | r
          · exact z r.symm
          · rw [ea] at r
            cases r
        · rw [upd_ne (fun z => by rw [z, ea] at q; cases q), upd_ne (ne_of_none q ud)]
          exact q
        · rw [upd_ne (fun z => by rw [z, ea] at q; cases q), upd_ne (ne_of_none q ud)]
          exact q
  exact I2.un un hok
end
end Stow

namespace Stow
open PySem
open Sem (wp)
section
variable {prog : Program} {w : World} {A : Around} {E : Value → Shared → Prop} {h : Heap} {g : Array GenState} {d : Drawn} {t : Nat} {os : OsState}
variable {nm q : Str} {C N : Addr} {bs bm bmB : List Value} {hdct : Bool} {sn : List Str} {sub : List Value} {ab : Bool} {col : Option Bool} {dd : Option Addr} {k0 k1 k2 k3 k5 : Option Value} {B newId initId : String}
theorem make_exc1 (FB : ExcBaseFacts B newId initId bmB) (TL : OwnTail h bmB bm) {args : List Value} {fI : Addr} {oI : Obj} {Q : Fin → Shared → Prop} (hC : h.get? C = some (excClassObj nm q C N bs bm hdct sn sub ab col dd k0 k1 k2 k3 k5 newId))
    (LI : PySem.W.Looks (model prog w) h (typeLookup (.ref C) "__init__") (some (.ref fI))) (hfI : h.get? fI = some oI) (hfc : oI.cls = .type "function")
    (k : ∀ h' e, Heap.MadeExcOf h h' e (.ref C) args → wpAny (model prog w) A (call (.ref fI) (.ref e :: args)) (fun r s' => r = .none ∧ Q (.done (.ret (.ref e))) s') E ⟨h', g, d, t, os⟩) (hz : args.length ≤ sizeLine) :
    wpAny (model prog w) A (Builtin.«type.__call__» ⟨.ref C :: args, []⟩) Q E ⟨h, g, d, t, os⟩ := by
  repeat (first
    | with_reducible refine wpAny_loadPart_at hC ?_
    | with_reducible refine wpAny_madeBy_exc hC ?_
    | wp_step)
  refine codeAny_call_builtin_code (Code.quiet_builtin _ FB.quiet) (wpAny_check_new_subT FB TL hC (codeAny_exc_new_subT FB TL hC ?_ hz))
  show wpAny _ _ _ _ _ _
  have kp : ∀ b o, h.get? b = some o → ((h.push { cls := .type "tuple", data := .seq args.toArray }).push { cls := .ref C, data := .fields #[.ref h.objs.size, .none, .none, .none, .bool false, .none] }).get? b = some o :=
    fun b o z => Heap.get?_push_of_some _ (Heap.get?_push_of_some _ z)
  have gC := kp _ _ hC
  have gE : ((h.push { cls := .type "tuple", data := .seq args.toArray }).push { cls := .ref C, data := .fields #[.ref h.objs.size, .none, .none, .none, .bool false, .none] }).get? (h.objs.size + 1)
      = some { cls := .ref C, data := .fields #[.ref h.objs.size, .none, .none, .none, .bool false, .none] } := by heap_get
  have cC : (Value.ref C :: bm).contains (.ref C) = true := by simp
  unfold isInstance
  repeat (first
    | with_reducible refine wpAny_loadPart_at gE ?_
    | (with_reducible refine wpAny_isSubtype_exc gC ?_; rw [cC])
    | wp_step)
  show wpAny _ _ (typeLookup (.ref C) _) _ _ _
  refine LI _ _ _ _ kp ?_
  refine wpAny_holding (wpAny_bind ?_)
  unfold bindSpecial
  refine wpAny_bind (wpAny_typeOf (T := "function") ⟨_, kp _ _ hfI, hfc⟩ ?_)
  rw [if_pos (by decide)]
  refine wpAny_pure (wpAny_bind (wpAny_mono (k _ (h.objs.size + 1) ⟨kp, Heap.get?_none_of_le (Nat.le_succ _), h.objs.size, gE, Heap.get?_none_of_le (Nat.le_refl _), ?_⟩) (fun r s' hr => ?_) fun _ _ z => z))
  · exact Heap.get?_push_of_some _ (Heap.get?_push_at rfl rfl)
  · obtain ⟨rfl, z⟩ := hr
    wp_walk
    exact z
theorem make_exc2 (FB : ExcBaseFacts B newId initId bmB) (TL : OwnTail h bmB bm) {args : List Value} {fI : Addr} {oI : Obj} {Q : Value → Shared → Prop} (hC : h.get? C = some (excClassObj nm q C N bs bm hdct sn sub ab col dd k0 k1 k2 k3 k5 newId))
    (LI : PySem.W.Looks (model prog w) h (typeLookup (.ref C) "__init__") (some (.ref fI))) (hfI : h.get? fI = some oI) (hfc : oI.cls = .type "function")
    (k : ∀ h' e, Heap.MadeExcOf h h' e (.ref C) args → wpAny (model prog w) (A.under (.builtin "type.__call__" ⟨.ref C :: args, []⟩)) (call (.ref fI) (.ref e :: args)) (fun r s' => r = .none ∧ Q (.ref e) s') E ⟨h', g, d, t, os⟩) (hz : args.length ≤ sizeLine) :
    wpAny (model prog w) A (call (.ref C) args) Q E ⟨h, g, d, t, os⟩ := by
  have y1 := tc_lookup
  have y2 := tc_bind (.ref C)
  have y3 : (⟨h, g, d, t, os⟩ : Shared).TypeIs (.ref C) "type" := ⟨_, hC, rfl⟩
  refine wpAny_call (codeAny_of_tree ?_)
  show wpAny _ _ (callAny (.ref C) _) _ _ _
  repeat (any_goals (first
    | assumption
    | with_reducible refine wpAny_loadPart_at hC ?_
    | wp_step))
  refine ⟨rfl, codeAny_call_builtin_at (Code.quiet_builtin _ (by decide +kernel)) entry_typeCall (wpAny_check_type_call_sub hC (make_exc1 FB TL hC LI hfI hfc (fun h' e hm => ?_) hz))⟩
  exact k h' e hm
/-- raise of an exception that stands -/
theorem raise_exc {M : Model} {env : Env} {s : Shared} {x : Sem Value} {Q : Flow → Shared → Prop} (hbase : bm.contains (.type "BaseException") = true) (hh : A.handled = none)
    (k : wpAny M A x (fun v s1 => ∃ e od tt, v = .ref e ∧ s1.heap.get? C = some (excClassObj nm q C N bs bm hdct sn sub ab col dd k0 k1 k2 k3 k5 newId) ∧ s1.heap.get? e = some { cls := .ref C, dict := od, data := .fields #[.ref tt, .none, .none, .none, .bool false, .none] } ∧ E (.ref e) s1) E s) :
    wpAny M A (raiseStmt env (some x) none) Q E s := by
  have cB : (Value.ref C :: bm).contains (.type "BaseException") = true := by rw [List.contains_cons, hbase, Bool.or_true]
  unfold raiseStmt
  refine wpAny_bind (wpAny_mono k (fun v s1 k1 => ?_) fun _ _ z => z)
  obtain ⟨e, od, tt, rfl, hC, he, z⟩ := k1
  obtain ⟨hp, gg, d1, tk, os1⟩ := s1
  repeat (first
    | with_reducible refine wpAny_loadPart_at he ?_
    | with_reducible refine wpAny_loadPart_at hC ?_
    | (with_reducible refine wpAny_isSubtype_exc hC ?_; rw [cB])
    | wp_step)
  exact wpAny_raiseNew_none hh z
end
end Stow

namespace Stow
open PySem L2 PyProof.Rows
/-! ### raise C(e), the class at C with an __init__ of its own -/
/-- what the written part tells of such a class, right under the own class at C0 -/
structure XIni (K : PySem.W.Frag) (mg : Str → Option Value) (x : Str) (C C0 fI : Addr) : Prop where
  bound : mg x = some (.ref C)
  lk : ∃ (nm qn : Str) (N : Addr) (bs : List Value) (hd : Bool) (sn : List Str) (sub : List Value) (ab : Bool) (col : Option Bool) (dd : Option Addr) (k0 k1 k2 k3 k5 : Option Value),
    K.lookup C = some (excClassObj nm qn C N bs (.ref C0 :: [.type "ValueError", .type "Exception", .type "BaseException", .type "object"]) hd sn sub ab col dd k0 k1 k2 k3 k5 "ValueError.__new__")
  base : PySem.W.excIn K C0 [.type "ValueError", .type "Exception", .type "BaseException", .type "object"] "ValueError.__new__" = true
  ini : PySem.W.findIn K (.ref C) "__init__" = some (some (.ref fI))
  keep : PySem.W.keepIn K (.ref C) = true
  fn : ∃ (c : Value) (dd : Option Addr) (da : Data) (sl : Array (Option Value)), K.lookup fI = some ⟨c, dd, da, sl⟩ ∧ c = .type "function"
/-- x is not tracked any more -/
def del (H : Hp) (x : Addr) : Hp := fun b => if b = x then none else H b
theorem del_same {H : Hp} {x : Addr} : del H x x = none := by unfold del; rw [if_pos rfl]
theorem del_ne {H : Hp} {x b : Addr} (h : b ≠ x) : del H x b = H b := by unfold del; rw [if_neg h]
theorem inv_del {X : Cx} {pins : List (Addr × Obj)} {σ : L2.St} {H : Hp} {s : Shared} {x : Addr} {φ : Heap → Prop} (I : Inv X pins σ H s) (e : H x = some (.ext φ)) : Inv X pins σ (del H x) s := by
  have nx : ∀ b v, H b = some v → v ≠ .ext φ → b ≠ x := fun b v q n z => by
    subst z
    rw [e] at q
    exact n (Option.some.inj q).symm
  have un : Un X.fs [] H (del H x) s.heap s.heap := by
    refine ⟨fun b o q _ _ _ => q, fun b o q _ _ _ => ⟨o.slots, q⟩, fun b o q n _ => ?_, fun b o q _ => ⟨o, q⟩, fun b xs q => ?_, fun b o v q => ?_, fun b ps q => ⟨#[], ?_⟩⟩
    · by_cases z : b = x
      · rw [z]
        exact del_same
      · rw [del_ne z]
        exact n
    · rw [del_ne (nx b _ q (by intro z; cases z))]
      exact q
    · rw [del_ne (nx b _ q (by intro z; cases z))]
      exact q
    · rw [del_ne (nx b _ q (by intro z; cases z)), q]
      simp
  have hok : HOk X.prog X.w (del H x) s.heap := fun b v q => by
    by_cases z : b = x
    · rw [z, del_same] at q
      cases q
    · rw [del_ne z] at q
      refine (I.hok b v q).stay (fun _ _ _ z => z) (fun c q' => ?_) fun c xs q' => ?_
      · rw [del_ne (nx c _ q' (by intro z; cases z))]
        exact q'
      · rw [del_ne (nx c _ q' (by intro z; cases z))]
        exact q'
  exact I.un (h' := s.heap) (t' := s.toks) un hok
theorem inv_new {X : Cx} {pins : List (Addr × Obj)} {σ : L2.St} {H : Hp} {s : Shared} {h' : Heap} {x C tt : Addr} (I : Inv X pins σ H s) (nx : s.heap.get? x = none) (kp : ∀ b o, s.heap.get? b = some o → h'.get? b = some o)
    (e : h'.get? x = some { cls := .ref C, data := .fields #[.ref tt, .none, .none, .none, .bool false, .none] }) : Inv X pins σ (upd H x (ExcN x C none)) { s with heap := h' } := by
  have ux : H x = none := hok_none I.hok nx
  have un : Un X.fs [] H (upd H x (ExcN x C none)) s.heap h' := by
    refine ⟨fun b o q _ _ _ => kp b o q, fun b o q _ _ _ => ⟨o.slots, kp b o q⟩, fun b o q n _ => ?_, fun b o q _ => ⟨o, kp b o q⟩, fun b xs q => ?_, fun b o v q => ?_, fun b ps q => ⟨#[], ?_⟩⟩
    · rw [upd_ne (fun z => by rw [z, nx] at q; cases q)]
      exact n
    · rw [upd_ne (ne_of_none q ux)]
      exact q
    · rw [upd_ne (ne_of_none q ux)]
      exact q
    · rw [upd_ne (ne_of_none q ux), q]
      simp
  have hok : HOk X.prog X.w (upd H x (ExcN x C none)) h' := fun b v q => by
    by_cases z : b = x
    · subst z
      rw [upd_same] at q
      cases q
      exact ⟨⟨tt, e⟩, ⟨_, e⟩, fun h1 h2 ⟨t1, q1⟩ k => ⟨t1, k _ q1⟩⟩
    · rw [upd_ne z] at q
      refine (I.hok b v q).stay (fun c w' _ q' => kp c w' q') (fun c q' => ?_) fun c xs q' => ?_
      · rw [upd_ne (ne_of_none q' ux)]
        exact q'
      · rw [upd_ne (ne_of_none q' ux)]
        exact q'
  exact I.un (t' := s.toks) un hok
/-- C(e, ..) of a class with an __init__ of its own -/
theorem run_excI {X : Cx} {x : Str} {C C0 fI : Addr} {fd : FuncData} {ps : List Str} {sp : Sp} {j : Nat} {pins : List (Addr × Obj)} {σ : L2.St} {H : Hp} {s : Shared} {Q : VK} {us : List Value} {vs : List V} (XI : XIni X.K X.mg x C C0 fI) (F : FnOk X.prog X.w X.K X.mg X.base (CXe X.prog X.w) j fI fd ps sp)
    (hr : Room (j + 1) X.A) (hb : Binds X.K fd ps []) (I : Inv X pins σ H s) (r : Vals vs us) (hz : vs.length ≤ 1000) (h : ∀ y, H y = none → sp (.ref y :: vs) (upd H y (ExcN y C none)) (fun v H2 => v = .non ∧ Q (.ref y) H2) E0) :
    wpAny (model X.prog X.w) X.A (call (.ref C) us) (fun u s' => EP X pins σ Q u s' ∧ ∃ y, u = .ref y ∧ s.heap.get? y = none) X.xe s := by
  obtain ⟨nm, qn, NN, bs, hd, sn, sub, ab, col, dd, k0, k1, k2, k3, k5, lkC⟩ := XI.lk
  obtain ⟨bm, N0, nm0, qn0, bs0, hd0, sn0, sub0, ab0, col0, dd0, j0, j1, j2, j3, j5, mN0, hC0, hN0, noI, tl, _⟩ := exc_cls I.kIn XI.base
  have FB := PySem.F.excBase_ValueError
  have TL : OwnTail s.heap [.type "ValueError", .type "Exception", .type "BaseException", .type "object"] (.ref C0 :: [.type "ValueError", .type "Exception", .type "BaseException", .type "object"]) := .own hC0 hN0 noI .base
  obtain ⟨cI, dI, daI, slI, lkI, ecI⟩ := XI.fn
  have gC := I.kIn _ _ lkC
  have gI := I.kIn _ _ lkI
  have LI := PySem.W.looks_findIn (M := model X.prog X.w) I.kIn XI.ini
  obtain ⟨hp, gg, d1, tk, os1⟩ := s
  refine make_exc2 FB TL gC LI gI ecI (fun h' y hm => ?_) (by rw [← r.length]; exact Nat.le_of_lt (small1000 hz))
  obtain ⟨tt, ey, _, _⟩ := hm.there
  have I2 := inv_new I hm.new hm.keeps ey
  have uy : H y = none := hok_none I.hok hm.new
  have hq := h y uy
  have r2 : Vals (V.ref y :: vs) (Value.ref y :: us) := .cons rfl r
  have hl : ((Value.ref y :: us) ++ []).length = ps.length := by
    rw [List.append_nil, ← F.len _ _ _ _ hq]
    exact r2.length.symm
  have bd := hb _ (Value.ref y :: us) I2.kIn hl
  rw [List.append_nil] at bd
  refine wpAny_call (codeAny_mono (F.run _ X.stack _ _ ⟨Value.ref y :: us, []⟩ (Value.ref y :: us) _ _ E0 (hr.make C us []) (I2.env0.make C us []) bd r2 hq) fun rs s' hq' => ?_)
  cases rs with
  | error e => obtain ⟨_, _, _, _, _, _, _, _, _, _, _, _, _, _, _, z⟩ := hq'; exact z.elim
  | ok fl =>
    cases fl with
    | ret u =>
      obtain ⟨v, H', I3, rv, ev, q3⟩ := I2.after hq'
      subst ev
      exact ⟨rv, ⟨V.ref y, H', I3, rfl, q3⟩, y, rfl, hm.new⟩
    | next => exact False.elim hq'
    | brk => exact False.elim hq'
    | cont => exact False.elim hq'
/-- raise C(e, ..) with the promise sp of its __init__ -/
def tRaiseI (C : Addr) (sp : Sp) (E : XK) (t : TA) : TS := fun _ σ H => t σ H fun vs H1 => vs.length ≤ 1000 ∧ ∀ y, H1 y = none → sp (.ref y :: vs) (upd H1 y (ExcN y C none)) (fun v H2 => v = .non ∧ ∃ z, V.ref y = V.ref z ∧ ∃ od, H2 z = some (ExcN z C od) ∧ E (.ref C) od (del H2 z)) E0
section
variable {P : Program} {w : World} {K : PySem.W.Frag} {mg : Str → Option Value} {base : Heap} {N : List Str} {qual : Str} {scope : Scope} {f : Addr} {cd : Value} {A : Around} {outer : List Env} {s₀ : Shared} {H₀ : Hp} {EX : XK}
theorem ps_raiseI {x : Str} {C C0 fI : Addr} {fd : FuncData} {ps : List Str} {sp : Sp} {j k : Nat} {np cpos pos : Pos} {e : Expr} {es : List Expr} {t : TA} (XI : XIni K mg x C C0 fI) (F : FnOk P w K mg base (CXe P w) j fI fd ps sp) (hb : Binds K fd ps [])
    (hr : Room k (cxOf (CXe P w) P w K mg base N qual scope f cd A outer s₀ H₀ EX).A)
    (hg : Gl (cxOf (CXe P w) P w K mg base N qual scope f cd A outer s₀ H₀ EX) x) (ha : PA (cxOf (CXe P w) P w K mg base N qual scope f cd A outer s₀ H₀ EX) (e :: es) t) (hj : j + 1 ≤ k := by decide)
    (hdb : (x == ("__debug__" : Str)) = false := by decide) (he : starEach (e :: es) (cxOf (CXe P w) P w K mg base N qual scope f cd A outer s₀ H₀ EX).env = (false, eval e (cxOf (CXe P w) P w K mg base N qual scope f cd A outer s₀ H₀ EX).env) :: starEach es (cxOf (CXe P w) P w K mg base N qual scope f cd A outer s₀ H₀ EX).env := by rfl)
    (hpl : (backTo cpos (starEach es (cxOf (CXe P w) P w K mg base N qual scope f cd A outer s₀ H₀ EX).env)).any (·.1) = false := by rfl) :
    PS (cxOf (CXe P w) P w K mg base N qual scope f cd A outer s₀ H₀ EX) (.Raise (some (.Call (.Name x np) (e :: es) [] cpos)) none pos) (tRaiseI C sp EX t) := by
  intro pins s σ H D I h
  obtain ⟨nm, qn, NN, bs, hd, sn, sub, ab, col, dd, k0, k1, k2, k3, k5, lkC⟩ := id XI.lk
  have hB : (Value.ref C0 :: [.type "ValueError", .type "Exception", .type "BaseException", .type "object"] : List Value).contains (.type "BaseException") = true := by
    rw [List.contains_cons, PySem.F.excBase_ValueError.hasBase, Bool.or_true]
  rw [arm_exec_Raise]
  refine wpAny_bind (wpAny_standAt (raise_exc (C := C) (nm := nm) (q := qn) (N := NN) (bs := bs) (bm := .ref C0 :: [.type "ValueError", .type "Exception", .type "BaseException", .type "object"]) (hdct := hd) (sn := sn) (sub := sub) (ab := ab) (col := col) (dd := dd) (k0 := k0) (k1 := k1) (k2 := k2) (k3 := k3) (k5 := k5) (newId := "ValueError.__new__") hB hr.hd ?_))
  refine wpAny_bind (wpAny_mono ?_ (fun v s1 hv => wpAny_bind (wpAny_standAt (wpAny_pure hv))) (fun _ _ z => z))
  refine wpAny_Call_Name_kw (ld_glob I hg XI.bound ?_ hdb)
  refine PySem.W.callWith_K (h₀ := base) I.ok.mod.kin XI.keep (thn (ha cpos pins s σ H _ I h) fun us s1 ⟨vs, H1, I1, r, hz, q⟩ => ⟨I1.kIn, ?_⟩) he hpl
  refine thn (run_excI XI F (hr.mono hj) hb I1 r hz (Q := fun u H2 => ∃ z, u = .ref z ∧ ∃ od, H2 z = some (ExcN z C od) ∧ EX (.ref C) od (del H2 z)) (fun y hy => q y hy)) fun u s2 ⟨⟨v, H2, I2, rv, y, ev, od, ey, qe⟩, y', eu, ny⟩ => ?_
  · subst ev
    obtain rfl : u = Value.ref y := rv
    cases eu
    obtain ⟨⟨tt, g1⟩, _⟩ := I2.hok y _ ey
    refine ⟨y, od, tt, rfl, I2.kIn _ _ lkC, g1, ?_⟩
    exact xe_made (inv_del I2 ey) ⟨_, _, g1, rfl, rfl, rfl, rfl⟩ (un_new (show Un (frs outer) [] H₀ H1 s₀.heap s1.heap from I1.base) ny) del_same qe
end
end Stow

set_option Elab.async false
set_option linter.all false
set_option maxRecDepth 100000
set_option maxHeartbeats 4000000
namespace Stow
open PySem L2 PyProof.Rows
/-! ### raising classes with an __init__, by their names; readings of tries and raises -/
structure DefI (P : Program) (w : World) (K : PySem.W.Frag) (mg : Str → Option Value) (base : Heap) (x : Str) (C C0 : Addr) (j : Nat) (ps : List Str) (sp : Sp) : Prop where
  ex : ∃ (fI : Addr) (fd : FuncData), XIni K mg x C C0 fI ∧ FnOk P w K mg base (CXe P w) j fI fd ps sp ∧ Binds K fd ps []
/-- what the __init__ that keeps one field promises -/
def spInit (C : Addr) (f : Str) : Sp := fun vs H Q _ => ∃ (y : Addr) (v : V), vs = [.ref y, v] ∧ H y = some (ExcN y C none) ∧ ∀ dx, H dx = none → Q .non (upd (upd H dx (.xd [(f, v)])) y (ExcN y C (some dx)))
section
variable {P : Program} {w : World} {K : PySem.W.Frag} {mg : Str → Option Value} {base : Heap} {N : List Str} {qual : Str} {scope : Scope} {f : Addr} {cd : Value} {A : Around} {outer : List Env} {s₀ : Shared} {H₀ : Hp} {EX : XK}
theorem ps_raiseD {x : Str} {C C0 : Addr} {ps : List Str} {sp : Sp} {j k : Nat} {np cpos pos : Pos} {e : Expr} {es : List Expr} {t : TA} (D : DefI P w K mg base x C C0 j ps sp)
    (hr : Room k (cxOf (CXe P w) P w K mg base N qual scope f cd A outer s₀ H₀ EX).A)
    (hg : Gl (cxOf (CXe P w) P w K mg base N qual scope f cd A outer s₀ H₀ EX) x) (ha : PA (cxOf (CXe P w) P w K mg base N qual scope f cd A outer s₀ H₀ EX) (e :: es) t) (hj : j + 1 ≤ k := by decide)
    (hdb : (x == ("__debug__" : Str)) = false := by decide) (he : starEach (e :: es) (cxOf (CXe P w) P w K mg base N qual scope f cd A outer s₀ H₀ EX).env = (false, eval e (cxOf (CXe P w) P w K mg base N qual scope f cd A outer s₀ H₀ EX).env) :: starEach es (cxOf (CXe P w) P w K mg base N qual scope f cd A outer s₀ H₀ EX).env := by rfl)
    (hpl : (backTo cpos (starEach es (cxOf (CXe P w) P w K mg base N qual scope f cd A outer s₀ H₀ EX).env)).any (·.1) = false := by rfl) :
    PS (cxOf (CXe P w) P w K mg base N qual scope f cd A outer s₀ H₀ EX) (.Raise (some (.Call (.Name x np) (e :: es) [] cpos)) none pos) (tRaiseI C sp EX t) := by
  obtain ⟨fI, fd, XI, F, hb⟩ := D.ex
  exact ps_raiseI XI F hb hr hg ha hj hdb he hpl
end
section
variable {K : PySem.W.Frag} {σ : L2.St} {H : Hp} {D : Ends}
theorem r_raise {C : Addr} {E : XK} {t : TA} (h : t σ H fun xs H1 => xs.length ≤ sizeLine ∧ E (.ref C) none H1) : tRaise C E t D σ H := h
theorem r_raiseI {C : Addr} {sp : Sp} {E : XK} {t : TA} (h : t σ H fun vs H1 => vs.length ≤ 1000 ∧ ∀ y, H1 y = none → sp (.ref y :: vs) (upd H1 y (ExcN y C none)) (fun v H2 => v = .non ∧ ∃ z, V.ref y = V.ref z ∧ ∃ od, H2 z = some (ExcN z C od) ∧ E (.ref C) od (del H2 z)) E0) :
    tRaiseI C sp E t D σ H := h
theorem r_made {C : Addr} {f : Str} {E : XK} {v : V} (q : ∀ dx, H dx = none → E (.ref C) (some dx) (upd H dx (.xd [(f, v)]))) :
    [v].length ≤ 1000 ∧ ∀ y, H y = none → spInit C f (.ref y :: [v]) (upd H y (ExcN y C none)) (fun v H2 => v = .non ∧ ∃ z, V.ref y = V.ref z ∧ ∃ od, H2 z = some (ExcN z C od) ∧ E (.ref C) od (del H2 z)) E0 := by
  refine ⟨by show 1 ≤ 1000; decide, fun y hy => ⟨y, v, rfl, upd_same, fun dx hd => ⟨rfl, y, rfl, some dx, upd_same, ?_⟩⟩⟩
  have ne : dx ≠ y := fun z => by rw [z, upd_same] at hd; cases hd
  have hd' : H dx = none := by rw [upd_ne ne] at hd; exact hd
  have e : del (upd (upd (upd H y (ExcN y C none)) dx (.xd [(f, v)])) y (ExcN y C (some dx))) y = upd H dx (.xd [(f, v)]) := by
    funext b
    by_cases hb : b = y
    · subst hb
      rw [del_same, upd_ne (Ne.symm ne)]
      exact hy.symm
    · rw [del_ne hb, upd_ne hb]
      by_cases hbd : b = dx
      · subst hbd
        rw [upd_same, upd_same]
      · rw [upd_ne hbd, upd_ne hb, upd_ne hbd]
  rw [e]
  exact q dx hd'
theorem r_tryAs {C0 : Addr} {i : Nat} {ta : TA} {sp : Sp} {ts : Addr → TS} (h : ta σ H fun vs H1 => sp vs H1 (fun _ H2 => D.nx σ H2) fun c od H2 => ∃ C, c = .ref C ∧ Fit K C C0 ∧
    ∀ x, H2 x = none → ts x { D with nx := fun σ' H' => D.nx (σ'.set i none) H', bk := fun σ' H' => D.bk (σ'.set i none) H', ct := fun σ' H' => D.ct (σ'.set i none) H' } (σ.set i (some (.ref x))) (upd H2 x (ExcO x C od))) : tTryAs K C0 i ta sp ts D σ H := by
  unfold tTryAs
  simp only [List.append_nil]
  exact h
theorem r_try {C0 : Addr} {ta : TA} {sp : Sp} {ts : Addr → TS} (h : ta σ H fun vs H1 => sp vs H1 (fun _ H2 => D.nx σ H2) fun c od H2 => ∃ C, c = .ref C ∧ Fit K C C0 ∧ ∀ x, H2 x = none → ts x D σ (upd H2 x (ExcO x C od))) : tTry K C0 ta sp ts D σ H := by
  unfold tTry
  simp only [List.append_nil]
  exact h
theorem r_fldX {f : Str} {ta : TE} {Q : VK} (h : ta σ H fun x H1 => ∃ a C dx fs v, x = .ref a ∧ H1 a = some (ExcO a C (some dx)) ∧ H1 dx = some (.xd fs) ∧ XK0 K C ∧ XSet K C f ∧ fs.lookup f = some v ∧ Q v H1) : tFldX K ta f σ H Q := h
theorem r_isiX {x C C' : Addr} {od : Option Addr} {b : Bool} {P : Bool → Prop} (h : H x = some (ExcO x C od)) (z : XK0 K C) (e : PySem.W.kitOne K (.ref C) (.ref C') = some b) (q : P b) :
    ∃ x' C0 od' v b', [V.ref x, V.ref C'] = [V.ref x', v] ∧ H x' = some (ExcO x' C0 od') ∧ XK0 K C0 ∧ clsV v ≠ .none ∧ PySem.W.kitOne K (.ref C0) (clsV v) = some b' ∧ P b' := ⟨x, C, od, .ref C', b, rfl, h, z, (fun z => nomatch z), e, q⟩
end
end Stow

namespace Stow
open PySem L2 PyProof.Rows
/-! ### exceptions that are made and not raised -/
def tMakeX (C : Addr) (t : TA) : TE := fun σ H Q => t σ H fun xs H1 => xs.length ≤ sizeLine ∧ ∀ y, H1 y = none → Q (.ref y) (upd H1 y (ExcN y C none))
def tMakeI (C : Addr) (sp : Sp) (t : TA) : TE := fun σ H Q => t σ H fun vs H1 => vs.length ≤ 1000 ∧ ∀ y, H1 y = none → sp (.ref y :: vs) (upd H1 y (ExcN y C none)) (fun v H2 => v = .non ∧ Q (.ref y) H2) E0
def tFldN (K : PySem.W.Frag) (ta : TE) (f : Str) : TE := fun σ H Q => ta σ H fun x H1 => ∃ a C dx fs v, x = .ref a ∧ H1 a = some (ExcN a C (some dx)) ∧ H1 dx = some (.xd fs) ∧ XK0 K C ∧ XSet K C f ∧ fs.lookup f = some v ∧ Q v H1
section
variable {X : Cx} {x : Str} {C : Addr} {p pos : Pos} {e : Expr} {es : List Expr} {t : TA}
end
section
variable {K : PySem.W.Frag} {σ : L2.St} {H : Hp} {Q : VK}
theorem r_makeX {C : Addr} {t : TA} (h : t σ H fun xs H1 => xs.length ≤ sizeLine ∧ ∀ y, H1 y = none → Q (.ref y) (upd H1 y (ExcN y C none))) : tMakeX C t σ H Q := h
theorem r_makeI {C : Addr} {sp : Sp} {t : TA} (h : t σ H fun vs H1 => vs.length ≤ 1000 ∧ ∀ y, H1 y = none → sp (.ref y :: vs) (upd H1 y (ExcN y C none)) (fun v H2 => v = .non ∧ Q (.ref y) H2) E0) : tMakeI C sp t σ H Q := h
theorem r_fldN {f : Str} {ta : TE} (h : ta σ H fun x H1 => ∃ a C dx fs v, x = .ref a ∧ H1 a = some (ExcN a C (some dx)) ∧ H1 dx = some (.xd fs) ∧ XK0 K C ∧ XSet K C f ∧ fs.lookup f = some v ∧ Q v H1) : tFldN K ta f σ H Q := h
theorem r_isiN {x C : Addr} {v : V} {od : Option Addr} {b : Bool} {P : Bool → Prop} (h : H x = some (ExcN x C od)) (z : XK0 K C) (n : clsV v ≠ .none) (e : PySem.W.kitOne K (.ref C) (clsV v) = some b) (q : P b) :
    ∃ x' C0 od' v' b', [V.ref x, v] = [V.ref x', v'] ∧ H x' = some (ExcN x' C0 od') ∧ XK0 K C0 ∧ clsV v' ≠ .none ∧ PySem.W.kitOne K (.ref C0) (clsV v') = some b' ∧ P b' := ⟨x, C, od, v, b, rfl, h, z, n, e, q⟩
end
end Stow
namespace Stow
open PySem L2 PyProof.Rows
/-! ### a text's slice -/
def rSlS : V → Option Int → Option Int → Hp → VK → Prop := fun x lo hi H Q => ∃ z, x = .str z ∧ z.length ≤ sizeLine ∧ ∀ y : Str, Q (.str y) H
theorem r_slS {z : Str} {lo hi : Option Int} {H : Hp} {Q : VK} (hz : z.length ≤ sizeLine) (q : ∀ y : Str, Q (.str y) H) : rSlS (.str z) lo hi H Q := ⟨z, rfl, hz, q⟩
end Stow

namespace Stow
open PySem L2 PyProof.Rows
/-! ### list comprehensions without free names -/
section
variable {X : Cx}
/-- the reading: D, the list that comes; W, the invariant by the turn, a measure, what D holds -/
def tComp (wi : TI) (tt : TT) (te : TE) : TE := fun σ H Q => wi σ H fun J H1 => ∀ D, H1 D = none → ∃ W : Nat → Nat → List V → Hp → Prop, (∃ m, W 0 m [] (upd H1 D (.lst []))) ∧ ∀ i m ys H2, W i m ys H2 →
  (J.stop i H2 ∧ Q (.ref D) H2) ∨ (J.go i H2 ∧ ∀ x H3, J.yld i H2 x H3 → tt [some x] H3 fun b H4 => if b = true then te [some x] H4 fun y H5 => H5 D = some (.lst ys) ∧ ys.length < sizeLine ∧ ∃ m', m' < m ∧ W (i + 1) m' (ys ++ [y]) (upd H5 D (.lst (ys ++ [y]))) else ∃ m', m' < m ∧ W (i + 1) m' ys H4)
/-- what the block's tests are -/
def PTs (X : Cx) (ifs : List Expr) (t : TT) : Prop := ∀ (pins : List (Addr × Obj)) (s : Shared) (σ : L2.St) (H : Hp) (Q : Bool → Hp → Prop), Inv X pins σ H s → t σ H Q →
  wpAny (model X.prog X.w) X.A (forIn ifs true fun c r => if r = true then do let ok ← isTrue c X.env (eval c X.env); pure (ForInStep.yield ok) else pure (ForInStep.yield r)) (TP X pins σ Q) X.xe s
theorem pts_nil : PTs X [] (fun _ H Q => Q true H) := fun pins s σ H Q I q => wpAny_tests_nil ⟨H, I, q⟩
theorem pts_one {c : Expr} {t : TT} (h : PT X c t) : PTs X [c] t := fun pins s σ H Q I q => wpAny_tests_one (h pins s σ H Q I q)
end
end Stow

namespace Stow
open PySem L2 PyProof.Rows
theorem op_neL {X : Cx} (hu : X.A.units + 64 < cLine) : OpR X (compareOp .NotEq) (fun x y H Q => ∃ (a b : Addr) (ns ms : List Int), x = .ref a ∧ y = .ref b ∧ SqL X.K H a (ns.map V.int) ∧ SqL X.K H b (ms.map V.int) ∧ Q (.bl (!decide (ns = ms))) H) := by
  intro pins s σ H x y v u Q I rx ry h
  obtain ⟨a, b, ns, ms, rfl, rfl, ha, hb, q⟩ := h
  cases rx
  cases ry
  obtain ⟨its, r1, p1, _⟩ := I.list ha
  obtain ⟨its2, r2, p2, _⟩ := I.list hb
  exact PySem.W.ke_ne_ints p1.isList p2.isList (intsAre_of r1) (intsAre_of r2) hu ⟨.bl _, H, I, rfl, q⟩
/-! ### the readings, step by step -/
section
variable {K : PySem.W.Frag} {σ : L2.St} {H : Hp} {Q : VK} {D : Ends}
theorem r_next (h : D.nx σ H) : tNext D σ H := h
theorem r_seq {t u : TS} (h : t { D with nx := u D } σ H) : tSeq t u D σ H := h
theorem r_nx {f : L2.St → Hp → Prop} {r : VK} {b c : L2.St → Hp → Prop} (h : f σ H) : Ends.nx ⟨f, r, b, c⟩ σ H := h
theorem r_bk {f : L2.St → Hp → Prop} {r : VK} {b c : L2.St → Hp → Prop} (h : b σ H) : Ends.bk ⟨f, r, b, c⟩ σ H := h
theorem r_ct {f : L2.St → Hp → Prop} {r : VK} {b c : L2.St → Hp → Prop} (h : c σ H) : Ends.ct ⟨f, r, b, c⟩ σ H := h
theorem r_rt {f : L2.St → Hp → Prop} {r : VK} {b c : L2.St → Hp → Prop} {v : V} (h : r v H) : Ends.rt ⟨f, r, b, c⟩ v H := h
theorem r_break (h : D.bk σ H) : tBreak D σ H := h
theorem r_cont (h : D.ct σ H) : tCont D σ H := h
theorem r_drop {te : TE} (h : te σ H fun _ H1 => D.nx σ H1) : tDrop te D σ H := h
theorem r_ret {te : TE} (h : te σ H D.rt) : tRet te D σ H := h
theorem r_retN (h : D.rt .non H) : tRetN D σ H := h
theorem r_ifS {c : TT} {t u : TS} (h : c σ H fun b H1 => if b = true then t D σ H1 else u D σ H1) : tIfS c t u D σ H := h
theorem r_asg {te : TE} {g : TG} (h : te σ H fun x H1 => g x σ H1 D.nx) : tAsg te g D σ H := h
theorem r_gname {i : Nat} {v : V} {R : L2.St → Hp → Prop} (h : R (σ.set i (some v)) H) : gName i v σ H R := h
theorem r_gsub {to ti : TE} {t : TSet} {v : V} {R : L2.St → Hp → Prop} (h : to σ H fun o H1 => ti σ H1 fun i H2 => t o i v H2 fun H3 => R σ H3) : gSub to ti t v σ H R := h
theorem r_var {i : Nat} {v : V} (e : σ[i]? = some (some v)) (h : Q v H) : tVar i σ H Q := ⟨v, e, h⟩
theorem r_c {v : V} (h : Q v H) : tC v σ H Q := h
theorem r_op {r : R2} {ta tb : TE} (h : ta σ H fun x H1 => tb σ H1 fun y H2 => r x y H2 Q) : tOp r ta tb σ H Q := h
theorem r_un {r : V → Hp → VK → Prop} {ta : TE} (h : ta σ H fun x H1 => r x H1 Q) : tUn r ta σ H Q := h
theorem r_rI0 {g : Int → Int → V} {i j : Int} (h : Q (g i j) H) : rI0 g (.int i) (.int j) H Q := ⟨i, j, rfl, rfl, h⟩
theorem r_rI {C : Int → Int → Prop} {g : Int → Int → V} {i j : Int} (c : C i j) (h : Q (g i j) H) : rI C g (.int i) (.int j) H Q := ⟨i, j, rfl, rfl, c, h⟩
theorem r_rU {g : Int → V} {i : Int} (h : Q (g i) H) : rU g (.int i) H Q := ⟨i, rfl, h⟩
theorem decV {i j : Int} : decide (V.int i = V.int j) = decide (i = j) := by rw [dec_int]; exact Bool.beq_eq_decide_eq i j
theorem decB {i j : Bool} : decide (V.bl i = V.bl j) = decide (i = j) := by rw [dec_bl]; exact Bool.beq_eq_decide_eq i j
theorem r_eqI {i j : Int} (h : Q (.bl (decide (i = j))) H) : rEq (.int i) (.int j) H Q := ⟨rfl, by rw [decV]; exact h⟩
theorem r_neI {i j : Int} (h : Q (.bl (!decide (i = j))) H) : rNe (.int i) (.int j) H Q := ⟨rfl, by rw [decV]; exact h⟩
theorem r_eqB {i j : Bool} (h : Q (.bl (decide (i = j))) H) : rEq (.bl i) (.bl j) H Q := ⟨rfl, by rw [decB]; exact h⟩
theorem r_neB {i j : Bool} (h : Q (.bl (!decide (i = j))) H) : rNe (.bl i) (.bl j) H Q := ⟨rfl, by rw [decB]; exact h⟩
theorem r_isN {P : Prop} (h : P) : V.non = V.non ∧ P := ⟨rfl, h⟩
theorem r_bl {b : Bool} {P : Bool → Prop} (h : P b) : ∃ k, V.bl b = V.bl k ∧ P k := ⟨b, rfl, h⟩
theorem r_int {i : Int} {P : Int → Prop} (h : P i) : ∃ k, V.int i = V.int k ∧ P k := ⟨i, rfl, h⟩
theorem r_test {t : TE} {R : Bool → Hp → Prop} (h : t σ H fun x H' => ∃ k, x = .bl k ∧ R k H') : tTest t σ H R := h
theorem r_tB {t : TE} {R : Bool → Hp → Prop} (h : t σ H fun x H' => ∃ k, x = .bl k ∧ R k H') : tB t σ H R := h
theorem r_and {t u : TT} {R : Bool → Hp → Prop} (h : t σ H fun c H1 => if c = true then u σ H1 R else R false H1) : tAnd t u σ H R := h
theorem r_or {t u : TT} {R : Bool → Hp → Prop} (h : t σ H fun c H1 => if c = true then R true H1 else u σ H1 R) : tOr t u σ H R := h
theorem r_not {t : TT} {R : Bool → Hp → Prop} (h : t σ H fun c H1 => R (!c) H1) : tNot t σ H R := h
theorem r_andV {ta tb : TE} (h : ta σ H fun x H1 => ∃ c, x = .bl c ∧ if c = true then tb σ H1 Q else Q (.bl false) H1) : tAndV ta tb σ H Q := h
theorem r_orV {ta tb : TE} (h : ta σ H fun x H1 => ∃ c, x = .bl c ∧ if c = true then Q (.bl true) H1 else tb σ H1 Q) : tOrV ta tb σ H Q := h
theorem r_notV {ta : TE} (h : ta σ H fun x H1 => ∃ c, x = .bl c ∧ Q (.bl (!c)) H1) : tNotV ta σ H Q := h
theorem r_ifE {t : TT} {ta tb : TE} (h : t σ H fun c H1 => if c = true then ta σ H1 Q else tb σ H1 Q) : tIf t ta tb σ H Q := h
theorem r_cons {ta : TE} {tr : TA} {R : List V → Hp → Prop} (h : ta σ H fun x H1 => tr σ H1 fun xs H2 => R (x :: xs) H2) : tCons ta tr σ H R := h
theorem r_nil {R : List V → Hp → Prop} (h : R [] H) : tNil σ H R := h
theorem r_tup {t : TA} (h : t σ H fun xs H1 => xs.length ≤ sizeLine ∧ ∀ p, H1 p = none → Q (.ref p) (upd H1 p (.tup xs))) : tTup t σ H Q := h
theorem r_lst {t : TA} (h : t σ H fun xs H1 => xs.length ≤ sizeLine ∧ ∀ p, H1 p = none → Q (.ref p) (upd H1 p (.lst xs))) : tLst t σ H Q := h
theorem r_call {sp : Sp} {E : XK} {t : TA} (h : t σ H fun vs H1 => sp vs H1 Q E) : tCall sp [] E t σ H Q := by
  have e : (fun (vs : List V) H1 => sp (vs ++ []) H1 Q E) = fun vs H1 => sp vs H1 Q E := by funext vs H1; rw [List.append_nil]
  show t σ H fun vs H1 => sp (vs ++ []) H1 Q E
  rw [e]
  exact h
theorem r_cb {r : List V → Hp → VK → Prop} {t : TA} (h : t σ H fun vs H1 => r vs H1 Q) : tCB r t σ H Q := h
theorem r_sl {r : V → Option Int → Option Int → Hp → VK → Prop} {te : TE} {tl th : TO} (h : te σ H fun x H1 => tl σ H1 fun l H2 => th σ H2 fun u H3 => r x l u H3 Q) : tSl r te tl th σ H Q := h
theorem r_nopart {R : Option Int → Hp → Prop} (h : R none H) : tNoPart σ H R := h
theorem r_part {t : TE} {R : Option Int → Hp → Prop} (h : t σ H fun x H1 => ∃ i, x = .int i ∧ R (some i) H1) : tPart t σ H R := h
theorem r_bm {T : String} {r : V → List V → Hp → VK → Prop} {to : TE} {t : TA} (h : to σ H fun x H1 => tyV K T x H1 ∧ t σ H1 fun xs H2 => r x xs H2 Q) : tBM K T r to t σ H Q := h
theorem r_bm0 {T : String} {r : V → List V → Hp → VK → Prop} {to : TE} (h : to σ H fun x H1 => tyV K T x H1 ∧ r x [] H1 Q) : tBM0 K T r to σ H Q := h
theorem r_tyL {p : Addr} {xs : List V} {P : Prop} (h : H p = some (.lst xs)) (q : P) : tyV K "list" (.ref p) H ∧ P := ⟨.inl ⟨rfl, xs, SqL.of h⟩, q⟩
theorem r_append {l : Addr} {xs : List V} {y : V} (h : H l = some (.lst xs)) (hz : xs.length < sizeLine) (q : Q .non (upd H l (.lst (xs ++ [y])))) : rAppend (.ref l) [y] H Q := ⟨l, xs, y, rfl, rfl, h, hz, q⟩
theorem r_appendI {l : Addr} {ns : List Int} {y : Int} (h : H l = some (.lst (ns.map V.int))) (hz : ns.length < sizeLine) (q : Q .non (upd H l (.lst ((ns ++ [y]).map V.int)))) : rAppend (.ref l) [.int y] H Q := by
  rw [List.map_append] at q
  exact ⟨l, _, .int y, rfl, rfl, h, by rw [List.length_map]; exact hz, q⟩
theorem r_cat {l b : Addr} {xs zs : List V} (h : H l = some (.lst xs)) (h2 : H b = some (.lst zs)) (hz : xs.length + zs.length ≤ sizeLine) (q : ∀ p, H p = none → Q (.ref p) (upd H p (.lst (xs ++ zs)))) : rCat (.ref l) (.ref b) H Q := ⟨l, b, xs, zs, rfl, rfl, h, h2, hz, q⟩
theorem r_ixL {p : Addr} {xs : List V} {i : Int} {v : V} (h : SqL K H p xs) (e : atI xs i = some v) (q : Q v H) : rIxL K (.ref p) (.int i) H Q := ⟨p, xs, i, v, rfl, rfl, h, e, q⟩
theorem r_ixT {p : Addr} {xs : List V} {i : Int} {v : V} (h : H p = some (.tup xs)) (e : atI xs i = some v) (q : Q v H) : rIxT K (.ref p) (.int i) H Q := ⟨p, xs, i, v, rfl, rfl, SqT.of h, e, q⟩
theorem r_ixI {p : Addr} {ns : List Int} {k : Int} (h : SqL K H p (ns.map V.int)) (h0 : 0 ≤ k) (h1 : k < ns.length) (q : Q (.int (ns.getD k.toNat 0)) H) : rIxL K (.ref p) (.int k) H Q := ⟨p, _, k, _, rfl, rfl, h, atI_map ns k h0 h1, q⟩
theorem ixN_at {n : Nat} {k : Int} (h0 : 0 ≤ k) (h : k < n) : ixN n k = some k.toNat := by
  unfold ixN
  rw [if_pos h0, if_pos h]
theorem r_setI {p : Addr} {ns : List Int} {k x : Int} {R : Hp → Prop} (h : H p = some (.lst (ns.map V.int))) (h0 : 0 ≤ k) (h1 : k < ns.length) (q : R (upd H p (.lst ((ns.set k.toNat x).map V.int)))) : rSetL (.ref p) (.int k) (.int x) H R := by
  refine ⟨p, _, k, k.toNat, rfl, rfl, h, ixN_at h0 (by rw [List.length_map]; exact h1), ?_⟩
  rw [List.map_set] at q
  exact q
theorem r_sll {a : Addr} {xs : List V} {lo hi : Option Int} (h : SqL K H a xs) (q : ∀ p, H p = none → Q (.ref p) (upd H p (.lst (cutV xs lo hi)))) : rSlL K (.ref a) lo hi H Q := ⟨a, xs, rfl, h, q⟩
theorem r_lenI {p : Addr} {ns : List Int} {P : List V → Prop} (h : SqL K H p (ns.map V.int)) (q : P (ns.map V.int)) : ∃ p' ys, [V.ref p] = [V.ref p'] ∧ (SqL K H p' ys ∨ SqT K H p' ys) ∧ P ys := ⟨p, _, rfl, .inl h, q⟩
theorem r_lenL {p : Addr} {xs : List V} {P : List V → Prop} (h : H p = some (.lst xs)) (q : P xs) : ∃ p' ys, [V.ref p] = [V.ref p'] ∧ (SqL K H p' ys ∨ SqT K H p' ys) ∧ P ys := ⟨p, _, rfl, .inl (SqL.of h), q⟩
theorem r_lenT {p : Addr} {xs : List V} {P : List V → Prop} (h : H p = some (.tup xs)) (q : P xs) : ∃ p' ys, [V.ref p] = [V.ref p'] ∧ (SqL K H p' ys ∨ SqT K H p' ys) ∧ P ys := ⟨p, _, rfl, .inr (SqT.of h), q⟩
theorem r_listI {p : Addr} {xs : List V} {P : List V → Prop} (h : SqL K H p xs) (q : P xs) : ∃ p' ys, [V.ref p] = [V.ref p'] ∧ (SqL K H p' ys ∨ SqT K H p' ys) ∧ P ys := ⟨p, xs, rfl, .inl h, q⟩
theorem r_isi {x : V} {n : String} {t : Value} {b : Bool} {P : Bool → Prop} (ty : TyOf K H x t) (e : PySem.W.kitOne K t (.type n) = some b) (q : P b) : ∃ x' n' t' b', [x, V.ty n] = [x', V.ty n'] ∧ TyOf K H x' t' ∧ PySem.W.kitOne K t' (.type n') = some b' ∧ P b' := ⟨x, n, t, b, rfl, ty, e, q⟩
theorem r_intB {k : Bool} {P1 : Int → Prop} {P2 : Bool → Prop} (q : P2 k) : (∃ i, [V.bl k] = [V.int i] ∧ P1 i) ∨ ∃ k', [V.bl k] = [V.bl k'] ∧ P2 k' := .inr ⟨k, rfl, q⟩
theorem r_intI {k : Int} {P1 : Int → Prop} {P2 : Bool → Prop} (q : P1 k) : (∃ i, [V.int k] = [V.int i] ∧ P1 i) ∨ ∃ k', [V.int k] = [V.bl k'] ∧ P2 k' := .inl ⟨k, rfl, q⟩
theorem r_max {i j : Int} {P : Int → Int → Prop} (q : P i j) : ∃ i' j', [V.int i, V.int j] = [V.int i', V.int j'] ∧ P i' j' := ⟨i, j, rfl, q⟩
theorem r_new {xs : List V} {P : Prop} (h : xs.length ≤ 1000) (q : P) : xs.length ≤ sizeLine ∧ P := ⟨Nat.le_of_lt (small1000 h), q⟩
theorem r_truB {b : Bool} {P : Bool → Prop} (q : P b) : ∃ k, TruV K (.bl b) H k ∧ P k := ⟨b, rfl, q⟩
theorem r_truL {p : Addr} {xs : List V} {P : Bool → Prop} (h : SqL K H p xs) (q : P (!xs.isEmpty)) : ∃ k, TruV K (.ref p) H k ∧ P k := ⟨_, .inl ⟨xs, h, rfl⟩, q⟩
theorem r_for {wi : TI} {g : TG} {tb : TS} (h : wi σ H fun J H1 => ∃ W : Nat → Nat → L2.St → Hp → Prop, (∃ m, W 0 m σ H1) ∧ ∀ i m σ H, W i m σ H →
    (J.stop i H ∧ D.nx σ H) ∨ (J.go i H ∧ ∃ N : L2.St → Hp → Prop, (∀ σ' H', N σ' H' → ∃ m', m' < m ∧ W (i + 1) m' σ' H') ∧ ∀ x H', J.yld i H x H' → g x σ H' fun σ2 H2 => tb { D with nx := N, ct := N, bk := D.nx } σ2 H2)) : tFor wi g tb D σ H := h
theorem r_iL {tl : TE} {R : It → Hp → Prop} (h : tl σ H fun x H1 => ∃ a, x = .ref a ∧ (∃ xs, SqL K H1 a xs) ∧ R (Itl K a) H1) : iList K tl σ H R := h
theorem r_iR1 {ta : TA} {R : It → Hp → Prop} (h : ta σ H fun vs H1 => ∃ j : Int, vs = [.int j] ∧ -(2 ^ 62) ≤ j ∧ j < 2 ^ 62 ∧ R (Itr 0 j.toNat) H1) : iRng1 ta σ H R := h
theorem r_iR2 {ta : TA} {R : It → Hp → Prop} (h : ta σ H fun vs H1 => ∃ i j : Int, vs = [.int i, .int j] ∧ (-(2 ^ 62) ≤ i ∧ i < 2 ^ 62 ∧ -(2 ^ 62) ≤ j ∧ j < 2 ^ 62) ∧ R (Itr i (j - i).toNat) H1) : iRng2 ta σ H R := h
def CompG (J : It) (tt : TT) (te : TE) (Q : VK) (H1 : Hp) : Prop := ∀ D, H1 D = none → ∃ W : Nat → Nat → List V → Hp → Prop, (∃ m, W 0 m [] (upd H1 D (.lst []))) ∧ ∀ i m ys H2, W i m ys H2 →
    (J.stop i H2 ∧ Q (.ref D) H2) ∨ (J.go i H2 ∧ ∀ x H3, J.yld i H2 x H3 → tt [some x] H3 fun b H4 => if b = true then te [some x] H4 fun y H5 => H5 D = some (.lst ys) ∧ ys.length < sizeLine ∧ ∃ m', m' < m ∧ W (i + 1) m' (ys ++ [y]) (upd H5 D (.lst (ys ++ [y]))) else ∃ m', m' < m ∧ W (i + 1) m' ys H4)
theorem r_comp {wi : TI} {tt : TT} {te : TE} (h : wi σ H fun J H1 => CompG J tt te Q H1) : tComp wi tt te σ H Q := h
theorem r_seqM {t u : TS} {M : L2.St → Hp → Prop} (hM : ∀ σ' H', M σ' H' → u D σ' H') (h : ∀ nx : L2.St → Hp → Prop, (∀ σ' H', M σ' H' → nx σ' H') → t { D with nx := nx } σ H) : tSeq t u D σ H := h (u D) hM
theorem r_isIf {c : TT} {t u v : TS} (h : tSeq (tIfS c t u) v D σ H) : tSeq (tIfS c t u) v D σ H := h
end
/-! ### tests -/
theorem r_ifN {b : Bool} {A B : Prop} (h : if b = true then B else A) : if (!b) = true then A else B := by cases b <;> exact h
theorem r_ifd {c A B : Prop} [Decidable c] (h1 : c → A) (h2 : ¬ c → B) : if decide c = true then A else B := by
  by_cases h : c
  · rw [decide_eq_true h]
    exact iteT (h1 h)
  · rw [decide_eq_false h]
    exact iteF (h2 h)
theorem r_ifdT {c A B : Prop} [Decidable c] (h : c) (h1 : A) : if decide c = true then A else B := r_ifd (fun _ => h1) fun z => absurd h z
theorem r_ifdF {c A B : Prop} [Decidable c] (h : ¬ c) (h1 : B) : if decide c = true then A else B := r_ifd (fun z => absurd z h) fun _ => h1
theorem r_ifb {b : Bool} {A B : Prop} (h1 : b = true → A) (h2 : b = false → B) : if b = true then A else B := by
  cases b with
  | true => exact iteT (h1 rfl)
  | false => exact iteF (h2 rfl)
/-! ### what stands in the heap -/
theorem look_put {H : Hp} {p d : Addr} {o v : HO} (hp : H p = none) (h : H d = some v) : upd H p o d = some v := (upd_ne (ne_of_none h hp)).trans h
theorem look_ne {H : Hp} {p d : Addr} {o v : HO} (hp : d ≠ p) (h : H d = some v) : upd H p o d = some v := (upd_ne hp).trans h
theorem look_tup {H : Hp} {p d : Addr} {o : HO} {xs ys : List V} (hp : H p = some (.lst ys)) (h : H d = some (.tup xs)) : upd H p o d = some (.tup xs) := look_ne (fun z => by rw [z, hp] at h; cases h) h
theorem seq_put {K : PySem.W.Frag} {H : Hp} {p d : Addr} {o : HO} {xs : List V} (hp : H p = none) (h : SqL K H d xs) : SqL K (upd H p o) d xs := (Same.new hp).seq h
end Stow

namespace Stow
open PySem L2 PyProof.Rows
/-! ### try: one statement with one call that may raise; several except clauses -/
abbrev TX := L2.St → Hp → VK → XK → Prop
def xCall (sp : Sp) (dvs : List V) (ta : TA) : TX := fun σ H QV EX => ta σ H fun vs H1 => sp (vs ++ dvs) H1 QV EX
def xMeth (C : Addr) (m : Str) (sp : Sp) (dvs : List V) (to : TE) (ta : TA) : TX := fun σ H QV EX => to σ H fun x H1 => ∃ a dx fs, x = .ref a ∧ H1 a = some (.ins C dx fs) ∧ fs.lookup m = none ∧ ta σ H1 fun vs H2 => sp (x :: (vs ++ dvs)) H2 QV EX
def xMake (C : Addr) (sp : Sp) (dvs : List V) (ta : TA) : TX := fun σ H QV EX => ta σ H fun vs H1 => ∀ x dx, H1 x = none → H1 dx = none → dx ≠ x → sp (.ref x :: (vs ++ dvs)) (upd (upd H1 dx (.own x)) x (.ins C dx [])) (fun v H2 => v = .non ∧ QV (.ref x) H2) EX
section
variable {X : Cx} {k : Nat} {f C : Addr} {fd : FuncData} {ps : List Str} {sp : Sp} {dvs : List V} {ds : List Value} {fx m : Str} {p pos apos : Pos} {e o : Expr} {es : List Expr} {to : TE} {ta : TA}
end
abbrev TH := Addr → Addr → TS
section
variable {X : Cx} {C0 : Addr} {cx : Str} {np hpos pos epos : Pos} {b0 : Stmt} {suite : List Stmt} {ts : Addr → TS} {hs : List ExceptHandler} {th : TH} {e : Expr} {t : TX}
theorem Upto.refl (fr ex : List Addr) (h : Heap) : Upto fr ex h h := ⟨fun _ _ _ _ q => q, fun b o _ q => ⟨o.slots, q⟩⟩
def tTryE (t : TX) (th : TH) : TS := fun D σ H => t σ H (fun _ H2 => D.nx σ H2) fun c od H2 => ∃ C, c = .ref C ∧ ∀ x, H2 x = none → th x C D σ (upd H2 x (ExcO x C od))
def tTryA (i : Nat) (t : TX) (th : TH) : TS := fun D σ H => t σ H (fun v H2 => D.nx (σ.set i (some v)) H2) fun c od H2 => ∃ C, c = .ref C ∧ ∀ x, H2 x = none → th x C D σ (upd H2 x (ExcO x C od))
end
section
variable {K : PySem.W.Frag} {σ : L2.St} {H : Hp} {D : Ends}
theorem r_tryE {t : TX} {th : TH} (h : t σ H (fun _ H2 => D.nx σ H2) fun c od H2 => ∃ C, c = .ref C ∧ ∀ x, H2 x = none → th x C D σ (upd H2 x (ExcO x C od))) : tTryE t th D σ H := h
theorem r_tryA {i : Nat} {t : TX} {th : TH} (h : t σ H (fun v H2 => D.nx (σ.set i (some v)) H2) fun c od H2 => ∃ C, c = .ref C ∧ ∀ x, H2 x = none → th x C D σ (upd H2 x (ExcO x C od))) : tTryA i t th D σ H := h
theorem r_xCall {sp : Sp} {ta : TA} {QV : VK} {EX : XK} (h : ta σ H fun vs H1 => sp vs H1 QV EX) : xCall sp [] ta σ H QV EX := by
  unfold xCall
  simp only [List.append_nil]
  exact h
end
end Stow

namespace Stow
open PySem L2 PyProof.Rows
/-! ### defs with defaults, methods, classes that are made, a base's __init__ -/
structure FunD (K : PySem.W.Frag) (x qual : Str) (st : Stmt) (dV : Value) (f : Addr) (fd : FuncData) : Prop where
  ex : ∃ (oc : Value) (od : Option Addr) (kV doc pm : Value) (an : Option Addr) (cdv ct : Value) (osl : Array (Option Value)),
    fd = PySem.W.fnOf x qual (defArgs st) (defBody st) (defScope st) dV kV doc pm an cdv ct ∧ K.lookup f = some ⟨oc, od, .func fd, osl⟩ ∧ PySem.W.codeIn K cdv qual = true
  kp : PySem.W.keepIn K (.ref f) = true
section
variable {P : Program} {w : World} {K : PySem.W.Frag} {mg : Str → Option Value} {base : Heap}
/-- all parameters are given -/
theorem FunD.binds {x qual : Str} {st : Stmt} {dV : Value} {f : Addr} {fd : FuncData} {ps : List Str} (F : FunD K x qual st dV f fd)
    (h : ∀ (kV doc pm : Value) (an : Option Addr) (cdv ct : Value) (us : List Value), us.length = ps.length → bindArgs (PySem.W.fnOf x qual (defArgs st) (defBody st) (defScope st) dV kV doc pm an cdv ct) ⟨us, []⟩ = pure (ps.zip us)) : Binds K fd ps [] := by
  obtain ⟨oc, od, kV, doc, pm, an, cdv, ct, osl, rfl, lk, hcd⟩ := F.ex
  exact .all (h kV doc pm an cdv ct)
end
/-- a method m of the class at C; dvs: the defaults that fill up -/
structure Methx (P : Program) (w : World) (K : PySem.W.Frag) (mg : Str → Option Value) (base : Heap) (C : Addr) (m : Str) (j : Nat) (ps : List Str) (dvs : List V) (sp : Sp) : Prop where
  ex : ∃ (f : Addr) (fd : FuncData) (ds : List Value), FnOk P w K mg base (CXe P w) j f fd ps sp ∧ Meth K C m f ∧ Binds K fd ps ds ∧ Vals dvs ds
  cl : Cls K C
/-- a class that is made -/
structure Makex (P : Program) (w : World) (K : PySem.W.Frag) (mg : Str → Option Value) (base : Heap) (x : Str) (C : Addr) (j : Nat) (ps : List Str) (dvs : List V) (sp : Sp) : Prop where
  ex : ∃ (f : Addr) (fd : FuncData) (ds : List Value), FnOk P w K mg base (CXe P w) j f fd ps sp ∧ Mk K C f ∧ Binds K fd ps ds ∧ Vals dvs ds
  bound : mg x = some (.ref C)
/-- a def read off a class: B.__init__ -/
structure ClsM (K : PySem.W.Frag) (C : Addr) (m : Str) (f : Addr) : Prop where
  sp : PySem.W.specialIn K (.ref C) "__getattribute__" = some (some (.builtin "type.__getattribute__"))
  rd : PySem.W.readsIn K C (.type "type") = true
  fc : PySem.W.findCls K (.ref C) (.type "type") m = some (.val (.ref f))
  kp : PySem.W.keepIn K (.ref f) = true
structure Basex (P : Program) (w : World) (K : PySem.W.Frag) (mg : Str → Option Value) (base : Heap) (x : Str) (m : Str) (j : Nat) (ps : List Str) (sp : Sp) : Prop where
  ex : ∃ (C f : Addr) (fd : FuncData), FnOk P w K mg base (CXe P w) j f fd ps sp ∧ ClsM K C m f ∧ Binds K fd ps [] ∧ mg x = some (.ref C)
section
variable {X : Cx} {j k : Nat} {C : Addr} {ps : List Str} {sp : Sp} {dvs : List V} {x m : Str} {p pos apos : Pos} {e o : Expr} {es : List Expr} {to : TE} {t : TA} {EX : XK}
end
section
variable {K : PySem.W.Frag} {σ : L2.St} {H : Hp} {Q : VK} {D : Ends}
theorem r_fld {f : Str} {ta : TE} (h : ta σ H fun x H1 => ∃ a C dx fs v, x = .ref a ∧ H1 a = some (.ins C dx fs) ∧ Cls K C ∧ NoAttr K C f ∧ fs.lookup f = some v ∧ Q v H1) : tFld K ta f σ H Q := h
theorem r_at {a C dx : Addr} {fs : List (Str × V)} {f : Str} {v : V} {P : V → Prop} (h : H a = some (.ins C dx fs)) (c : Cls K C) (n : NoAttr K C f) (l : fs.lookup f = some v) (q : P v) :
    ∃ a' C' dx' fs' v', V.ref a = V.ref a' ∧ H a' = some (.ins C' dx' fs') ∧ Cls K C' ∧ NoAttr K C' f ∧ fs'.lookup f = some v' ∧ P v' := ⟨a, C, dx, fs, v, rfl, h, c, n, l, q⟩
theorem r_sfld {f : Str} {ta tv : TE} (h : tv σ H fun y H1 => ta σ H1 fun x H2 => ∃ a C dx fs, x = .ref a ∧ H2 a = some (.ins C dx fs) ∧ Cls K C ∧ NoAttr K C f ∧ fs.length < 1000 ∧ D.nx σ (upd H2 a (.ins C dx (putF f y fs)))) : sFld K ta tv f D σ H := h
theorem r_meth {C : Addr} {m : Str} {sp : Sp} {E : XK} {ta : TE} {t : TA} (h : ta σ H fun x H1 => ∃ a dx fs, x = .ref a ∧ H1 a = some (.ins C dx fs) ∧ fs.lookup m = none ∧ t σ H1 fun vs H2 => sp (x :: vs) H2 Q E) : tMeth C m sp [] E ta t σ H Q := by
  unfold tMeth
  simp only [List.append_nil]
  exact h
theorem r_methD {C : Addr} {m : Str} {sp : Sp} {E : XK} {ta : TE} {t : TA} {dvs : List V} (h : ta σ H fun x H1 => ∃ a dx fs, x = .ref a ∧ H1 a = some (.ins C dx fs) ∧ fs.lookup m = none ∧ t σ H1 fun vs H2 => sp (x :: (vs ++ dvs)) H2 Q E) : tMeth C m sp dvs E ta t σ H Q := h
theorem r_xMeth {C : Addr} {m : Str} {sp : Sp} {EX : XK} {ta : TE} {t : TA} (h : ta σ H fun x H1 => ∃ a dx fs, x = .ref a ∧ H1 a = some (.ins C dx fs) ∧ fs.lookup m = none ∧ t σ H1 fun vs H2 => sp (x :: vs) H2 Q EX) : xMeth C m sp [] ta t σ H Q EX := by
  unfold xMeth
  simp only [List.append_nil]
  exact h
end
end Stow

namespace Stow
open PySem L2 PyProof.Rows
section
variable {X : Cx}
end
/-! ### stores, kept written out (a store read through a row of sets costs twice as much with each of them) -/
section
variable {a x : Option V} {v : V} {l r : L2.St} {k : Nat} {n : Str} {ns : List Str} {vs : List V}
theorem set0_c : (a :: l).set 0 x = x :: l := rfl
theorem start_c : L2.start (n :: ns) (v :: vs) = some v :: L2.start ns vs := by
  unfold L2.start
  rw [List.length_cons, List.length_cons, Nat.add_sub_add_right]
  rfl
theorem set0_1 : (L2.start (n :: ns) (v :: vs)).set 0 x = x :: L2.start ns vs := by
  rw [start_c]
  rfl
theorem set0_0 : (L2.start (n :: ns) []).set 0 x = x :: L2.start ns [] := rfl
theorem setS_c (h : l.set k x = r) : (a :: l).set (k + 1) x = a :: r := h ▸ rfl
theorem setS_1 (h : (L2.start ns vs).set k x = r) : (L2.start (n :: ns) (v :: vs)).set (k + 1) x = some v :: r := by
  rw [start_c, ← h]
  rfl
theorem setS_0 (h : (L2.start ns []).set k x = r) : (L2.start (n :: ns) []).set (k + 1) x = none :: r := h ▸ rfl
theorem r_gnameN {σ σ' : L2.St} {H : Hp} {i : Nat} {R : L2.St → Hp → Prop} (e : σ.set i (some v) = σ') (h : R σ' H) : gName i v σ H R := by
  subst e
  exact h
end
/-! ### cuts of lists of ints -/
def cutI (ns : List Int) (l u : Option Int) : List Int := (ns.drop (HT.sIx ns.length 0 l)).take (HT.sIx ns.length ns.length u - HT.sIx ns.length 0 l)
theorem cut_map (ns : List Int) (l u : Option Int) : cutV (ns.map V.int) l u = (cutI ns l u).map V.int := by
  unfold cutV cutI
  rw [List.map_take, List.map_drop, List.length_map]
theorem cutI_len (ns : List Int) (l u : Option Int) : (cutI ns l u).length ≤ ns.length := by
  unfold cutI
  rw [List.length_take, List.length_drop]
  omega
section
variable {K : PySem.W.Frag} {σ : L2.St} {H : Hp} {D : Ends} {Q : VK}
theorem r_sllG {a : Addr} {ns : List Int} {lo hi : Option Int} (h : SqL K H a (ns.map V.int)) (q : ∀ p H', H p = none → Same H H' → H' p = some (.lst ((cutI ns lo hi).map V.int)) → Q (.ref p) H') : rSlL K (.ref a) lo hi H Q :=
  ⟨a, _, rfl, h, fun p hp => by rw [cut_map]; exact q p _ hp (Same.new hp) upd_same⟩
theorem r_catG {l b : Addr} {xs zs : List Int} (h : H l = some (.lst (xs.map V.int))) (h2 : H b = some (.lst (zs.map V.int))) (hz : xs.length + zs.length ≤ 4000) (q : ∀ p H', H p = none → Same H H' → H' p = some (.lst ((xs ++ zs).map V.int)) → Q (.ref p) H') : rCat (.ref l) (.ref b) H Q :=
  ⟨l, b, _, _, rfl, rfl, h, h2, by rw [List.length_map, List.length_map]; exact Nat.le_of_lt (small4000 hz), fun p hp => by rw [← List.map_append]; exact q p _ hp (Same.new hp) upd_same⟩
theorem r_isSeq {t u : TS} (h : tSeq t u D σ H) : tSeq t u D σ H := h
theorem r_isAnd {ta tb : TE} (h : tAndV ta tb σ H Q) : tAndV ta tb σ H Q := h
theorem r_isOr {ta tb : TE} (h : tOrV ta tb σ H Q) : tOrV ta tb σ H Q := h
end
end Stow

namespace Stow
open PySem L2 PyProof.Rows
/-! ### several targets at once; the last item of a list -/
section
variable {K : PySem.W.Frag} {σ : L2.St} {H : Hp} {Q : VK}
theorem r_gtup {a : Addr} {xs : List V} {n : Nat} {t : TGs} {R : L2.St → Hp → Prop} (h : H a = some (.tup xs)) (hl : xs.length = n) (q : t xs σ H R) : gTup K n t (.ref a) σ H R := ⟨a, xs, rfl, SqT.of h, hl, q⟩
theorem r_gcons {v : V} {r : List V} {t : TG} {u : TGs} {R : L2.St → Hp → Prop} (h : t v σ H fun σ' H' => u r σ' H' R) : gCons t u (v :: r) σ H R := ⟨v, r, rfl, h⟩
theorem r_gnil {R : L2.St → Hp → Prop} (h : R σ H) : gNil [] σ H R := ⟨rfl, h⟩
theorem r_ixLast {p : Addr} {xs : List V} {v : V} (h : SqL K H p (xs ++ [v])) (q : Q v H) : rIxL K (.ref p) (.int (-1)) H Q := r_ixL h (atI_last xs v) q
end
end Stow

namespace Stow
/-- the least cell from a on behind which a multiple of b comes -/
def fpl (a b : Int) : Int := a + (b - 1 - a % b)
def fp (a n L b : Int) : Option Int := if fpl a b + L ≤ a + n then some (fpl a b) else none
end Stow

namespace Stow
open PySem L2 PyProof.Rows
/-! ### pieces in the heap -/
def PcsAt (H : Hp) (us : List V) (ps : List Pc) : Prop := us.length = ps.length ∧ ∀ (i : Nat) (p : Pc), ps[i]? = some p → ∃ a, us[i]? = some (.ref a) ∧ H a = some (.tup [.int p.a, .int p.l, .bl p.v])
theorem PcsAt.nil {H : Hp} : PcsAt H [] [] := ⟨rfl, fun i p h => by simp at h⟩
theorem PcsAt.mono {H H' : Hp} {us : List V} {ps : List Pc} (h : PcsAt H us ps) (k : ∀ b xs, H b = some (.tup xs) → H' b = some (.tup xs)) : PcsAt H' us ps :=
  ⟨h.1, fun i p e => let ⟨a, h1, h2⟩ := h.2 i p e; ⟨a, h1, k _ _ h2⟩⟩
theorem PcsAt.same {H H' : Hp} {us : List V} {ps : List Pc} (h : PcsAt H us ps) (k : Same H H') : PcsAt H' us ps := h.mono fun b xs e => k b _ e
theorem PcsAt.snoc {H : Hp} {us : List V} {ps : List Pc} {p : Pc} {a : Addr} (h : PcsAt H us ps) (ha : H a = some (.tup [.int p.a, .int p.l, .bl p.v])) : PcsAt H (us ++ [.ref a]) (ps ++ [p]) := by
  refine ⟨by simp [h.1], fun i q e => ?_⟩
  have hl := h.1
  by_cases hi : i < ps.length
  · rw [List.getElem?_append_left hi] at e
    obtain ⟨b, h1, h2⟩ := h.2 i q e
    exact ⟨b, by rw [List.getElem?_append_left (by omega)]; exact h1, h2⟩
  · have hlt : i < (ps ++ [p]).length := (List.getElem?_eq_some_iff.mp e).1
    have hi2 : i = ps.length := by simp at hlt; omega
    subst hi2
    rw [List.getElem?_append_right (Nat.le_refl _)] at e
    have e' : p = q := by simpa using e
    subst e'
    exact ⟨a, by rw [← hl, List.getElem?_append_right (Nat.le_refl _)]; simp, ha⟩
theorem keepT {H : Hp} {p : Addr} {o : HO} (hp : H p = none ∨ ∃ xs, H p = some (.lst xs)) : ∀ b xs, H b = some (.tup xs) → upd H p o b = some (.tup xs) := fun b xs e => by
  have hne : b ≠ p := fun z => by
    subst z
    rcases hp with h | ⟨ys, h⟩
    · rw [h] at e; cases e
    · rw [h] at e; cases e
  rw [upd_ne hne]
  exact e
/-- the list of pieces at p takes one more -/
theorem PcsAt.push {H : Hp} {us : List V} {ps : List Pc} {p t : Addr} {z : Pc} (h : PcsAt H us ps) (hp : H p = some (.lst us)) (ht : H t = none) :
    upd (upd H t (.tup [.int z.a, .int z.l, .bl z.v])) p (.lst (us ++ [.ref t])) p = some (.lst (us ++ [.ref t])) ∧
    PcsAt (upd (upd H t (.tup [.int z.a, .int z.l, .bl z.v])) p (.lst (us ++ [.ref t]))) (us ++ [.ref t]) (ps ++ [z]) := by
  have hpt : p ≠ t := ne_of_none hp ht
  have hp2 : upd H t (.tup [.int z.a, .int z.l, .bl z.v]) p = some (.lst us) := by rw [upd_ne hpt]; exact hp
  refine ⟨upd_same, ?_⟩
  refine PcsAt.snoc ?_ ?_
  · exact (h.mono (keepT (.inl ht))).mono (keepT (.inr ⟨_, hp2⟩))
  · exact keepT (.inr ⟨_, hp2⟩) _ _ upd_same
theorem PcsAt.at {H : Hp} {us : List V} {ps : List Pc} (h : PcsAt H us ps) {k : Int} (h0 : 0 ≤ k) (h1 : k < us.length) : ∃ t z, atI us k = some (.ref t) ∧ ps[k.toNat]? = some z ∧ H t = some (.tup [.int z.a, .int z.l, .bl z.v]) := by
  have hl := h.1
  have hk : k.toNat < ps.length := by omega
  obtain ⟨t, e1, e2⟩ := h.2 k.toNat ps[k.toNat] (by simp [hk])
  refine ⟨t, _, ?_, by simp [hk], e2⟩
  have := atI_nat e1
  rwa [Int.toNat_of_nonneg h0] at this
/-! ### tuples in a list -/
def TupsAt (H : Hp) (us : List V) (xs : List (List V)) : Prop := us.length = xs.length ∧ ∀ (i : Nat) (x : List V), xs[i]? = some x → ∃ a, us[i]? = some (.ref a) ∧ H a = some (.tup x)
theorem TupsAt.nil {H : Hp} : TupsAt H [] [] := ⟨rfl, fun i p h => by simp at h⟩
theorem TupsAt.mono {H H' : Hp} {us : List V} {xs : List (List V)} (h : TupsAt H us xs) (k : ∀ b ys, H b = some (.tup ys) → H' b = some (.tup ys)) : TupsAt H' us xs :=
  ⟨h.1, fun i p e => let ⟨a, h1, h2⟩ := h.2 i p e; ⟨a, h1, k _ _ h2⟩⟩
theorem TupsAt.same {H H' : Hp} {us : List V} {xs : List (List V)} (h : TupsAt H us xs) (k : Same H H') : TupsAt H' us xs := h.mono fun b ys e => k b _ e
theorem TupsAt.push {H : Hp} {us : List V} {xs : List (List V)} {p t : Addr} {z : List V} (h : TupsAt H us xs) (hp : H p = some (.lst us)) (ht : H t = none) :
    TupsAt (upd (upd H t (.tup z)) p (.lst (us ++ [.ref t]))) (us ++ [.ref t]) (xs ++ [z]) := by
  have hpt : p ≠ t := ne_of_none hp ht
  have hp2 : upd H t (.tup z) p = some (.lst us) := by rw [upd_ne hpt]; exact hp
  have h2 := (h.mono (keepT (o := .tup z) (.inl ht))).mono (keepT (o := .lst (us ++ [.ref t])) (.inr ⟨_, hp2⟩))
  have hz : upd (upd H t (.tup z)) p (.lst (us ++ [.ref t])) t = some (.tup z) := keepT (.inr ⟨_, hp2⟩) _ _ upd_same
  refine ⟨by simp [h.1], fun i q e => ?_⟩
  have hl := h.1
  by_cases hi : i < xs.length
  · rw [List.getElem?_append_left hi] at e
    obtain ⟨b, h1, h3⟩ := h2.2 i q e
    exact ⟨b, by rw [List.getElem?_append_left (by omega)]; exact h1, h3⟩
  · have hlt : i < (xs ++ [z]).length := (List.getElem?_eq_some_iff.mp e).1
    have hi2 : i = xs.length := by simp at hlt; omega
    subst hi2
    rw [List.getElem?_append_right (Nat.le_refl _)] at e
    have e' : z = q := by simpa using e
    subst e'
    exact ⟨t, by rw [← hl, List.getElem?_append_right (Nat.le_refl _)]; simp, hz⟩
theorem TupsAt.at {H : Hp} {us : List V} {xs : List (List V)} (h : TupsAt H us xs) {i : Nat} (h1 : i < us.length) : ∃ t z, atI us (0 + (i : Int)) = some (.ref t) ∧ xs[i]? = some z ∧ H t = some (.tup z) := by
  have hl := h.1
  have hk : i < xs.length := by omega
  obtain ⟨t, e1, e2⟩ := h.2 i xs[i] (by simp [hk])
  exact ⟨t, _, by rw [Int.zero_add]; exact atI_nat e1, by simp [hk], e2⟩
@[reducible] def optV : Option Int → V
  | none => .non
  | some b => .int b
/-! ### promises that many laws share -/
def spLong : Sp := fun vs H Q _ => ∃ n : Int, vs = [.int n] ∧ Q (.int (n / 2)) H
def spLive : Sp := fun vs H Q _ => ∃ n : Int, vs = [.int n] ∧ Q (.bl (decide (n % 2 = 1))) H
def spCan (K : PySem.W.Frag) : Sp := fun vs H Q _ => ∃ (a : Addr) (ns : List Int) (k : Int), vs = [.ref a, .int k] ∧ SqL K H a (ns.map V.int) ∧ 0 ≤ k ∧ k < ns.length ∧ Q (.bl (canBegin ns k)) H
def spBad (K : PySem.W.Frag) : Sp := fun vs H Q _ => ∃ (a : Addr) (ns : List Int) (k : Int), vs = [.ref a, .int k] ∧ SqL K H a (ns.map V.int) ∧ 0 ≤ k ∧ k < ns.length ∧ Q (optV (badOf ns k)) H
def spLooked (K : PySem.W.Frag) (C : Addr) : Sp := fun vs H Q E => ∃ (a : Addr) (ns : List Int), vs = [.ref a] ∧ SqL K H a (ns.map V.int) ∧ ns.length ≤ 4000 ∧
  (∀ b, (walkF ns 0).2 = some b → ∀ (dx : Addr) (H' : Hp), Same H H' → H' dx = some (.xd [("cell", .int b)]) → E (.ref C) (some dx) H') ∧
  ((walkF ns 0).2 = none → ∀ (p : Addr) (us : List V) (H' : Hp), H p = none → Same H H' → H' p = some (.lst us) → PcsAt H' us (walkF ns 0).1 → Q (.ref p) H')
def spCell (K : PySem.W.Frag) : Sp := fun vs H Q _ => ∃ (a : Addr) (ns : List Int) (k : Int), vs = [.ref a, .int k] ∧ SqL K H a (ns.map V.int) ∧ 0 ≤ k ∧ Q (.int (ns.getD k.toNat 0)) H
def spWhole : Sp := fun vs H Q _ => ∃ n : Int, vs = [.int n] ∧ Q (.bl true) H
def spLaw (K : PySem.W.Frag) : Sp := fun vs H Q _ => ∃ (a : Addr) (ns : List Int), vs = [.ref a] ∧ SqL K H a (ns.map V.int) ∧ ns.length ≤ 63 ∧ ∀ H', Q (.bl true) H'
section
variable {K : PySem.W.Frag} {H : Hp} {Q : VK} {E : XK}
theorem i_long {n : Int} (q : Q (.int (n / 2)) H) : spLong [.int n] H Q E := ⟨n, rfl, q⟩
theorem i_live {n : Int} (q : Q (.bl (decide (n % 2 = 1))) H) : spLive [.int n] H Q E := ⟨n, rfl, q⟩
theorem i_can {a : Addr} {ns : List Int} {k : Int} (h : SqL K H a (ns.map V.int)) (h0 : 0 ≤ k) (h1 : k < ns.length) (q : Q (.bl (canBegin ns k)) H) : spCan K [.ref a, .int k] H Q E := ⟨a, ns, k, rfl, h, h0, h1, q⟩
theorem i_bad {a : Addr} {ns : List Int} {k : Int} (h : SqL K H a (ns.map V.int)) (h0 : 0 ≤ k) (h1 : k < ns.length) (q : Q (optV (badOf ns k)) H) : spBad K [.ref a, .int k] H Q E := ⟨a, ns, k, rfl, h, h0, h1, q⟩
theorem i_cell {a : Addr} {ns : List Int} {k : Int} (h : SqL K H a (ns.map V.int)) (h0 : 0 ≤ k) (q : Q (.int (ns.getD k.toNat 0)) H) : spCell K [.ref a, .int k] H Q E := ⟨a, ns, k, rfl, h, h0, q⟩
theorem i_whole {n : Int} (q : Q (.bl true) H) : spWhole [.int n] H Q E := ⟨n, rfl, q⟩
theorem live_eq2 (n : Int) : decide (Builtin.bitAnd n 1 = 1) = decide (n % 2 = 1) := by rw [← live_eq, decV]
end
end Stow

namespace Stow
/-! ### pieces laid into cells (numbers alone) -/
def laidI (cs : List Int) (k l : Int) (v : Bool) : List Int := (cs.set k.toNat (l * 2 + if v then 1 else 0)).set (k + l - 1).toNat (l * 2 + if v then 1 else 0)
theorem laidI_len (cs : List Int) (k l : Int) (v : Bool) : (laidI cs k l v).length = cs.length := by
  unfold laidI
  rw [List.length_set, List.length_set]
theorem laidI_out {cs : List Int} {k l : Int} {v : Bool} {j : Nat} (h0 : 0 ≤ k) (h1 : 1 ≤ l) (h : (j : Int) < k ∨ k + l ≤ j) : (laidI cs k l v)[j]? = cs[j]? := by
  unfold laidI
  rw [List.getElem?_set_ne (by omega), List.getElem?_set_ne (by omega)]
theorem laidI_first {cs : List Int} {k l : Int} {v : Bool} (h0 : 0 ≤ k) (h1 : 1 ≤ l) (h : k + l ≤ cs.length) : (laidI cs k l v)[k.toNat]? = some (mkOf l v) := by
  unfold laidI mkOf
  by_cases e : (k + l - 1).toNat = k.toNat
  · rw [e, List.getElem?_set_self (by rw [List.length_set]; omega)]
  · rw [List.getElem?_set_ne e, List.getElem?_set_self (by omega)]
theorem laidI_last {cs : List Int} {k l : Int} {v : Bool} (h0 : 0 ≤ k) (h1 : 1 ≤ l) (h : k + l ≤ cs.length) : (laidI cs k l v)[(k + l - 1).toNat]? = some (mkOf l v) := by
  unfold laidI mkOf
  rw [List.getElem?_set_self (by rw [List.length_set]; omega)]
/-- pieces that end at k or ahead, pieces that begin at e or behind -/
def EndBy (ds : List Pc) (k : Int) : Prop := ∀ p ∈ ds, 0 ≤ p.a ∧ 1 ≤ p.l ∧ p.a + p.l ≤ k
def FromOn (rs : List Pc) (e : Int) : Prop := ∀ p ∈ rs, e ≤ p.a ∧ 1 ≤ p.l
theorem Chain.endBy {ds : List Pc} {s e : Int} (h : Chain s ds e) (h0 : 0 ≤ s) : EndBy ds e := fun p hp => by
  obtain ⟨h1, h2, _, h3⟩ := h.mem p hp
  omega
theorem EndBy.mono {ds : List Pc} {k k' : Int} (h : EndBy ds k) (e : k ≤ k') : EndBy ds k' := fun p hp => by have := h p hp; omega
theorem EndBy.app {ds es : List Pc} {k : Int} (h : EndBy ds k) (g : EndBy es k) : EndBy (ds ++ es) k := fun p hp => (List.mem_append.mp hp).elim (h p) (g p)
theorem Marks.sub {cs : List Int} {ps qs : List Pc} (m : Marks cs ps) (h : ∀ p ∈ qs, p ∈ ps) : Marks cs qs := fun p hp => m p (h p hp)
theorem Marks.lay {cs : List Int} {ds rs : List Pc} {k l : Int} {v : Bool} (h0 : 0 ≤ k) (h1 : 1 ≤ l) (hl : k + l ≤ cs.length) (hd : EndBy ds k) (hr : FromOn rs (k + l)) (m : Marks cs (ds ++ rs)) :
    Marks (laidI cs k l v) (ds ++ ⟨k, l, v⟩ :: rs) := by
  intro p hp
  rcases List.mem_append.mp hp with h | h
  · obtain ⟨a0, a1, a2⟩ := hd p h
    obtain ⟨m1, m2⟩ := m p (List.mem_append_left _ h)
    exact ⟨by rw [laidI_out h0 h1 (by omega)]; exact m1, by rw [laidI_out h0 h1 (by omega)]; exact m2⟩
  · rcases List.mem_cons.mp h with h | h
    · subst h
      exact ⟨laidI_first h0 h1 hl, laidI_last h0 h1 hl⟩
    · obtain ⟨a0, a1⟩ := hr p h
      obtain ⟨m1, m2⟩ := m p (List.mem_append_right _ h)
      exact ⟨by rw [laidI_out h0 h1 (by omega)]; exact m1, by rw [laidI_out h0 h1 (by omega)]; exact m2⟩
def fr (b e : Int) : List Pc := if b = e then [] else [⟨b, e - b, false⟩]
/-! ### neighbours -/
theorem chain_split : ∀ {ps : List Pc} {s e : Int} {i : Nat} {z : Pc}, Chain s ps e → ps[i]? = some z → ∃ ds rs, ps = ds ++ z :: rs ∧ ds.length = i ∧ Chain s ds z.a ∧ Chain (z.a + z.l) rs e
  | [], s, e, i, z, _, h => by simp at h
  | p :: r, s, e, 0, z, c, h => by
    have e1 : p = z := by simpa using h
    subst e1
    obtain ⟨h0, h1, h2, h3⟩ := c
    exact ⟨[], r, rfl, rfl, h0.symm, by rw [h0]; exact h3⟩
  | p :: r, s, e, i + 1, z, c, h => by
    obtain ⟨h0, h1, h2, h3⟩ := c
    obtain ⟨ds, rs, e1, e2, c1, c2⟩ := chain_split h3 (show r[i]? = some z by simpa using h)
    exact ⟨p :: ds, rs, by rw [e1]; rfl, by rw [List.length_cons, e2], ⟨h0, h1, h2, c1⟩, c2⟩
theorem chain_last {ps : List Pc} {s e : Int} {i : Nat} {z : Pc} (c : Chain s ps e) (h : ps[i]? = some z) (h' : ps.length = i + 1) : z.a + z.l = e := by
  obtain ⟨ds, rs, rfl, rfl, _, c2⟩ := chain_split c h
  rw [List.length_append, List.length_cons] at h'
  have : rs = [] := List.length_eq_zero_iff.mp (by omega)
  subst this
  exact c2
end Stow
namespace Stow
end Stow
namespace Stow
end Stow
namespace Stow
end Stow

namespace Stow
/-! ### free pieces side by side joined -/
theorem Chain.take : ∀ {ps : List Pc} {s e : Int} {i : Nat}, Chain s ps e → i ≤ ps.length → ∃ m, Chain s (ps.take i) m ∧ Chain m (ps.drop i) e
  | ps, s, e, 0, c, _ => ⟨s, rfl, c⟩
  | [], s, e, i + 1, c, h => by simp at h
  | p :: r, s, e, i + 1, c, h => by
    obtain ⟨h0, h1, h2, h3⟩ := c
    obtain ⟨m, c1, c2⟩ := h3.take (i := i) (by simpa using h)
    exact ⟨m, ⟨h0, h1, h2, c1⟩, c2⟩
/-! ### all of a row of pieces laid -/
/-! ### how many are joined -/
/-- no two free ones side by side -/
def NoAdj (ps : List Pc) : Prop := ∀ j y z, ps[j]? = some y → ps[j + 1]? = some z → y.v = true ∨ z.v = true
theorem NoAdj.snoc {D : List Pc} {w z : Pc} (h : NoAdj (D ++ [w])) (hv : w.v = true ∨ z.v = true) : NoAdj (D ++ [w] ++ [z]) := by
  intro j y x hy hx
  have hl : j + 1 < (D ++ [w] ++ [z]).length := (List.getElem?_eq_some_iff.mp hx).1
  rw [List.length_append, List.length_singleton] at hl
  rw [List.getElem?_append_left (by omega)] at hy
  by_cases e : j + 1 < (D ++ [w]).length
  · rw [List.getElem?_append_left e] at hx
    exact h j y x hy hx
  · rw [List.length_append, List.length_singleton] at e hl
    rw [List.getElem?_append_right (by rw [List.length_append, List.length_singleton]; omega), show j + 1 - (D ++ [w]).length = 0 by rw [List.length_append, List.length_singleton]; omega] at hx
    rw [show j = D.length by omega, List.getElem?_append_right (Nat.le_refl _), Nat.sub_self] at hy
    have e1 : w = y := by simpa using hy
    have e2 : z = x := by simpa using hx
    rw [← e1, ← e2]
    exact hv
theorem NoAdj.last {D : List Pc} {w u : Pc} (h : NoAdj (D ++ [w])) (hv : u.v = w.v) : NoAdj (D ++ [u]) := by
  intro j y x hy hx
  have hl : j + 1 < (D ++ [u]).length := (List.getElem?_eq_some_iff.mp hx).1
  rw [List.length_append, List.length_singleton] at hl
  rw [List.getElem?_append_left (by omega)] at hy
  by_cases e : j + 1 < D.length
  · rw [List.getElem?_append_left e] at hx
    exact h j y x (by rw [List.getElem?_append_left (by omega)]; exact hy) (by rw [List.getElem?_append_left e]; exact hx)
  · rw [List.getElem?_append_right (by omega), show j + 1 - D.length = 0 by omega] at hx
    have e2 : u = x := by simpa using hx
    have := h j y w (by rw [List.getElem?_append_left (by omega)]; exact hy) (by rw [List.getElem?_append_right (by omega), show j + 1 - D.length = 0 by omega]; rfl)
    rw [← e2, hv]
    exact this
end Stow

namespace Stow
/-! ### cut out and freed again -/
end Stow
namespace Stow
end Stow

namespace Stow
open PySem L2 PyProof.Rows
section
variable {X : Cx}
end
end Stow

namespace Stow
open PySem L2 PyProof.Rows
/-! ### tuples compared; lists of pieces compared -/
section
variable {X : Cx} {pins : List (Addr × Obj)} {σ : L2.St} {H : Hp} {s : Shared} {A : Around}
end
section
variable {X : Cx}
end
end Stow

set_option Elab.async false
set_option linter.all false
set_option maxRecDepth 100000
set_option maxHeartbeats 4000000
namespace L2
open PySem PySem.Spec PyProof.Rows

/-! ### lists of pairs as tables -/
section
variable {κ : Type} [DecidableEq κ]
def valV (kvs : List (κ × V)) (k : κ) : Option V := (kvs.find? fun kv => decide (kv.1 = k)).map (·.2)
/-- in its place, or at the end -/
def putK (kvs : List (κ × V)) (k : κ) (v : V) : List (κ × V) :=
  if (kvs.any fun kv => decide (kv.1 = k)) = true then kvs.map (fun kv => if kv.1 = k then (kv.1, v) else kv) else kvs ++ [(k, v)]
def dropK (kvs : List (κ × V)) (k : κ) : List (κ × V) := kvs.filter fun kv => decide (kv.1 ≠ k)

theorem valV_pos {p : κ × V} {r : List (κ × V)} {k : κ} (e : p.1 = k) : valV (p :: r) k = some p.2 := by simp [valV, List.find?_cons, e]
theorem valV_neg {p : κ × V} {r : List (κ × V)} {k : κ} (e : ¬ p.1 = k) : valV (p :: r) k = valV r k := by simp [valV, List.find?_cons, e]
theorem valV_any (k : κ) : ∀ kvs : List (κ × V), (kvs.any fun kv => decide (kv.1 = k)) = (valV kvs k).isSome
  | [] => rfl
  | p :: r => by
    rw [List.any_cons]
    by_cases e : p.1 = k
    · simp only [valV_pos e, decide_eq_true e, Bool.true_or, Option.isSome_some]
    · rw [valV_neg e, decide_eq_false e, Bool.false_or]; exact valV_any k r
theorem RelO.isSome_eq {o : Option V} {u : Option Value} (r : RelO o u) : o.isSome = u.isSome := by
  cases o with
  | none => cases u with
    | none => rfl
    | some _ => exact (show False from r).elim
  | some _ => cases u with
    | none => exact (show False from r).elim
    | some _ => rfl
theorem RelO.getD {o : Option V} {u : Option Value} {d : V} {d' : Value} (r : RelO o u) (rd : RelV d d') : RelV (o.getD d) (u.getD d') := by
  cases o with
  | none => cases u with
    | none => exact rd
    | some _ => exact (show False from r).elim
  | some _ => cases u with
    | none => exact (show False from r).elim
    | some _ => exact r

/-- raw tables of the same keys -/
theorem KV.val {kvs : List (κ × V)} {vs : List (κ × Value)} (r : KV kvs vs) (k : κ) : RelO (valV kvs k) (valueAt vs k) := by
  unfold KV at r
  induction r with
  | nil => exact True.intro
  | @cons p q ps qs h t ih =>
    obtain ⟨h1, h2⟩ := h
    by_cases e : p.1 = k
    · have e' : q.1 = k := h1.symm.trans e
      have b : valueAt (q :: qs) k = some q.2 := by simp [valueAt, List.find?_cons, e']
      rw [valV_pos e, b]; exact h2
    · have e' : ¬ q.1 = k := fun z => e (h1.trans z)
      have b : valueAt (q :: qs) k = valueAt qs k := by simp [valueAt, List.find?_cons, e']
      rw [valV_neg e, b]; exact ih
theorem KV.any {kvs : List (κ × V)} {vs : List (κ × Value)} (r : KV kvs vs) (k : κ) : (kvs.any fun kv => decide (kv.1 = k)) = vs.any fun kv => decide (kv.1 = k) := by
  unfold KV at r
  induction r with
  | nil => rfl
  | cons h t ih => rw [List.any_cons, List.any_cons, ih, h.1]
theorem KV.repl {kvs : List (κ × V)} {vs : List (κ × Value)} (r : KV kvs vs) (k : κ) {y : V} {u : Value} (ry : RelV y u) :
    KV (kvs.map fun kv => if kv.1 = k then (kv.1, y) else kv) (vs.map fun kv => if kv.1 = k then (kv.1, u) else kv) := by
  unfold KV at r ⊢
  induction r with
  | nil => exact .nil
  | @cons p q ps qs h t ih =>
    rw [List.map_cons, List.map_cons]
    refine .cons ?_ ih
    obtain ⟨h1, h2⟩ := h
    by_cases e : p.1 = k
    · rw [if_pos e, if_pos (h1.symm.trans e)]; exact ⟨h1, ry⟩
    · rw [if_neg e, if_neg (fun z => e (h1.trans z))]; exact ⟨h1, h2⟩
theorem KV.put {kvs : List (κ × V)} {vs : List (κ × Value)} (r : KV kvs vs) (k : κ) {y : V} {u : Value} (ry : RelV y u) : KV (putK kvs k y) (stored vs k u) := by
  unfold putK stored
  rw [r.any k]
  by_cases e : (vs.any fun kv => decide (kv.1 = k)) = true
  · rw [if_pos e, if_pos e]; exact r.repl k ry
  · rw [if_neg e, if_neg e]; exact Paired.snoc r ⟨rfl, ry⟩
theorem KV.drop {kvs : List (κ × V)} {vs : List (κ × Value)} (r : KV kvs vs) (k : κ) : KV (dropK kvs k) (without vs k) := by
  unfold KV at r ⊢
  unfold dropK without
  induction r with
  | nil => exact .nil
  | @cons p q ps qs h t ih =>
    obtain ⟨h1, h2⟩ := h
    rw [List.filter_cons, List.filter_cons]
    by_cases e : p.1 = k
    · have a : ¬ decide (p.1 ≠ k) = true := by simp [e]
      have b : ¬ decide (q.1 ≠ k) = true := by simp [h1.symm.trans e]
      rw [if_neg a, if_neg b]; exact ih
    · have e' : ¬ q.1 = k := fun z => e (h1.trans z)
      have a : decide (p.1 ≠ k) = true := by simp [e]
      have b : decide (q.1 ≠ k) = true := by simp [e']
      rw [if_pos a, if_pos b]; exact .cons ⟨h1, h2⟩ ih
theorem KV.length {kvs : List (κ × V)} {vs : List (κ × Value)} (r : KV kvs vs) : kvs.length = vs.length := Paired.length r
end


/-! ### a tracked dict, its keys ints and texts or tuples of these -/
/-- raw entries of a dict with tuple keys -/
abbrev KT (H : Hp) : List (List Key × V) → List (List Key × Addr × Value) → Prop := Paired fun p q => p.1 = q.1 ∧ H q.2.1 = some (.tup (p.1.map kV)) ∧ RelV p.2 q.2.2
theorem KT.val {H : Hp} {kvs : List (List Key × V)} {xs : List (List Key × Addr × Value)} (r : KT H kvs xs) (k : List Key) : RelO (valV kvs k) ((atKey xs k).map (·.2)) := by
  induction r with
  | nil => exact True.intro
  | @cons p q ps qs h t ih =>
    obtain ⟨h1, _, h2⟩ := h
    by_cases e : p.1 = k
    · have e' : q.1 = k := h1.symm.trans e
      have b : atKey (q :: qs) k = some q.2 := by simp [atKey, List.find?_cons, e']
      rw [valV_pos e, b]; exact h2
    · have e' : ¬ q.1 = k := fun z => e (h1.trans z)
      have b : atKey (q :: qs) k = atKey qs k := by simp [atKey, List.find?_cons, e']
      rw [valV_neg e, b]; exact ih
theorem KT.repl {H : Hp} {kvs : List (List Key × V)} {xs : List (List Key × Addr × Value)} (r : KT H kvs xs) (k : List Key) {y : V} {u : Value} (ry : RelV y u) :
    KT H (kvs.map fun kv => if kv.1 = k then (kv.1, y) else kv) (xs.map (putAt k u)) := by
  induction r with
  | nil => exact .nil
  | @cons p q ps qs h t ih =>
    rw [List.map_cons, List.map_cons]
    refine .cons ?_ ih
    obtain ⟨h1, h2, h3⟩ := h
    unfold putAt
    by_cases e : p.1 = k
    · rw [if_pos e, if_pos (h1.symm.trans e)]; exact ⟨h1, h2, ry⟩
    · rw [if_neg e, if_neg (fun z => e (h1.trans z))]; exact ⟨h1, h2, h3⟩
theorem KT.put {H : Hp} {kvs : List (List Key × V)} {xs : List (List Key × Addr × Value)} (r : KT H kvs xs) (k : List Key) {b : Addr} {y : V} {u : Value} (hb : H b = some (.tup (k.map kV))) (ry : RelV y u) :
    KT H (putK kvs k y) (storedH xs k b u) := by
  have e : (kvs.any fun kv => decide (kv.1 = k)) = (atKey xs k).isSome := by
    rw [valV_any, (r.val k).isSome_eq, Option.isSome_map]
  unfold putK storedH
  rw [e]
  by_cases q : (atKey xs k).isSome = true
  · rw [if_pos q, if_pos q]; exact r.repl k ry
  · rw [if_neg q, if_neg q]; exact Paired.snoc r ⟨rfl, hb, ry⟩
theorem KT.keeps {H H' : Hp} {kvs : List (List Key × V)} {xs : List (List Key × Addr × Value)} (r : KT H kvs xs) (ht : ∀ b ys, H b = some (.tup ys) → H' b = some (.tup ys)) : KT H' kvs xs :=
  Paired.mapP r fun _ _ z => ⟨z.1, ht _ _ z.2.1, z.2.2⟩

section
variable {P : Program} {w : World} {H : Hp} {h : Heap} {a : Addr}
end

/-- what the dict at a holds at the key y -/
def DGet (H : Hp) (a : Addr) (y : V) (r : Option V) : Prop :=
  (∃ kvs k, Rd H a (.dK kvs) ∧ y = kV k ∧ r = valV kvs k) ∨ ∃ kvs k b, Rd H a (.dT kvs) ∧ y = .ref b ∧ H b = some (.tup (k.map kV)) ∧ r = valV kvs k
/-- the heap behind a[y] = v -/
def DPut (H : Hp) (a : Addr) (y v : V) (H' : Hp) : Prop :=
  (∃ kvs k, H a = some (.dK kvs) ∧ y = kV k ∧ kvs.length < sizeLine ∧ H' = upd H a (.dK (putK kvs k v))) ∨
  ∃ kvs k b, H a = some (.dT kvs) ∧ y = .ref b ∧ H b = some (.tup (k.map kV)) ∧ kvs.length < sizeLine ∧ H' = upd H a (.dT (putK kvs k v))
theorem DGet.k {H : Hp} {a : Addr} {kvs : List (Key × V)} {k : Key} (e : H a = some (.dK kvs)) : DGet H a (kV k) (valV kvs k) := .inl ⟨kvs, k, .inl e, rfl, rfl⟩
theorem DGet.t {H : Hp} {a b : Addr} {kvs : List (List Key × V)} {k : List Key} (e : H a = some (.dT kvs)) (eb : H b = some (.tup (k.map kV))) : DGet H a (.ref b) (valV kvs k) := .inr ⟨kvs, k, b, .inl e, rfl, eb, rfl⟩
theorem DPut.k {H : Hp} {a : Addr} {kvs : List (Key × V)} {k : Key} {v : V} (e : H a = some (.dK kvs)) (hl : kvs.length < sizeLine) : DPut H a (kV k) v (upd H a (.dK (putK kvs k v))) := .inl ⟨kvs, k, e, rfl, hl, rfl⟩
theorem DPut.t {H : Hp} {a b : Addr} {kvs : List (List Key × V)} {k : List Key} {v : V} (e : H a = some (.dT kvs)) (eb : H b = some (.tup (k.map kV))) (hl : kvs.length < sizeLine) :
    DPut H a (.ref b) v (upd H a (.dT (putK kvs k v))) := .inr ⟨kvs, k, b, e, rfl, eb, hl, rfl⟩


section
variable {X : Cx} {pins : List (Addr × Obj)} {σ : St} {H : Hp} {s : Shared} {a : Addr} {y v : V} {u r : Value} {o : Option V} {A : Around} {E : Value → Shared → Prop}

end

section
variable {X : Cx} {pins : List (Addr × Obj)} {σ : St} {H : Hp} {s : Shared} {a : Addr} {kvs : List (Key × V)} {k : Key} {u : Value} {A : Around} {E : Value → Shared → Prop}
end


/-! ### readings and rules -/
section
variable {X : Cx} {o i e value : Expr} {pos pos' tpos : Pos} {td ty tv : TE}
end


/-! ### displays -/
section
variable {X : Cx} {pos : Pos}
end

/-! ### methods -/
/-- a method call o.m(e) of a built-in, with one argument: what must be seen of the text -/
structure M1 (X : Cx) (o : Expr) (m : Str) (apos : Pos) (e : Expr) (cpos : Pos) : Prop where
  base : attributeBase o m X.env (eval o X.env) = eval o X.env
  few : ((backTo cpos (starEach [e] X.env)).all (fun x => !x.1) && (backToKw cpos (keywordEach [] X.env)).all (fun x => x.1.isSome)
    && decide (([e] : List Expr).length + ([] : List Keyword).length + (if ([] : List Keyword).isEmpty then 0 else 1) < 30)) = true
  line : (apos.endLine == cpos.line) = true
  trees : backTo cpos (starEach [e] X.env) = [(false, eval e X.env)]
structure M2 (X : Cx) (o : Expr) (m : Str) (apos : Pos) (e f : Expr) (cpos : Pos) : Prop where
  base : attributeBase o m X.env (eval o X.env) = eval o X.env
  few : ((backTo cpos (starEach [e, f] X.env)).all (fun x => !x.1) && (backToKw cpos (keywordEach [] X.env)).all (fun x => x.1.isSome)
    && decide (([e, f] : List Expr).length + ([] : List Keyword).length + (if ([] : List Keyword).isEmpty then 0 else 1) < 30)) = true
  line : (apos.endLine == cpos.line) = true
  trees : backTo cpos (starEach [e, f] X.env) = [(false, eval e X.env), (false, eval f X.env)]

section
variable {X : Cx} {pins : List (Addr × Obj)} {σ : St} {H : Hp} {s : Shared} {a : Addr} {y d : V} {u r : Value} {o : Option V} {A : Around} {E : Value → Shared → Prop}
end

section
variable {X : Cx} {o e f : Expr} {apos cpos : Pos} {td ty tx : TE}
end

/-! ### dict(d): a copy -/
section
variable {X : Cx} {pins : List (Addr × Obj)} {σ : St} {H : Hp} {s : Shared} {a : Addr} {kvs : List (Key × V)} {A : Around} {E : Value → Shared → Prop}
end


section
variable {X : Cx} {pins : List (Addr × Obj)} {σ : St} {H : Hp} {s : Shared} {a : Addr} {y : V} {u : Value} {A : Around} {E : Value → Shared → Prop}
end
end L2

namespace L2
open PySem PySem.Spec PyProof.Rows
section
variable {X : Cx}
end
/-! ### a dict's pairs: keys that differ -/
section
variable {κ : Type} [DecidableEq κ]
end
end L2

set_option Elab.async false
set_option linter.all false
set_option maxRecDepth 100000
set_option maxHeartbeats 4000000
namespace Stow
open PySem L2 PyProof.Rows
/-! ### shifts of large numbers, | 1, is True, kinds of values, a dict's display -/
def CShl (i j : Int) : Prop := 0 ≤ j ∧ j ≤ 1000 ∧ i.natAbs < 2 ^ 220
section
variable {X : Cx}
theorem op_shlB : OpR X (binaryOp .LShift) (rI CShl fun i j => .int (i * 2 ^ j.toNat)) := opI fun i j _ _ _ _ _ hc q =>
  lshift_int hc.1 (by
    obtain ⟨h0, h1, h2⟩ := hc
    have := PyProof.Rows.intBits_le h2
    omega) q
end
theorem r_isB {c d : Bool} {P : Bool → Bool → Prop} (q : P c d) : ∃ c' d', V.bl c = V.bl c' ∧ V.bl d = V.bl d' ∧ P c' d' := ⟨c, d, rfl, rfl, q⟩
theorem bitOr_one (n : Int) : Builtin.bitOr (n * 2) 1 = n * 2 + 1 := by
  rw [PyProof.Rows.bitOr_and]
  have e : Builtin.bitAnd (n * 2) 1 = (n * 2) % 2 := by rw [bitAnd_m1]
  rw [e]
  omega
end Stow

set_option Elab.async false
set_option linter.all false
set_option maxRecDepth 100000
set_option maxHeartbeats 4000000
namespace Stow
open PySem L2 PyProof.Rows
/-! ### list comprehensions with several targets and with names of the def around -/
section
variable {prog : Program} {w : World} {A : Around} {R : Result → Shared → Prop} {s : Shared}
theorem comp_turns {elt tgt src : Expr} {cs : List Expr} {sc : Scope} {ps : Pos} {itv accv : Value} {ev : Env} (J : Nat → Shared → Prop)
    (step : ∀ k t, J k t → wpAny (model prog w) A (pyNext itv) (fun r t1 => match r with
      | none => R (.ok .next) t1
      | some x => wpAny (model prog w) A (letOwnedTupleGo tgt itv x) (fun _ t2 => wpAny (model prog w) A (assign tgt ev x) (fun _ t3 =>
          wpAny (model prog w) A (forIn cs true fun c r => if r = true then do let ok ← isTrue c ev (eval c ev); pure (ForInStep.yield ok) else pure (ForInStep.yield r)) (fun good t4 =>
            if good = true then wpAny (model prog w) A (eval elt ev) (fun y t5 => wpAny (model prog w) A (call (.builtin "list.append") [accv, y]) (fun _ t6 => ∃ j, j < k ∧ J j t6) (notedBy (model prog w) A ev fun e t' => R (.error e) t') t5) (notedBy (model prog w) A ev fun e t' => R (.error e) t') t4
            else ∃ j, j < k ∧ J j t4) (notedBy (model prog w) A ev fun e t' => R (.error e) t') t3) (notedBy (model prog w) A ev fun e t' => R (.error e) t') t2) (notedBy (model prog w) A ev fun e t' => R (.error e) t') t1) (notedBy (model prog w) A ev fun e t' => R (.error e) t') t)
    (k0 : Nat) (j0 : J k0 s) : codeAny (model prog w) A (.compLoop (.ListComp elt [⟨tgt, src, cs, 0⟩] sc ps) 0 itv accv ev) R s := by
  refine codeAny_loop rfl J (fun k t hJ => ?_) k0 j0
  show wpAny _ A ((compTurn (.ListComp elt [⟨tgt, src, cs, 0⟩] sc ps) 0 itv accv ev).onRaise (fun x => do noteFrame x ev; theTreesLotGoes x)) _ _ t
  refine wpAny_noted ?_
  rw [compTurn_list]
  refine wpAny_bind (wpAny_standAt (wpAny_bind (wpAny_mono (step k t hJ) (fun r t1 g1 => ?_) fun _ _ z => z)))
  cases r with
  | none => exact wpAny_pure g1
  | some x =>
    refine wpAny_bind (wpAny_mono g1 (fun _ t2 g2 => ?_) fun _ _ z => z)
    refine wpAny_bind (wpAny_mono g2 (fun _ t3 g3 => ?_) fun _ _ z => z)
    refine wpAny_bind (wpAny_mono g3 (fun good t4 g4 => ?_) fun _ _ z => z)
    cases good with
    | false => exact wpAny_pure ⟨rfl, g4⟩
    | true => exact wpAny_bind (wpAny_bind (wpAny_mono g4 (fun y t5 g5 => wpAny_bind (wpAny_mono g5 (fun _ t6 g6 => wpAny_pure (wpAny_pure ⟨rfl, g6⟩)) fun _ _ z => z)) fun _ _ z => z))
end
theorem closure_go {env : Env} : ∀ (names : List (Str × NameKind)) (acc : List (Str × Addr)), (∀ y ∈ names, y.2 = .free → ∃ c, env.cells.lookup y.1 = some c) → (∀ x c, acc.lookup x = some c → env.cells.lookup x = some c) →
    ∃ cl, (forIn names acc fun x r => (do let (name, kind) := x; if (kind == NameKind.free) = true then do let c ← cellOf env name; pure (ForInStep.yield ((name, c) :: r)) else pure (ForInStep.yield r)) : Sem (List (Str × Addr))) = pure cl ∧
      (∀ x c, cl.lookup x = some c → env.cells.lookup x = some c) ∧ (∀ y ∈ names, y.2 = .free → ∃ c, cl.lookup y.1 = some c) ∧ (∀ x c, acc.lookup x = some c → ∃ c', cl.lookup x = some c')
  | [], acc, _, ha => ⟨acc, by simp, ha, fun y hy => by simp at hy, fun x c e => ⟨c, e⟩⟩
  | (n, k) :: r, acc, h, ha => by
    by_cases hk : k = .free
    · obtain ⟨c, hc⟩ := h (n, k) List.mem_cons_self hk
      obtain ⟨cl, e1, e2, e3, e4⟩ := closure_go r ((n, c) :: acc) (fun y hy => h y (List.mem_cons_of_mem _ hy)) (fun x d e => by
        by_cases hx : x = n
        · subst hx
          rw [List.lookup_cons_self] at e
          cases e
          exact hc
        · rw [List.lookup_cons, show (x == n) = false by simpa using hx] at e
          exact ha x d e)
      refine ⟨cl, ?_, e2, fun y hy hf => ?_, fun x d e => ?_⟩
      · rw [List.forIn_cons]
        subst hk
        have ec : cellOf env n = pure c := by unfold cellOf; rw [hc]
        simp only [beq_self_eq_true, if_true, ec, pure_bind]
        exact e1
      · rcases List.mem_cons.mp hy with z | z
        · subst z
          exact e4 n c (by rw [List.lookup_cons_self])
        · exact e3 y z hf
      · by_cases hx : x = n
        · subst hx
          exact e4 x c (by rw [List.lookup_cons_self])
        · exact e4 x d (by rw [List.lookup_cons, show (x == n) = false by simpa using hx]; exact e)
    · obtain ⟨cl, e1, e2, e3, e4⟩ := closure_go r acc (fun y hy => h y (List.mem_cons_of_mem _ hy)) ha
      refine ⟨cl, ?_, e2, fun y hy hf => ?_, e4⟩
      · rw [List.forIn_cons]
        have : (k == NameKind.free) = false := by simpa using hk
        simp only [this, Bool.false_eq_true, if_false, pure_bind]
        exact e1
      · rcases List.mem_cons.mp hy with z | z
        · subst z
          exact absurd hf hk
        · exact e3 y z hf
theorem closure_ok {scope : Scope} {env : Env} (h : ∀ y ∈ scope.names, y.2 = .free → ∃ c, env.cells.lookup y.1 = some c) :
    ∃ cl, closureFor scope env = pure cl ∧ (∀ x c, cl.lookup x = some c → env.cells.lookup x = some c) ∧ (∀ y ∈ scope.names, y.2 = .free → ∃ c, cl.lookup y.1 = some c) := by
  obtain ⟨cl, e1, e2, e3, _⟩ := closure_go scope.names [] h (fun x c e => by simp at e)
  refine ⟨cl, ?_, e2, e3⟩
  unfold closureFor
  simp only [bind_pure] at *
  exact e1
section
variable {X : Cx}
abbrev Cx.blockG (X : Cx) (scope : Scope) (cl : List (Str × Addr)) (C : Addr) (N : List Str) (s₀ : Shared) (H₀ : Hp) (ex : List Addr) : Cx :=
  { X with N := N, s₀ := s₀, H₀ := H₀, env := compEnvC scope cl C X.env, outer := X.stack, stack := X.stack, ex := ex, fn := fun _ => false, pn := [], xe := fun _ _ => False }
theorem blockG_cx {pins : List (Addr × Obj)} {σ : L2.St} {H : Hp} {s : Shared} {scope : Scope} {cl : List (Str × Addr)} {C : Addr} {N : List Str} {fp : List Addr} (I : Inv X pins σ H s) (hk : scope.kind = .function) (hC : s.heap.objs.size ≤ C)
    (hcl : ∀ x c, cl.lookup x = some c → X.env.cells.lookup x = some c) (hhas : ∀ y, (relabel scope X.env).names.lookup y = some .cell ∨ (relabel scope X.env).names.lookup y = some .free → ∃ c, cl.lookup y = some c)
    (ho : ∀ b ∈ fp, ∃ o, s.heap.get? b = some o ∧ ∀ v, o.data ≠ .cell v) (hf : ∀ b ∈ fp, FpOk X pins H b) :
    (Cx.blockG X scope cl C N s H fp).Ok where
  mod := I.ok.mod
  kind := hk
  glob := I.ok.glob
  blt := I.ok.blt
  above := hC
  inj := fun x y c e1 e2 => I.ok.inj x y c (hcl x c e1) (hcl y c e2)
  has := fun y e => hhas y e
  cab := fun _ _ e => nomatch e
  hd := I.ok.hd
  frames := I.ok.frames
  stk := .inl rfl
  exf := fun b hb => ⟨fun z => by
    obtain ⟨o, e, _⟩ := ho b hb
    have := Nat.lt_of_lt_of_le (Heap.lt_size e) hC
    rw [z] at this
    exact Nat.lt_irrefl _ this, fun x c e => (hf b hb).2.2.2.2.1 x c (hcl x c e)⟩
  bs := I.bs
  bsz := Nat.le_trans I.ok.bsz I.sz
  noex := fun b o e hb => by
    rcases (hf b hb).2.2.2.1 with z | z
    · exact I.ok.noex b o e z
    · exact absurd (Nat.lt_of_lt_of_le (Heap.lt_size (I.ok.bs b o e).1) z) (Nat.lt_irrefl _)
  exfs := fun b hb z => by
    rcases List.mem_cons.mp (I.stkSub b z) with e | e
    · exact (hf b hb).2.1 e
    · exact (hf b hb).2.2.1 e
  funs := I.stack
  frf := I.stkFree
/-- the reading: n own names, then those of the def around at the places is -/
def CompH (n : Nat) (fs : L2.St) (J : It) (g : TG) (tt : TT) (te : TE) (Q : VK) (H1 : Hp) : Prop := ∀ D, H1 D = none → ∃ W : Nat → Nat → List V → Hp → Prop, (∃ m, W 0 m [] (upd H1 D (.lst []))) ∧ ∀ i m ys H2, W i m ys H2 →
  (J.stop i H2 ∧ Q (.ref D) H2) ∨ (J.go i H2 ∧ ∀ x H3, J.yld i H2 x H3 → ∀ τ : L2.St, τ.length = n → g x (τ ++ fs) H3 fun σ1 H4 => (∃ τ' : L2.St, τ'.length = n ∧ σ1 = τ' ++ fs) ∧ tt σ1 H4 fun b H5 =>
    if b = true then te σ1 H5 fun y H6 => H6 D = some (.lst ys) ∧ ys.length < sizeLine ∧ ∃ m', m' < m ∧ W (i + 1) m' (ys ++ [y]) (upd H6 D (.lst (ys ++ [y]))) else ∃ m', m' < m ∧ W (i + 1) m' ys H5)
def tCompG (n : Nat) (is : List Nat) (wi : TI) (g : TG) (tt : TT) (te : TE) : TE := fun σ H Q => wi σ H fun J H1 => CompH n (is.map fun k => σ.getD k none) J g tt te Q H1
/-- the names of the def around -/
def Caught (X : Cx) (scope : Scope) (F : List Str) (is : List Nat) : Prop := F.length = is.length ∧ ∀ (j : Nat) (y : Str) (k : Nat), F[j]? = some y → is[j]? = some k → X.N[k]? = some y ∧ X.env.kindOf y = some .cell ∧ (relabel scope X.env).names.lookup y = some .cell
theorem comp_blockG {elt iter tg : Expr} {pos : Pos} {ifs : List Expr} {scope : Scope} {O F : List Str} {is : List Nat} {cl : List (Str × Addr)} {g : TG} {tt : TT} {te : TE} {pins : List (Addr × Obj)} {σ : L2.St} {s2 : Shared} {H2 : Hp} {it : Addr} {fp : List Addr} {tn : Nat → Heap → Prop} {J : It} {Q : VK} {RR : Value → Addr → Result → Shared → Prop}
    (hc : X.calm = true) (hkind : scope.kind = .function) (hcell : ∀ y ∈ scope.names, y.2 ≠ .cell)
    (hcl : ∀ x c, cl.lookup x = some c → X.env.cells.lookup x = some c) (hhas : ∀ y, (relabel scope X.env).names.lookup y = some .cell ∨ (relabel scope X.env).names.lookup y = some .free → ∃ c, cl.lookup y = some c) (hF : Caught X scope F is)
    (hG : ∀ cl C s₀ H₀ ex, PG (Cx.blockG X scope cl C (O ++ F) s₀ H₀ ex) tg g) (hT : ∀ cl C s₀ H₀ ex, PTs (Cx.blockG X scope cl C (O ++ F) s₀ H₀ ex) ifs tt) (hE : ∀ cl C s₀ H₀ ex, PE (Cx.blockG X scope cl C (O ++ F) s₀ H₀ ex) elt te)
    (I2 : Inv X pins σ H2 s2) (T : Turn X.prog X.w X.K tg J fp it tn) (st2 : tn 0 s2.heap) (f2 : ∀ b ∈ fp, FpOk X pins H2 b)
    (h : CompH O.length (is.map fun k => σ.getD k none) J g tt te Q H2)
    (hRR : ∀ D C H' s', Inv X pins σ H' s' → FpOk X pins H' C → (∃ m, s'.heap.Ns C m) → Q (.ref D) H' → RR (.ref D) C (.ok .next) s') :
    wpAny (model X.prog X.w) X.A (newList []) (fun acc s₃ => wpAny (model X.prog X.w) X.A (newFunctionEnv scope X.env.globals cl [] X.env.qual none .none (some X.env)) (fun cenv s₄ =>
      codeAny (model X.prog X.w) X.A (.compStart (.ListComp elt [⟨tg, iter, ifs, 0⟩] scope pos) 0 (.ref it) acc { cenv with scope := relabel scope X.env }) (RR acc cenv.locals) s₄) X.xe s₃) X.xe s2 := by
  refine wpAny_newObj_type (wpAny_newFunctionEnv hcell (by intro y hy; simp at hy) (fun h₁ hns₁ hsb₁ => ?_) hkind)
  dsimp only at hns₁ hsb₁ ⊢
  generalize hG0 : s2.heap.push { cls := .type "list", dict := none, data := .seq ([] : List Value).toArray } = G at hns₁ hsb₁ ⊢
  have hCs : G.objs.size = s2.heap.objs.size + 1 := by rw [← hG0, Heap.size_push]
  have hDC : s2.heap.objs.size ≠ G.objs.size := by rw [hCs]; exact Nat.ne_of_lt (Nat.lt_succ_self _)
  have hCle : s2.heap.objs.size ≤ G.objs.size := by rw [hCs]; exact Nat.le_succ _
  have old : ∀ b o, s2.heap.get? b = some o → h₁.get? b = some o := fun b o e => hsb₁.extBut b o (by rw [hCs]; exact Nat.ne_of_lt (Nat.lt_succ_of_lt (Heap.lt_size e))) (Heap.get?_push_of_some _ (hG0 ▸ Heap.get?_push_of_some _ e))
  have eD : h₁.get? s2.heap.objs.size = some { cls := .type "list", dict := none, data := .seq ([] : List Value).toArray } := hsb₁.extBut _ _ hDC (Heap.get?_push_of_some _ (hG0 ▸ Heap.get?_push_size _ rfl))
  have nD : H2 s2.heap.objs.size = none := I2.hok.fresh (Nat.le_refl _)
  have nC : H2 G.objs.size = none := I2.hok.fresh hCle
  obtain ⟨W, ⟨m0, w0⟩, turn⟩ := h s2.heap.objs.size nD
  generalize efs : (is.map fun k => σ.getD k none) = fs at turn
  have fre : ∀ b ∈ fp, upd H2 s2.heap.objs.size (.lst []) b = none := fun b hb => by
    obtain ⟨o, e, _⟩ := T.obj _ _ st2 b hb
    rw [upd_ne (Nat.ne_of_lt (Heap.lt_size e))]
    exact (f2 b hb).1
  have loop : ∀ s4 : Shared, s4 = { s2 with heap := h₁, toks := s2.toks + ([] : List (Str × Value)).length } →
      codeAny (model X.prog X.w) X.A (.compLoop (.ListComp elt [⟨tg, iter, ifs, 0⟩] scope pos) 0 (.ref it) (.ref s2.heap.objs.size) (compEnvC scope cl G.objs.size X.env)) (RR (.ref s2.heap.objs.size) G.objs.size) s4 := by
    rintro s4 rfl
    have ok := blockG_cx (N := O ++ F) I2 hkind hCle hcl hhas (T.obj _ _ st2) f2
    have IB : Inv (Cx.blockG X scope cl G.objs.size (O ++ F) s2 H2 fp) [] (List.replicate O.length none ++ fs) (upd H2 s2.heap.objs.size (.lst [])) { s2 with heap := h₁, toks := s2.toks + ([] : List (Str × Value)).length } := by
      refine ⟨ok, rfl, I2.bare, Un.laid old (Nat.le_refl _) nD, ⟨_, hns₁, fun i y v e1 e2 _ => ?_⟩, (fun x c e => ?_), ?_, (fun x c e => ?_), (fun p hp => nomatch hp), I2.hok.laid old (Nat.le_refl _) ⟨Nat.zero_le _, [], 0, .nil, eD⟩, ?_⟩
      · have e1 : (O ++ F)[i]? = some y := e1
        by_cases hi : i < O.length
        · rw [List.getElem?_append_left (by rw [List.length_replicate]; exact hi), List.getElem?_replicate, if_pos hi] at e2
          cases e2
        · rw [List.getElem?_append_right (by omega)] at e1
          rw [List.getElem?_append_right (by rw [List.length_replicate]; omega), List.length_replicate, ← efs, List.getElem?_map] at e2
          obtain ⟨k, ek, ev⟩ := Option.map_eq_some_iff.mp e2
          obtain ⟨g1, g2, g3⟩ := hF.2 _ _ _ e1 ek
          have es : σ[k]? = some (some v) := by
            rw [List.getD_eq_getElem?_getD] at ev
            cases q : σ[k]? with
            | none => rw [q] at ev; cases ev
            | some z => rw [q] at ev; exact congrArg some ev
          obtain ⟨m, hm, hl⟩ := I2.loc
          obtain ⟨u, ru, lk⟩ := hl k y v g1 es (.inr (.inl g2))
          refine ⟨u, ru, .inr ⟨.inl g3, ?_⟩⟩
          rcases lk with ⟨z, _⟩ | ⟨_, c, c1, o, c2, c3⟩
          · rw [g2] at z; cases z
          · obtain ⟨c', e'⟩ := hhas y (.inl g3)
            have := hcl y c' e'
            rw [c1] at this
            cases this
            exact ⟨c, e', o, old c o c2, c3⟩
      · obtain ⟨v, o, c2, c3⟩ := I2.cell x c (hcl x c e)
        exact ⟨v, o, old c o c2, c3⟩
      · show upd H2 s2.heap.objs.size (.lst []) G.objs.size = none
        rw [upd_ne (Ne.symm hDC)]
        exact nC
      · obtain ⟨v, o, c2, c3⟩ := I2.cell x c (hcl x c e)
        show upd H2 s2.heap.objs.size (.lst []) c = none
        rw [upd_ne (Nat.ne_of_lt (Heap.lt_size c2))]
        exact I2.freeC x c (hcl x c e)
      · show (List.replicate O.length none ++ fs).length = (O ++ F).length
        rw [List.length_append, List.length_append, List.length_replicate, ← efs, List.length_map, hF.1]
    have stat : ∀ {H' : Hp}, (∀ b ∈ fp, H' b = none) → ∀ b ∈ fp, FpOk (Cx.blockG X scope cl G.objs.size (O ++ F) s2 H2 fp) [] H' b := fun hn b hb =>
      ⟨hn b hb, (ok.exf b hb).1, ok.exfs b hb, .inl hb, (ok.exf b hb).2, (fun p hp => nomatch hp)⟩
    refine comp_turns (fun n s' => ∃ i ys τ H', Inv (Cx.blockG X scope cl G.objs.size (O ++ F) s2 H2 fp) [] (τ ++ fs) H' s' ∧ τ.length = O.length ∧ tn i s'.heap ∧ (∀ b ∈ fp, H' b = none) ∧ W i n ys H') ?_ m0
      ⟨0, [], _, _, IB, List.length_replicate, T.keep _ _ _ st2 fun b _ o e => old b o e, fre, w0⟩
    rintro n s3 ⟨i, ys, τ, H3, I3, hτ, st3, fr3, w3⟩
    rcases turn i n ys H3 w3 with ⟨stop, q⟩ | ⟨go, step⟩
    · refine wpAny_mono (T.done (Cx.blockG X scope cl G.objs.size (O ++ F) s2 H2 fp) rfl rfl rfl hc i [] s3 (τ ++ fs) H3 (fun _ _ => False) I3 (stat fr3) st3 stop) (fun r s4 ⟨hr, I4⟩ => ?_) (fun _ _ z => z.elim)
      subst hr
      obtain ⟨m, hn, _⟩ := I4.loc
      refine hRR _ G.objs.size H3 s4 (I2.call' (ch := fp) I4.os I4.base I4.hok I4.bare fun b hb => ?_) (I2.fpOk hCle I4.free) ⟨m, hn⟩ q
      obtain ⟨g0, g1, g2, g3, g4, g5⟩ := f2 b hb
      exact ⟨g3, g1, g4, g5⟩
    · refine wpAny_mono (T.item (Cx.blockG X scope cl G.objs.size (O ++ F) s2 H2 fp) rfl rfl rfl hc i [] s3 (τ ++ fs) H3 (fun _ _ => False) I3 (stat fr3) st3 go) (fun r s4 ⟨u, hr, h4⟩ => ?_) (fun _ _ z => z.elim)
      subst hr
      refine wpAny_mono h4 (fun _ s5 ⟨v, H5, I5, r5, y5, st5, fr5⟩ => ?_) (fun _ _ z => z.elim)
      have I5' := I5.pinned (stat fr5) (T.obj _ _ st5)
      refine wpAny_mono (hG _ _ _ _ _ _ s5 (τ ++ fs) H5 v u _ I5' r5 (step v H5 y5 τ hτ)) (fun _ s6 ⟨σ6, H6, I6, ⟨τ', hτ', e6⟩, q6⟩ => ?_) (fun _ _ z => z.elim)
      subst e6
      have again : ∀ {s7 : Shared} {H7 : Hp} {ys' : List V} {m' : Nat}, Inv (Cx.blockG X scope cl G.objs.size (O ++ F) s2 H2 fp) ([] ++ pinsAt fp s5.heap) (τ' ++ fs) H7 s7 → m' < n → W (i + 1) m' ys' H7 →
          ∃ m, m < n ∧ ∃ i ys τ H', Inv (Cx.blockG X scope cl G.objs.size (O ++ F) s2 H2 fp) [] (τ ++ fs) H' s7 ∧ τ.length = O.length ∧ tn i s7.heap ∧ (∀ b ∈ fp, H' b = none) ∧ W i m ys H' := fun {s7 H7 ys' m'} I7 hm w7 => by
        refine ⟨m', hm, i + 1, ys', τ', H7, I7.unpinned, hτ', T.keep _ _ _ st5 fun b hb o e => (I7.pin (b, o) (List.mem_append_right _ (List.mem_append_right _ (mem_pinsAt hb e)))).1, fun b hb => ?_, w7⟩
        obtain ⟨o, e, _⟩ := T.obj _ _ st5 b hb
        exact (I7.pin (b, o) (List.mem_append_right _ (List.mem_append_right _ (mem_pinsAt hb e)))).2.1
      refine wpAny_mono (hT _ _ _ _ _ _ s6 (τ' ++ fs) H6 _ I6 q6) (fun b s7 ⟨H7, I7, q7⟩ => ?_) (fun _ _ z => z.elim)
      cases b with
      | false =>
        obtain ⟨m', hm, w7⟩ := q7
        exact again I7 hm w7
      | true =>
        rw [if_pos rfl]
        refine wpAny_mono (hE _ _ _ _ _ _ s7 (τ' ++ fs) H7 _ I7 q7) (fun y' s8 ⟨y, H8, I8, ry, hD, hz, m', hm, w8⟩ => ?_) (fun _ _ z => z.elim)
        refine wpAny_mono (mt_append (X := Cx.blockG X scope cl G.objs.size (O ++ F) s2 H2 fp) _ s8 (τ' ++ fs) H8 (.ref s2.heap.objs.size) [y] (.ref s2.heap.objs.size) [y'] (fun _ H9 => H9 = upd H8 s2.heap.objs.size (.lst (ys ++ [y]))) I8 rfl (.cons ry .nil) ⟨s2.heap.objs.size, ys, y, rfl, rfl, hD, hz, rfl⟩) (fun _ s9 ⟨_, H9, I9, _, e9⟩ => ?_) (fun _ _ z => z.elim)
        subst e9
        exact again I9 hm w8
  exact codeAny_compStart_list (loop _ rfl) (T.self _ 0 _ _ _ (T.keep _ _ _ st2 fun b _ o e => old b o e) (loop _ rfl))
/-- [elt for targets in iter (if c)] -/
theorem pe_compG {elt iter tg : Expr} {pos : Pos} {ifs : List Expr} {scope : Scope} {wi : TI} {g : TG} {tt : TT} {te : TE} (O F : List Str) (is : List Nat) (hc : X.calm = true) (hi : PI X tg iter wi)
    (hG : ∀ cl C s₀ H₀ ex, PG (Cx.blockG X scope cl C (O ++ F) s₀ H₀ ex) tg g) (hT : ∀ cl C s₀ H₀ ex, PTs (Cx.blockG X scope cl C (O ++ F) s₀ H₀ ex) ifs tt) (hE : ∀ cl C s₀ H₀ ex, PE (Cx.blockG X scope cl C (O ++ F) s₀ H₀ ex) elt te)
    (hF : Caught X scope F is) (hfc : ∀ y ∈ scope.names, y.2 = .free → X.env.kindOf y.1 = some .cell) (hrl : ∀ y, (relabel scope X.env).names.lookup y = some .cell ∨ (relabel scope X.env).names.lookup y = some .free → ∃ z ∈ scope.names, z.1 = y ∧ z.2 = .free)
    (hkind : scope.kind = .function := by rfl) (hcell : ∀ y ∈ scope.names, y.2 ≠ .cell := by decide +kernel)
    (hnames : ∀ y ∈ scope.names, y.2 = .local → scope.names.lookup y.1 = some .local := by decide +kernel) (hs : ∀ y, foldedSetIterable iter X.env y = pure y := by intro _; rfl) :
    PE X (.ListComp elt [⟨tg, iter, ifs, 0⟩] scope pos) (tCompG O.length is wi g tt te) := by
  intro pins s σ H Q I h
  rw [eval_ListComp]
  obtain ⟨cl, hcf, hcl, hca⟩ := closure_ok (scope := scope) (env := X.env) fun y hy hf => I.ok.has y.1 (.inl (hfc y hy hf))
  refine wpAny_comprehension_free (use := none) (cl := cl) rfl hs hcf hkind hnames (wpAny_mono (hi pins s σ H _ I h) (fun v s1 h1 => wpAny_mono h1 (fun itv s2 h2 => ?_) fun _ _ e => e) fun _ _ e => e)
  obtain ⟨it, fp, tn, J, H2, e, I2, T, st2, f2, R2⟩ := h2
  subst e
  refine comp_blockG (O := O) (F := F) (is := is) (Q := Q) (RR := fun acc C => compPost (model X.prog X.w) X.A X.xe none (EP X pins σ Q) acc C) hc hkind hcell hcl (fun y hy => ?_) hF hG hT hE I2 T st2 f2 R2 ?_
  · obtain ⟨z, hz, e1, e2⟩ := hrl y hy
    subst e1
    exact hca z hz e2
  · rintro D C H' s' I' f' ⟨m, hn⟩ q
    obtain ⟨f0, f1, f2', f3, f4, f5⟩ := f'
    refine ⟨m, hn, fun h' sb => ⟨.ref D, H', I'.turned (t' := s'.toks) (fun b o hb e => (sb.2 b hb).trans e) f0 f1 f3 f4 f5, rfl, q⟩⟩
/-- name = [elt for targets in iter (if c)] -/
theorem ps_setCompG {elt iter tg : Expr} {y : Str} {py pos spos : Pos} {ifs : List Expr} {scope : Scope} {wi : TI} {g : TG} {tt : TT} {te : TE} {i : Nat} (O F : List Str) (is : List Nat) (hN : X.N.Nodup) (hi0 : X.N[i]? = some y) (hy : Loc X.env.scope y) (hc : X.calm = true) (hi : PI X tg iter wi)
    (hG : ∀ cl C s₀ H₀ ex, PG (Cx.blockG X scope cl C (O ++ F) s₀ H₀ ex) tg g) (hT : ∀ cl C s₀ H₀ ex, PTs (Cx.blockG X scope cl C (O ++ F) s₀ H₀ ex) ifs tt) (hE : ∀ cl C s₀ H₀ ex, PE (Cx.blockG X scope cl C (O ++ F) s₀ H₀ ex) elt te)
    (hF : Caught X scope F is) (hfc : ∀ y ∈ scope.names, y.2 = .free → X.env.kindOf y.1 = some .cell) (hrl : ∀ y, (relabel scope X.env).names.lookup y = some .cell ∨ (relabel scope X.env).names.lookup y = some .free → ∃ z ∈ scope.names, z.1 = y ∧ z.2 = .free)
    (hsw : swapsWith (.ListComp elt [⟨tg, iter, ifs, 0⟩] scope pos) (some (.Name y py)) spos.line X.env = pure true := by rfl)
    (hkind : scope.kind = .function := by rfl) (hcell : ∀ y ∈ scope.names, y.2 ≠ .cell := by decide +kernel)
    (hnames : ∀ y ∈ scope.names, y.2 = .local → scope.names.lookup y.1 = some .local := by decide +kernel) (hs : ∀ y, foldedSetIterable iter X.env y = pure y := by intro _; rfl)
    (hf : X.fn y = true ∨ X.env.scope.names.lookup y = some .local := by first | exact .inl rfl | exact .inr rfl | assumption) :
    PS X (.Assign [.Name y py] (.ListComp elt [⟨tg, iter, ifs, 0⟩] scope pos) spos) (tAsg (tCompG O.length is wi g tt te) (gName i)) := by
  intro pins s σ H D I h
  rw [exec_Assign_Name_used _ _ _ _ hsw]
  obtain ⟨cl, hcf, hcl, hca⟩ := closure_ok (scope := scope) (env := X.env) fun y hy hf => I.ok.has y.1 (.inl (hfc y hy hf))
  refine wpAny_bind (wpAny_standAt (wpAny_bind ?_))
  show wpAny _ X.A (do let _ ← comprehension (.ListComp elt [⟨tg, iter, ifs, 0⟩] scope pos) scope X.env _ (newList []) false (eval iter X.env) (some (assign (.Name y py) X.env))) _ _ s
  refine wpAny_bind (wpAny_mono (wpAny_comprehension_free (use := some (assign (.Name y py) X.env)) (cl := cl) (Q := fun _ s' => SP X pins D .next s') rfl hs hcf hkind hnames
    (wpAny_mono (hi pins s σ H _ I h) (fun v s1 h1 => wpAny_mono h1 (fun itv s2 h2 => ?_) fun _ _ e => e) fun _ _ e => e)) (fun _ s' hq => wpAny_pure (wpAny_pure hq)) fun _ _ e => e)
  obtain ⟨it, fp, tn, J, H2, e, I2, T, st2, f2, R2⟩ := h2
  subst e
  refine comp_blockG (O := O) (F := F) (is := is) (Q := fun v H1 => gName i v σ H1 D.nx) (RR := fun acc C => compPost (model X.prog X.w) X.A X.xe (some (assign (.Name y py) X.env)) (fun _ s' => SP X pins D .next s') acc C) hc hkind hcell hcl (fun y hy => ?_) hF hG hT hE I2 T st2 f2 R2 ?_
  · obtain ⟨z, hz, e1, e2⟩ := hrl y hy
    subst e1
    exact hca z hz e2
  · rintro D' C H' s' I' f' ⟨m, hn⟩ q
    obtain ⟨f0, f1, f2', f3, f4, f5⟩ := f'
    show wpAny _ X.A (assign (.Name y py) X.env (.ref D')) _ _ _
    refine wpAny_assign_Name (store_ok2 I' hN hi0 hy (v := .ref D') rfl (fun s'' I'' ⟨a, sb, ha⟩ => ?_) hf)
    have ne : C ≠ a := by
      rcases ha with e | e
      · rw [e]; exact f1
      · exact fun z => f4 _ _ e z.symm
    exact ⟨m, hn.sameBut sb ne, fun h' sb' => ⟨_, H', I''.turned (t' := s''.toks) (fun b o hb e => (sb'.2 b hb).trans e) f0 f1 f3 f4 f5, q⟩⟩
theorem ix_tupK {K : PySem.W.Frag} (hK : X.K = K) : IxR X (rIxT K) := hK ▸ ix_tup
theorem pt_truthK {K : PySem.W.Frag} {a : Expr} {ta : TE} (hK : X.K = K) (ha : PE X a ta) (he : ∀ whole, isTrue a X.env whole = (do let v ← whole; standAt a.pos; holding [v] (truthy v))) : PT X a (fun σ H Q => ta σ H fun x H' => ∃ k, TruV K x H' k ∧ Q k H') := by
  subst hK
  exact pt_truth ha he
theorem relabel_free {scope : Scope} {env : Env} {y : Str} (hcell : ∀ z ∈ scope.names, z.2 ≠ .cell) (h : (relabel scope env).names.lookup y = some .cell ∨ (relabel scope env).names.lookup y = some .free) : ∃ z ∈ scope.names, z.1 = y ∧ z.2 = .free := by
  have key : ∀ (l : List (Str × NameKind)) (k : NameKind), l.lookup y = some k → (y, k) ∈ l := by
    intro l k
    induction l with
    | nil => intro e; cases e
    | cons p r ih =>
      intro e
      obtain ⟨n, k'⟩ := p
      rw [List.lookup_cons] at e
      cases hb : y == n with
      | true =>
        rw [hb] at e
        cases e
        rw [eq_of_beq hb]
        exact List.mem_cons_self
      | false => rw [hb] at e; exact List.mem_cons_of_mem _ (ih e)
  have fin : ∀ k, (relabel scope env).names.lookup y = some k → k = .cell ∨ k = .free → ∃ z ∈ scope.names, z.1 = y ∧ z.2 = .free := fun k e hk => by
    obtain ⟨z, hz, ez⟩ := List.mem_map.mp (key _ _ e)
    obtain ⟨n, k0⟩ := z
    dsimp only at ez
    split at ez
    · rename_i hc
      simp only [Bool.and_eq_true, beq_iff_eq] at hc
      cases ez
      exact ⟨(y, k0), hz, rfl, hc.1.1⟩
    · cases ez
      rcases hk with rfl | rfl
      · exact absurd rfl (hcell _ hz)
      · exact ⟨_, hz, rfl, rfl⟩
  rcases h with h | h
  · exact fin _ h (.inl rfl)
  · exact fin _ h (.inr rfl)
theorem caught_nil {scope : Scope} : Caught X scope [] [] := ⟨rfl, fun j y k e => by simp at e⟩
theorem caught_one {scope : Scope} {y : Str} {k : Nat} (h1 : X.N[k]? = some y) (h2 : X.env.kindOf y = some .cell) (h3 : (relabel scope X.env).names.lookup y = some .cell) : Caught X scope [y] [k] := ⟨rfl, fun j z i e1 e2 => by
  cases j with
  | zero =>
    have g1 : y = z := by simpa using e1
    have g2 : k = i := by simpa using e2
    subst g1 g2
    exact ⟨h1, h2, h3⟩
  | succ j => simp at e1⟩
theorem free_one {scope : Scope} {n : Str} (h : ∀ y ∈ scope.names, y.2 = .free → y.1 = n) (k : X.env.kindOf n = some .cell) : ∀ y ∈ scope.names, y.2 = .free → X.env.kindOf y.1 = some .cell := fun y hy hf => by rw [h y hy hf]; exact k
/-- without names of the def around -/
theorem pe_compN {elt iter tg : Expr} {pos : Pos} {ifs : List Expr} {scope : Scope} {wi : TI} {g : TG} {tt : TT} {te : TE} (O : List Str) (hc : X.calm = true) (hi : PI X tg iter wi)
    (hG : ∀ cl C s₀ H₀ ex, PG (Cx.blockG X scope cl C (O ++ []) s₀ H₀ ex) tg g) (hT : ∀ cl C s₀ H₀ ex, PTs (Cx.blockG X scope cl C (O ++ []) s₀ H₀ ex) ifs tt) (hE : ∀ cl C s₀ H₀ ex, PE (Cx.blockG X scope cl C (O ++ []) s₀ H₀ ex) elt te)
    (hfree : ∀ y ∈ scope.names, y.2 ≠ .free := by decide +kernel) (hkind : scope.kind = .function := by rfl) (hcell : ∀ y ∈ scope.names, y.2 ≠ .cell := by decide +kernel)
    (hnames : ∀ y ∈ scope.names, y.2 = .local → scope.names.lookup y.1 = some .local := by decide +kernel) (hs : ∀ y, foldedSetIterable iter X.env y = pure y := by intro _; rfl) :
    PE X (.ListComp elt [⟨tg, iter, ifs, 0⟩] scope pos) (tCompG O.length [] wi g tt te) :=
  pe_compG O [] [] hc hi hG hT hE caught_nil (fun y hy hf => absurd hf (hfree y hy)) (fun y h => relabel_free hcell h) hkind hcell hnames hs
theorem ps_setCompN {elt iter tg : Expr} {y : Str} {py pos spos : Pos} {ifs : List Expr} {scope : Scope} {wi : TI} {g : TG} {tt : TT} {te : TE} {i : Nat} (O : List Str) (hN : X.N.Nodup) (hi0 : X.N[i]? = some y) (hy : Loc X.env.scope y) (hc : X.calm = true) (hi : PI X tg iter wi)
    (hG : ∀ cl C s₀ H₀ ex, PG (Cx.blockG X scope cl C (O ++ []) s₀ H₀ ex) tg g) (hT : ∀ cl C s₀ H₀ ex, PTs (Cx.blockG X scope cl C (O ++ []) s₀ H₀ ex) ifs tt) (hE : ∀ cl C s₀ H₀ ex, PE (Cx.blockG X scope cl C (O ++ []) s₀ H₀ ex) elt te)
    (hsw : swapsWith (.ListComp elt [⟨tg, iter, ifs, 0⟩] scope pos) (some (.Name y py)) spos.line X.env = pure true := by rfl)
    (hfree : ∀ y ∈ scope.names, y.2 ≠ .free := by decide +kernel) (hkind : scope.kind = .function := by rfl) (hcell : ∀ y ∈ scope.names, y.2 ≠ .cell := by decide +kernel)
    (hnames : ∀ y ∈ scope.names, y.2 = .local → scope.names.lookup y.1 = some .local := by decide +kernel) (hs : ∀ y, foldedSetIterable iter X.env y = pure y := by intro _; rfl)
    (hf : X.fn y = true ∨ X.env.scope.names.lookup y = some .local := by first | exact .inl rfl | exact .inr rfl | assumption) :
    PS X (.Assign [.Name y py] (.ListComp elt [⟨tg, iter, ifs, 0⟩] scope pos) spos) (tAsg (tCompG O.length [] wi g tt te) (gName i)) :=
  ps_setCompG O [] [] hN hi0 hy hc hi hG hT hE caught_nil (fun y hy hf => absurd hf (hfree y hy)) (fun y h => relabel_free hcell h) hsw hkind hcell hnames hs hf
end
section
variable {K : PySem.W.Frag} {σ : L2.St} {H : Hp} {Q : VK}
theorem r_compG {n : Nat} {is : List Nat} {wi : TI} {g : TG} {tt : TT} {te : TE} (h : wi σ H fun J H1 => CompH n (is.map fun k => σ.getD k none) J g tt te Q H1) : tCompG n is wi g tt te σ H Q := h
/-- one turn more -/
def Nx (n : Nat) (Pv : Addr → Nat → List V → Hp → Prop) (D : Addr) (i : Nat) (ys : List V) (H2 : Hp) : Prop := ∃ m', m' < n - i ∧ m' = n - (i + 1) ∧ i + 1 ≤ n ∧ Pv D (i + 1) ys H2
theorem nx_mk {n : Nat} {Pv : Addr → Nat → List V → Hp → Prop} {D : Addr} {i : Nat} {ys : List V} {H2 : Hp} (hi : i < n) (p : Pv D (i + 1) ys H2) : Nx n Pv D i ys H2 := ⟨_, by omega, rfl, hi, p⟩
/-- a comprehension over a list, by an invariant of one's own -/
theorem compH_list {a : Addr} {xs : List V} {n : Nat} {fs : L2.St} {g : TG} {tt : TT} {te : TE} (Pv : Addr → Nat → List V → Hp → Prop) (h0 : ∀ D, H D = none → Pv D 0 [] (upd H D (.lst [])))
    (hl : ∀ D i ys H2, i ≤ xs.length → Pv D i ys H2 → SqL K H2 a xs)
    (hs : ∀ D i x ys H2, H D = none → xs[i]? = some x → Pv D i ys H2 → ∀ τ : L2.St, τ.length = n → g x (τ ++ fs) H2 fun σ1 H4 => (∃ τ' : L2.St, τ'.length = n ∧ σ1 = τ' ++ fs) ∧ tt σ1 H4 fun b H5 =>
      if b = true then te σ1 H5 fun y H6 => H6 D = some (.lst ys) ∧ ys.length < sizeLine ∧ Nx xs.length Pv D i (ys ++ [y]) (upd H6 D (.lst (ys ++ [y]))) else Nx xs.length Pv D i ys H5)
    (hd : ∀ D ys H2, H D = none → Pv D xs.length ys H2 → Q (.ref D) H2) : CompH n fs (Itl K a) g tt te Q H := by
  intro D hD
  refine ⟨fun i m ys H2 => m = xs.length - i ∧ i ≤ xs.length ∧ Pv D i ys H2, ⟨_, rfl, Nat.zero_le _, h0 D hD⟩, ?_⟩
  rintro i m ys H2 ⟨rfl, hi, p⟩
  have q := hl D i ys H2 hi p
  by_cases hlt : i < xs.length
  · refine .inr ⟨⟨xs, xs[i], q, by simp [hlt]⟩, fun x H3 y τ hτ => ?_⟩
    obtain ⟨e, y⟩ := y
    subst e
    have ex := y xs q
    exact hs D i x ys _ hD ex p τ hτ
  · have e : i = xs.length := by omega
    subst e
    exact .inl ⟨⟨xs, q, Nat.le_refl _⟩, hd D ys H2 hD p⟩
end
end Stow
namespace Stow
open PySem L2 PyProof.Rows
/-! ### min of a list whose items are compared by what stands in the heap -/
section
variable {prog : Program} {w : World} {A : Around} {R : Result → Shared → Prop} {I : Addr} {fp wr : List Addr} {n : Nat} {P : Nat → Value → Prop} {St : Nat → Heap → Prop}
/-- Kp: what the items' compare asks of the heap -/
def CmpKp (prog : Program) (w : World) (A : Around) (Kp : Heap → Prop) (P : Nat → Value → Prop) (bt : Nat → Nat → Bool) : Prop :=
  ∀ i j x y (t : Shared) (Q : Value → Shared → Prop) (E : Value → Shared → Prop), Kp t.heap → P i x → P j y → Q (.bool (bt i j)) t → wpAny (model prog w) A (richCompare .Lt x y) Q E t
end
section
variable {prog : Program} {w : World} {A : Around} {E : Value → Shared → Prop} {s : Shared}
end
/-- the place of the least one, the first of alike ones -/
def minAt (xs : List (List Int)) : Nat → Nat
  | 0 => 0
  | k + 1 => if HT.lexLt (xs.getD (k + 1) []) (xs.getD (minAt xs k) []) then k + 1 else minAt xs k
theorem minAt_best (xs : List (List Int)) : ∀ k, argBest (fun i j => HT.lexLt (xs.getD i []) (xs.getD j [])) k = minAt xs k
  | 0 => rfl
  | k + 1 => by
    unfold argBest minAt
    rw [minAt_best xs k]
theorem minAt_le (xs : List (List Int)) : ∀ k, minAt xs k ≤ k
  | 0 => Nat.le_refl 0
  | k + 1 => by
    unfold minAt
    have := minAt_le xs k
    split <;> omega
section
variable {X : Cx}
end
end Stow
namespace Stow
open PySem L2 PyProof.Rows
/-! ### own objects: isinstance, and the steps of their readings -/
structure InsK (K : PySem.W.Frag) (C : Addr) : Prop where
  cl : Cls K C
  ha : PySem.W.findIn K (.ref C) "__class__" = some (some (.builtin "object.__class__"))
  hn : PySem.W.specialIn K (.builtin "object.__class__") "__get__" = some (some (.builtin "getset_descriptor.__get__"))
  htk : PySem.W.takesIn K (.builtin "object.__class__") = some true
  hm : PySem.W.mroIn K C (.type "object") = some true
section
variable {X : Cx}
end
section
variable {K : PySem.W.Frag} {σ : L2.St} {H : Hp} {Q : VK} {D : Ends}
theorem r_isiO {a C dx C' : Addr} {fs : List (Str × V)} {b : Bool} {P : Bool → Prop} (h : H a = some (.ins C dx fs)) (z : InsK K C) (e : PySem.W.kitOne K (.ref C) (.ref C') = some b) (q : P b) :
    ∃ a' C1 dx' fs' C2 b', [V.ref a, V.ref C'] = [V.ref a', V.ref C2] ∧ H a' = some (.ins C1 dx' fs') ∧ InsK K C1 ∧ PySem.W.kitOne K (.ref C1) (.ref C2) = some b' ∧ P b' := ⟨a, C, dx, fs, C', b, rfl, h, z, e, q⟩
theorem r_sat {a C dx : Addr} {fs : List (Str × V)} {f : Str} {R : Addr → Addr → Addr → List (Str × V) → Prop} (h : H a = some (.ins C dx fs)) (c : Cls K C) (n : NoAttr K C f) (l : fs.length < 1000) (q : R a C dx fs) :
    ∃ a' C' dx' fs', V.ref a = V.ref a' ∧ H a' = some (.ins C' dx' fs') ∧ Cls K C' ∧ NoAttr K C' f ∧ fs'.length < 1000 ∧ R a' C' dx' fs' := ⟨a, C, dx, fs, rfl, h, c, n, l, q⟩
theorem r_mat {a C dx : Addr} {fs : List (Str × V)} {m : Str} {P : Prop} (h : H a = some (.ins C dx fs)) (l : fs.lookup m = none) (q : P) :
    ∃ a' dx' fs', V.ref a = V.ref a' ∧ H a' = some (.ins C dx' fs') ∧ fs'.lookup m = none ∧ P := ⟨a, dx, fs, rfl, h, l, q⟩
theorem r_make {C : Addr} {sp : Sp} {E : XK} {t : TA} (h : t σ H fun vs H1 => ∀ x dx, H1 x = none → H1 dx = none → dx ≠ x → sp (.ref x :: vs) (upd (upd H1 dx (.own x)) x (.ins C dx [])) (fun v H2 => v = .non ∧ Q (.ref x) H2) E) : tMake C sp [] E t σ H Q := by
  unfold tMake
  simp only [List.append_nil]
  exact h
end
section
variable {X : Cx}
end
/-- all but x stays -/
def KeepX (x : Addr) (H H' : Hp) : Prop := ∀ b o, b ≠ x → H b = some o → H' b = some o
theorem KeepX.refl {x : Addr} {H : Hp} : KeepX x H H := fun _ _ _ h => h
theorem KeepX.of {x : Addr} {H H' : Hp} (s : Same H H') : KeepX x H H' := fun b o _ h => s b o h
theorem KeepX.trans {x : Addr} {H H' H'' : Hp} (s : KeepX x H H') (t : KeepX x H' H'') : KeepX x H H'' := fun b o n h => t b o n (s b o n h)
theorem KeepX.put {x : Addr} {H H' : Hp} {o : HO} (s : KeepX x H H') : KeepX x H (upd H' x o) := fun b o' n h => look_ne n (s b o' n h)
end Stow

set_option Elab.async false
set_option linter.all false
set_option maxRecDepth 100000
set_option maxHeartbeats 4000000
namespace Stow
/-! ### blocks of a power of two (numbers alone) -/
end Stow
namespace Stow
open PySem L2 PyProof.Rows
/-! ### a method with a default; a try over an if; steps -/
structure MethD (P : Program) (w : World) (K : PySem.W.Frag) (mg : Str → Option Value) (base : Heap) (C : Addr) (m : Str) (j : Nat) (ps : List Str) (dvs : List V) (sp : Sp) : Prop where
  all : Methx P w K mg base C m j ps [] sp
  less : Methx P w K mg base C m j ps dvs sp
abbrev TXS := Ends → XK → L2.St → Hp → Prop
def xSet (i : Nat) (t : TX) : TXS := fun D EX σ H => t σ H (fun v H2 => D.nx (σ.set i (some v)) H2) EX
def xIf (c : TT) (t u : TXS) : TXS := fun D EX σ H => c σ H fun b H1 => if b = true then t D EX σ H1 else u D EX σ H1
def tTryS (t : TXS) (th : TH) : TS := fun D σ H => t D (fun c od H2 => ∃ C, c = .ref C ∧ ∀ x, H2 x = none → th x C D σ (upd H2 x (ExcO x C od))) σ H
section
variable {X : Cx} {e c : Expr} {t : TX} {tc : TT} {ta tb ts : TXS} {a b ss : List Stmt} {pos epos : Pos} {hs : List ExceptHandler} {th : TH}
end
section
variable {K : PySem.W.Frag} {σ : L2.St} {H : Hp} {Q : VK} {D : Ends} {EX : XK}
theorem r_tryS {t : TXS} {th : TH} (h : t D (fun c od H2 => ∃ C, c = .ref C ∧ ∀ x, H2 x = none → th x C D σ (upd H2 x (ExcO x C od))) σ H) : tTryS t th D σ H := h
theorem r_xSet {i : Nat} {t : TX} (h : t σ H (fun v H2 => D.nx (σ.set i (some v)) H2) EX) : xSet i t D EX σ H := h
theorem r_xIf {c : TT} {t u : TXS} (h : c σ H fun b H1 => if b = true then t D EX σ H1 else u D EX σ H1) : xIf c t u D EX σ H := h
theorem r_xMethD {C : Addr} {m : Str} {sp : Sp} {ta : TE} {t : TA} {dvs : List V} (h : ta σ H fun x H1 => ∃ a dx fs, x = .ref a ∧ H1 a = some (.ins C dx fs) ∧ fs.lookup m = none ∧ t σ H1 fun vs H2 => sp (x :: (vs ++ dvs)) H2 Q EX) : xMeth C m sp dvs ta t σ H Q EX := h
theorem r_xMake {C : Addr} {sp : Sp} {t : TA} (h : t σ H fun vs H1 => ∀ x dx, H1 x = none → H1 dx = none → dx ≠ x → sp (.ref x :: vs) (upd (upd H1 dx (.own x)) x (.ins C dx [])) (fun v H2 => v = .non ∧ Q (.ref x) H2) EX) : xMake C sp [] t σ H Q EX := by
  unfold xMake
  simp only [List.append_nil]
  exact h
theorem r_notIn {x : V} {p : Addr} {xs : List V} {P : Bool → Prop} (h : H p = some (.lst xs)) (f : flatV x = true) (fs : xs.all flatV = true) (q : P (!inV x xs)) : ∃ p' ys, V.ref p = V.ref p' ∧ (SqL K H p' ys ∨ SqT K H p' ys) ∧ flatV x = true ∧ ys.all flatV = true ∧ P (if true = true then !inV x ys else inV x ys) :=
  ⟨p, xs, rfl, .inl (SqL.of h), f, fs, q⟩
end
end Stow

set_option Elab.async false
set_option linter.all false
set_option maxRecDepth 100000
set_option maxHeartbeats 4000000
namespace Stow
/-! ### shelves (numbers alone) -/
/-- cells behind one another: the marks of the first ones, then those of the others as they lie there -/
theorem Marks.app {cs ds : List Int} {ps qs : List Pc} (h0 : EndBy ps cs.length) (m : Marks cs ps) (h1 : FromOn qs 0) (k : Marks ds qs) :
    Marks (cs ++ ds) (ps ++ qs.map fun q => ⟨q.a + cs.length, q.l, q.v⟩) := by
  intro p hp
  rcases List.mem_append.mp hp with h | h
  · obtain ⟨a0, a1, a2⟩ := h0 p h
    obtain ⟨m1, m2⟩ := m p h
    exact ⟨by rw [List.getElem?_append_left (by omega)]; exact m1, by rw [List.getElem?_append_left (by omega)]; exact m2⟩
  · obtain ⟨q, hq, rfl⟩ := List.mem_map.mp h
    obtain ⟨b0, b1⟩ := h1 q hq
    obtain ⟨m1, m2⟩ := k q hq
    constructor
    · show (cs ++ ds)[(q.a + cs.length).toNat]? = some (mkOf q.l q.v)
      rw [List.getElem?_append_right (by omega), show (q.a + cs.length).toNat - cs.length = q.a.toNat by omega]
      exact m1
    · show (cs ++ ds)[(q.a + cs.length + q.l - 1).toNat]? = some (mkOf q.l q.v)
      rw [List.getElem?_append_right (by omega), show (q.a + cs.length + q.l - 1).toNat - cs.length = (q.a + q.l - 1).toNat by omega]
      exact m2
end Stow
namespace Stow
open PySem L2 PyProof.Rows
/-! ### three names of the def around in a comprehension; range with a step -/
section
variable {X : Cx}
end
section
variable {X : Cx} {tg : Expr}
end
theorem compH_range {H : Hp} {Q : VK} {lo : Int} {n k : Nat} {fs : L2.St} {g : TG} {tt : TT} {te : TE} (Pv : Addr → Nat → List V → Hp → Prop) (h0 : ∀ D, H D = none → Pv D 0 [] (upd H D (.lst [])))
    (hs : ∀ D i ys H2, H D = none → i < n → Pv D i ys H2 → ∀ τ : L2.St, τ.length = k → g (.int (lo + i)) (τ ++ fs) H2 fun σ1 H4 => (∃ τ' : L2.St, τ'.length = k ∧ σ1 = τ' ++ fs) ∧ tt σ1 H4 fun b H5 =>
      if b = true then te σ1 H5 fun y H6 => H6 D = some (.lst ys) ∧ ys.length < sizeLine ∧ Nx n Pv D i (ys ++ [y]) (upd H6 D (.lst (ys ++ [y]))) else Nx n Pv D i ys H5)
    (hd : ∀ D ys H2, H D = none → Pv D n ys H2 → Q (.ref D) H2) : CompH k fs (Itr lo n) g tt te Q H := by
  intro D hD
  refine ⟨fun i m ys H2 => m = n - i ∧ i ≤ n ∧ Pv D i ys H2, ⟨_, rfl, Nat.zero_le _, h0 D hD⟩, ?_⟩
  rintro i m ys H2 ⟨rfl, hi, p⟩
  by_cases hlt : i < n
  · refine .inr ⟨hlt, fun x H3 y τ hτ => ?_⟩
    obtain ⟨e, y⟩ := y
    subst e y
    exact hs D i ys _ hD hlt p τ hτ
  · have e : i = n := by omega
    subst e
    exact .inl ⟨Nat.le_refl _, hd D ys H2 hD p⟩
end Stow

set_option Elab.async false
set_option linter.all false
set_option maxRecDepth 100000
set_option maxHeartbeats 4000000
namespace Stow
open PySem L2 PyProof.Rows
/-! ### built-in functions called with keywords -/
def CallKR (X : Cx) (f : Value) (ks : List Str) (r : List V → List V → Hp → VK → Prop) : Prop :=
  ∀ (pins : List (Addr × Obj)) (s : Shared) (σ : L2.St) (H : Hp) (vs : List V) (us : List Value) (zs : List V) (ws : List Value) (Q : VK), Inv X pins σ H s → Vals vs us → Vals zs ws → r vs zs H Q →
    wpAny (model X.prog X.w) X.A (call f us (ks.zip ws)) (EP X pins σ Q) X.xe s
def tCBK (r : List V → List V → Hp → VK → Prop) (t tk : TA) : TE := fun σ H Q => t σ H fun vs H1 => tk σ H1 fun zs H2 => r vs zs H2 Q
theorem r_cbk {σ : L2.St} {H : Hp} {Q : VK} {r : List V → List V → Hp → VK → Prop} {t tk : TA} (h : t σ H fun vs H1 => tk σ H1 fun zs H2 => r vs zs H2 Q) : tCBK r t tk σ H Q := h
theorem pe_callBK {X : Cx} {id : String} {ks : List Str} {r : List V → List V → Hp → VK → Prop} {x : Str} {p pos : Pos} {e : Expr} {es : List Expr} {kws : List Keyword} {t tk : TA} (hc : CallKR X (.builtin id) ks r) (hg : Gl X x) (hm : X.mg x = none)
    (hv : bootBuiltins x = some (.builtin id)) (ha : PA X (e :: es) t) (hkw : PK X kws tk) (hks : (backToKw pos (keywordEach kws X.env)).filterMap (·.1) = ks := by rfl) (hn : x ≠ "__name__" := by decide) (hdb : (x == ("__debug__" : Str)) = false := by decide)
    (he : backTo pos (starEach (e :: es) X.env) = (false, eval e X.env) :: backTo pos (starEach es X.env) := by rfl)
    (hplain : (backTo pos (starEach (e :: es) X.env)).any (·.1) = false := by rfl)
    (hall : (backToKw pos (keywordEach kws X.env)).all (·.1.isSome) = true := by rfl)
    (hkn : (backToKw pos (keywordEach kws X.env)).any (·.1.isNone) = false := by rfl) : PE X (.Call (.Name x p) (e :: es) kws pos) (tCBK r t tk) := by
  intro pins s σ H Q I h
  refine wpAny_Call_Name_kw (ld_blt I hg hm hv ?_ hn hdb)
  refine PyProof.Rows.callWith_kw (thn (ha pos pins s σ H _ I h) fun us s1 ⟨vs, H1, I1, r1, q1⟩ => thn (hkw pos pins s1 σ H1 _ I1 q1) fun ws s2 ⟨zs, H2, I2, rz, q2⟩ => ?_) he hplain hall hkn
  rw [hks]
  exact hc pins s2 σ H2 vs us zs ws Q I2 r1 rz q2
/-! ### sum of a list of whole numbers -/
def sumI (ns : List Int) : Int := ns.foldl (· + ·) 0
theorem preSum_take (ns : List Int) : ∀ n, n ≤ ns.length → preSum (fun i => ns.getD i 0) n = sumI (ns.take n)
  | 0, _ => rfl
  | n + 1, h => by
    have ih := preSum_take ns n (by omega)
    have e : ns.take (n + 1) = ns.take n ++ [ns[n]] := by rw [List.take_add_one, List.getElem?_eq_getElem (by omega)]; rfl
    have ex : ns.getD n 0 = ns[n] := by simp [show n < ns.length by omega]
    show preSum (fun i => ns.getD i 0) n + ns.getD n 0 = _
    rw [ih, e, ex]
    unfold sumI
    rw [List.foldl_append]
    rfl
theorem call_sumL {X : Cx} (hc : X.calm = true) : CallR X (.builtin "sum") (fun vs H Q => ∃ p ns, vs = [.ref p] ∧ H p = some (.lst (ns.map V.int)) ∧ Q (.int (sumI ns)) H) := by
  intro pins s σ H vs us' Q I r h
  obtain ⟨p, ns, rfl, hp, q⟩ := h
  obtain ⟨u, rfl, rx⟩ : ∃ u, us' = [u] ∧ RelV (.ref p) u := by
    cases r with
    | cons a b => cases b; exact ⟨_, rfl, a⟩
  cases rx
  obtain ⟨its, r1, p1, _⟩ := I.list (SqL.of hp)
  have l1 := r1.length
  rw [List.length_map] at l1
  have ii := intsAre_of r1
  have lt : p < s.heap.objs.size := by obtain ⟨_, e, _⟩ := p1.isList; exact Heap.lt_size e
  refine call_sum_walkG (wpAny_pyIter_list p1.isList ?_)
  refine ⟨s.heap.objs.size, [s.heap.objs.size, p], [s.heap.objs.size], its.toArray.size, fun i v => its.toArray[i]? = some v, _, fun i => ns.getD i 0, rfl, Walks.list (A := X.A.in1) (I.ok.hd hc) _ p (Nat.ne_of_lt lt) its.toArray,
    ⟨⟨_, Heap.get?_push_size _ rfl, rfl, rfl⟩, p1.isList.push _⟩, ?_, ?_, ?_⟩
  · intro b hb
    show b < (s.heap.push _).objs.size
    rw [Heap.size_push]
    rcases List.mem_cons.mp hb with z | z
    · rw [z]; exact Nat.lt_succ_self _
    · have : b = p := by simpa using z
      rw [this]; exact Nat.lt_succ_of_lt lt
  · intro i v hv
    rw [List.getElem?_toArray] at hv
    have hi : i < ns.length := by have := (List.getElem?_eq_some_iff.mp hv).1; omega
    obtain ⟨u1, e1, q1⟩ := r1.get (i := i) (x := V.int (ns[i])) (by simp [hi])
    have ev : v = u1 := Option.some.inj (hv.symm.trans e1)
    subst ev
    have ex : ns.getD i 0 = ns[i] := by simp [hi]
    show ∃ t, v = Value.int (ns.getD i 0) t
    rw [ex]
    obtain ⟨tk, e2⟩ := q1
    exact ⟨tk, e2⟩
  · intro h' tk t' kk
    refine ⟨.int _, H, ?_, ⟨t', rfl⟩, ?_⟩
    · refine I.kept (t' := tk) fun b o e => kk b o (fun z => ?_) (Heap.get?_push_of_some _ e)
      have := Heap.lt_size e
      have z' : b = s.heap.objs.size := by simpa using z
      rw [z'] at this
      exact Nat.lt_irrefl _ this
    · rw [List.size_toArray, ← l1, preSum_take ns ns.length (Nat.le_refl _), List.take_of_length_le (Nat.le_refl _)]
      exact q
/-! ### min with a default -/
section
variable {prog : Program} {w : World} {A : Around} {R : Result → Shared → Prop} {I : Addr} {fp wr : List Addr} {n : Nat} {P : Nat → Value → Prop} {St : Nat → Heap → Prop} {kw : List (Str × Value)}
theorem min_turnsK (W : Walks prog w A.in1 I fp wr n P St) (bt : Nat → Nat → Bool) (Kp : Heap → Prop) (cmp : CmpKp prog w A.in1 Kp P bt) (S : Addr) (sf : S ∉ fp)
    (kpk : ∀ h h', Kp h → (∀ b o, b ∉ wr → b ≠ S → h.get? b = some o → h'.get? b = some o) → Kp h') :
    ∀ (k j : Nat) (t : Shared) (vb : Value) (c : Nat), n - (j + 1) = k → j + 1 ≤ n → St (j + 1) t.heap → Kp t.heap → P (argBest bt j) vb →
    t.heap.get? S = some { cls := .type "list", dict := none, data := .seq #[vb, vb] c, slots := #[] } →
    (∀ v h' tk, P (argBest bt (n - 1)) v → (∀ b o, b ∉ wr → b ≠ S → t.heap.get? b = some o → h'.get? b = some o) → R (.ok (.ret v)) { t with heap := h', toks := tk }) →
    codeAny (model prog w) A (.builtin "min.loop" ⟨[.ref I, .none, .ref S], kw⟩) R t := by
  have sw : S ∉ wr := fun h => sf (W.sub _ h)
  have nm : (toString "min" ++ toString ".loop" : String) = "min.loop" := by decide
  intro k
  induction k with
  | zero =>
    intro j t vb c hk hj st kp pb hS fin
    have en : j + 1 = n := by omega
    refine codeAny_builtin F.entry_min_loop ?_
    rw [Around.under_plainId F.plain_min_loop _]
    show wpAny _ A.in1 (seqItems? (.ref S) >>= _) _ _ t
    refine wpAny_bind (wpAny_seqItems hS rfl ?_)
    show wpAny _ A.in1 (tryCatch (pyNext (.ref I)) _ >>= _) _ _ t
    refine wpAny_bind (wpAny_tryCatch (W.done t _ _ (en ▸ st) fun h' tk kk => ?_))
    have hS1 := kk S _ sw hS
    show wpAny _ A.in1 (updateSeq S (fun _ => #[]) >>= _) _ _ _
    refine wpAny_bind ?_
    refine wpAny_updateSeq hS1 rfl (wpAny_bind (wpAny_letGo (wpAny_pure ?_)))
    exact fin vb _ tk (by rw [← en]; exact pb) fun b o bw bS e => (Heap.get?_update_other _ _ (Ne.symm bS)).trans (kk b o bw e)
  | succ k ih =>
    intro j t vb c hk hj st kp pb hS fin
    have lt : j + 1 < n := by omega
    refine codeAny_builtin F.entry_min_loop ?_
    rw [Around.under_plainId F.plain_min_loop _]
    show wpAny _ A.in1 (seqItems? (.ref S) >>= _) _ _ t
    refine wpAny_bind (wpAny_seqItems hS rfl ?_)
    show wpAny _ A.in1 (tryCatch (pyNext (.ref I)) _ >>= _) _ _ t
    refine wpAny_bind (wpAny_tryCatch (W.item (j + 1) t _ _ lt st fun v h' tk pv st1 kk => ?_))
    have hS1 := kk S _ sw hS
    have kp1 : Kp h' := kpk _ _ kp fun b o bw _ e => kk b o bw e
    show wpAny _ A.in1 (tryCatch (holding [v, v] (richCompare .Lt v vb >>= _)) _ >>= _) _ _ _
    refine wpAny_bind (wpAny_tryCatch (wpAny_holding (wpAny_bind (cmp (j + 1) (argBest bt j) v vb _ _ _ kp1 pv pb ?_))))
    refine wpAny_bind (wpAny_holding (wpAny_truthy_bool ?_))
    refine wpAny_bind (wpAny_letGo (wpAny_pure ?_))
    cases hb : bt (j + 1) (argBest bt j) with
    | true =>
      simp only [if_true]
      refine wpAny_bind ?_
      refine wpAny_updateSeq hS1 rfl (wpAny_bind (wpAny_letGo ?_))
      rw [nm]
      refine wpAny_pure ⟨plainId_quiet F.plain_min_loop _, ih (j + 1) _ v _ (by omega) lt (W.frame _ _ _ st1 fun b bf o e => ?_) (kpk _ _ kp1 fun b o _ bS e => (Heap.get?_update_other _ _ (Ne.symm bS)).trans e) (by simp only [argBest, hb, if_true]; exact pv) (Heap.get?_update_self _ hS1 rfl)
        fun v' h2 tk2 pv2 kk2 => ?_⟩
      · exact (Heap.get?_update_other _ _ (fun z : S = b => sf (by rw [z]; exact bf))).trans e
      · exact fin v' h2 tk2 pv2 fun b o bw bS e => kk2 b o bw bS ((Heap.get?_update_other _ _ (Ne.symm bS)).trans (kk b o bw e))
    | false =>
      simp only [Bool.false_eq_true, if_false]
      refine wpAny_bind (wpAny_letGo ?_)
      rw [nm]
      refine wpAny_pure ⟨plainId_quiet F.plain_min_loop _, ih (j + 1) _ vb c (by omega) lt st1 kp1 (by simp only [argBest, hb, Bool.false_eq_true, if_false]; exact pb) hS1 fun v' h2 tk2 pv2 kk2 => ?_⟩
      exact fin v' h2 tk2 pv2 fun b o bw bS e => kk2 b o bw bS (kk b o bw e)
theorem min_firstK (W : Walks prog w A.in1 I fp wr n P St) (bt : Nat → Nat → Bool) (Kp : Heap → Prop) (cmp : CmpKp prog w A.in1 Kp P bt) (S : Addr) (sf : S ∉ fp)
    (kpk : ∀ h h', Kp h → (∀ b o, b ∉ wr → b ≠ S → h.get? b = some o → h'.get? b = some o) → Kp h') (hn : 0 < n) {t : Shared} {c : Nat} (st : St 0 t.heap) (kp : Kp t.heap)
    (hS : t.heap.get? S = some { cls := .type "list", dict := none, data := .seq #[] c, slots := #[] })
    (fin : ∀ v h' tk, P (argBest bt (n - 1)) v → (∀ b o, b ∉ wr → b ≠ S → t.heap.get? b = some o → h'.get? b = some o) → R (.ok (.ret v)) { t with heap := h', toks := tk }) :
    codeAny (model prog w) A (.builtin "min.loop" ⟨[.ref I, .none, .ref S], kw⟩) R t := by
  have sw : S ∉ wr := fun h => sf (W.sub _ h)
  have nm : (toString "min" ++ toString ".loop" : String) = "min.loop" := by decide
  refine codeAny_builtin F.entry_min_loop ?_
  rw [Around.under_plainId F.plain_min_loop _]
  show wpAny _ A.in1 (seqItems? (.ref S) >>= _) _ _ t
  refine wpAny_bind (wpAny_seqItems hS rfl ?_)
  show wpAny _ A.in1 (tryCatch (pyNext (.ref I)) _ >>= _) _ _ t
  refine wpAny_bind (wpAny_tryCatch (W.item 0 t _ _ hn st fun v h' tk pv st1 kk => ?_))
  have hS1 := kk S _ sw hS
  have kp1 : Kp h' := kpk _ _ kp fun b o bw _ e => kk b o bw e
  show wpAny _ A.in1 (updateSeq S (fun _ => #[v, v]) >>= _) _ _ _
  refine wpAny_bind ?_
  refine wpAny_updateSeq hS1 rfl ?_
  rw [nm]
  refine wpAny_pure ⟨plainId_quiet F.plain_min_loop _, min_turnsK W bt Kp cmp S sf kpk _ 0 _ v _ rfl hn (W.frame _ _ _ st1 fun b bf o e => ?_) (kpk _ _ kp1 fun b o _ bS e => (Heap.get?_update_other _ _ (Ne.symm bS)).trans e) pv (Heap.get?_update_self _ hS1 rfl) fun v' h2 tk2 pv2 kk2 => ?_⟩
  · exact (Heap.get?_update_other _ _ (fun z : S = b => sf (by rw [z]; exact bf))).trans e
  · exact fin v' h2 tk2 pv2 fun b o bw bS e => kk2 b o bw bS ((Heap.get?_update_other _ _ (Ne.symm bS)).trans (kk b o bw e))
theorem min_noneK (W : Walks prog w A.in1 I fp wr 0 P St) {d : Value} {x : Str} (S : Addr) (sf : S ∉ fp) {t : Shared} {c : Nat} (st : St 0 t.heap)
    (hS : t.heap.get? S = some { cls := .type "list", dict := none, data := .seq #[] c, slots := #[] })
    (fin : ∀ h' tk, (∀ b o, b ∉ wr → t.heap.get? b = some o → h'.get? b = some o) → R (.ok (.ret d)) { t with heap := h', toks := tk }) :
    codeAny (model prog w) A (.builtin "min.loop" ⟨[.ref I, .none, .ref S], [(x, d)]⟩) R t := by
  refine codeAny_builtin F.entry_min_loop ?_
  rw [Around.under_plainId F.plain_min_loop _]
  show wpAny _ A.in1 (seqItems? (.ref S) >>= _) _ _ t
  refine wpAny_bind (wpAny_seqItems hS rfl ?_)
  show wpAny _ A.in1 (tryCatch (pyNext (.ref I)) _ >>= _) _ _ t
  refine wpAny_bind (wpAny_tryCatch (W.done t _ _ st fun h' tk kk => ?_))
  show wpAny _ A.in1 (rule _ >>= _) _ _ _
  refine wpAny_bind (wpAny_rule (wpAny_pure ?_))
  exact fin h' tk kk
end
theorem args_minD (a v : Value) : argsOk "min" ⟨[a], [(Str.ofString "default", v)]⟩ := by unfold argsOk; kernel_rfl
section
variable {prog : Program} {w : World} {A : Around} {E : Value → Shared → Prop} {s : Shared}
/-- a built-in function called with keywords that goes on as another one -/
theorem call_goesOn {nm : String} {bl : Builtin} {vs : List Value} {kws : List (Str × Value)} {Q : Value → Shared → Prop} (h1 : builtinKind nm = none) (h2 : plainId nm = true) (h3 : entryFor table nm = some bl) (h4 : argsOk nm ⟨vs, kws⟩)
    (h5 : wpAny (model prog w) A.in1 (bl ⟨vs, kws⟩) (fun fn t => ∃ c, fn = .again c ∧ c.quiet = true ∧ codeAny (model prog w) A c (fun r t2 => ∃ v, r = .ok (.ret v) ∧ Q v t2) t) E s) :
    wpAny (model prog w) A (call (.builtin nm) vs kws) Q E s := by
  refine wpAny_call (codeAny_call_builtin h2 h3 ?_)
  simp only [checkBuiltinCall, h1]
  have go : ∀ (t : Shared) (c : Code), codeAny (model prog w) A c (fun r t2 => ∃ v, r = .ok (.ret v) ∧ Q v t2) t → codeAny (model prog w) A c (fun r t2 => match r with | .ok (.ret u) => Q u t2 | .ok _ => False | .error x => E x t2) t := fun t c h => codeAny_mono h fun r t2 ⟨v, e, q⟩ => by subst e; exact q
  cases hs : Manifest.signature? nm with
  | none =>
    refine wpAny_pure (wpAny_mono h5 (fun fn t h => ?_) fun _ _ z => z)
    obtain ⟨c, rfl, hq, hc⟩ := h
    exact ⟨hq, go t c hc⟩
  | some sg =>
    have h6 : Bind.checkArgs nm sg ⟨vs, kws⟩ = pure () := by simpa only [argsOk, hs] using h4
    simp only [h6]
    refine wpAny_pure (wpAny_mono h5 (fun fn t h => ?_) fun _ _ z => z)
    obtain ⟨c, rfl, hq, hc⟩ := h
    exact ⟨hq, go t c hc⟩
theorem call_minKpD {x d : Value} {Q : Value → Shared → Prop}
    (h : wpAny (model prog w) A.in1 (pyIter x) (fun itv t => ∃ I fp wr n P St, itv = .ref I ∧ Walks prog w A.in1 I fp wr n P St ∧ St 0 t.heap ∧ (∀ b ∈ fp, b < t.heap.objs.size) ∧
      ((n = 0 ∧ ∀ h' tk, (∀ b o, b ∉ wr → t.heap.get? b = some o → h'.get? b = some o) → Q d { t with heap := h', toks := tk }) ∨
      ∃ bt Kp, Kp t.heap ∧ 0 < n ∧ CmpKp prog w A.in1 Kp P bt ∧
      (∀ h h', Kp h → (∀ b o, b ∉ wr → b ≠ t.heap.objs.size → h.get? b = some o → h'.get? b = some o) → Kp h') ∧
      ∀ v h' tk, P (argBest bt (n - 1)) v → (∀ b o, b ∉ wr → t.heap.get? b = some o → h'.get? b = some o) → Q v { t with heap := h', toks := tk })) E s) :
    wpAny (model prog w) A (call (.builtin "min") [x] [(Str.ofString "default", d)]) Q E s := by
  have nm : (toString "min" ++ toString ".loop" : String) = "min.loop" := by decide
  refine call_goesOn F.kind_min F.plain_min F.entry_min (args_minD x d) ?_
  show wpAny _ A.in1 (Builtin.Builtins.bindParams "min" ["key", "default"] 0 ⟨[], [(Str.ofString "default", d)]⟩ >>= _) _ _ s
  refine wpAny_bind (wpAny_of_eq (show Builtin.Builtins.bindParams "min" ["key", "default"] 0 ⟨[], [(Str.ofString "default", d)]⟩ = pure [none, some d] from by kernel_rfl) ?_)
  refine wpAny_bind (wpAny_pure ?_)
  refine wpAny_bind (wpAny_mono h (fun itv t ht => ?_) fun _ _ e => e)
  obtain ⟨I, fp, wr, n, P, St, rfl, W, st, hfp, hh⟩ := ht
  refine wpAny_bind (wpAny_newObj_type ?_)
  have sf : t.heap.objs.size ∉ fp := fun hm => Nat.lt_irrefl _ (hfp _ hm)
  rw [nm]
  rcases hh with ⟨rfl, hQ⟩ | ⟨bt, Kp, kp, hn, cmp, kpk, hQ⟩
  · refine wpAny_pure ⟨_, rfl, plainId_quiet F.plain_min_loop _, min_noneK W t.heap.objs.size sf (W.frame _ _ _ st fun b _ o e => Heap.get?_push_of_some _ e) (Heap.get?_push_size _ rfl) fun h' tk kk => ?_⟩
    exact ⟨_, rfl, hQ h' tk fun b o bw e => kk b o bw (Heap.get?_push_of_some _ e)⟩
  · refine wpAny_pure ⟨_, rfl, plainId_quiet F.plain_min_loop _, min_firstK W bt Kp cmp t.heap.objs.size sf kpk hn (W.frame _ _ _ st fun b _ o e => Heap.get?_push_of_some _ e) (kpk _ _ kp fun b o _ _ e => Heap.get?_push_of_some _ e) (Heap.get?_push_size _ rfl) fun v h' tk pv kk => ?_⟩
    exact ⟨_, rfl, hQ v h' tk pv fun b o bw e => kk b o bw (Nat.ne_of_lt (Heap.lt_size e)) (Heap.get?_push_of_some _ e)⟩
end
section
variable {X : Cx}
/-- min(a list of tuples of whole numbers, default=d) -/
theorem call_minTD (hc : X.calm = true) (hu : X.A.units + 64 < cLine) : CallKR X (.builtin "min") [Str.ofString "default"] (fun vs zs H Q => ∃ p us d, ∃ xs : List (List Int), vs = [.ref p] ∧ zs = [d] ∧ H p = some (.lst us) ∧ TupsAt H us (xs.map fun x => x.map V.int) ∧
    (xs.length = 0 → Q d H) ∧
    (0 < xs.length → ∀ t, us[minAt xs (xs.length - 1)]? = some (.ref t) → H t = some (.tup ((xs.getD (minAt xs (xs.length - 1)) []).map V.int)) → Q (.ref t) H)) := by
  intro pins s σ H vs us' zs ws Q I r rz h
  obtain ⟨p, us, d, xs, rfl, rfl, hp, ta, q0, q⟩ := h
  obtain ⟨u, rfl, rx⟩ : ∃ u, us' = [u] ∧ RelV (.ref p) u := by
    cases r with
    | cons a b => cases b; exact ⟨_, rfl, a⟩
  obtain ⟨dv, rfl, rd⟩ : ∃ u, ws = [u] ∧ RelV d u := by
    cases rz with
    | cons a b => cases b; exact ⟨_, rfl, a⟩
  cases rx
  obtain ⟨its, r1, p1, _⟩ := I.list (SqL.of hp)
  have l1 := r1.length
  have l2 := ta.1
  rw [List.length_map] at l2
  have tups : ∀ i, i < xs.length → ∃ t its2, its[i]? = some (.ref t) ∧ us[i]? = some (.ref t) ∧ H t = some (.tup ((xs.getD i []).map V.int)) ∧ s.heap.IsTuple t (List.toArray its2) ∧ IntsAre its2 (xs.getD i []) := fun i hi => by
    obtain ⟨t, e1, e2⟩ := ta.2 i ((xs[i]).map V.int) (by simp [hi])
    obtain ⟨u1, g1, q1⟩ := r1.get e1
    cases q1
    obtain ⟨its2, r2, p2, _⟩ := I.tuple (SqT.of e2)
    have ex : xs.getD i [] = xs[i] := by simp [hi]
    rw [ex]
    exact ⟨t, its2, g1, e1, e2, p2, intsAre_of r2⟩
  have lt : p < s.heap.objs.size := by obtain ⟨_, e, _⟩ := p1.isList; exact Heap.lt_size e
  show wpAny _ _ (call (.builtin "min") [.ref p] [(Str.ofString "default", dv)]) _ _ s
  refine call_minKpD (wpAny_pyIter_list p1.isList ?_)
  refine ⟨s.heap.objs.size, [s.heap.objs.size, p], [s.heap.objs.size], its.toArray.size, fun i v => its.toArray[i]? = some v, _, rfl, Walks.list (A := X.A.in1) (I.ok.hd hc) _ p (Nat.ne_of_lt lt) its.toArray,
    ⟨⟨_, Heap.get?_push_size _ rfl, rfl, rfl⟩, p1.isList.push _⟩, ?_, ?_⟩
  · intro b hb
    show b < (s.heap.push _).objs.size
    rw [Heap.size_push]
    rcases List.mem_cons.mp hb with z | z
    · rw [z]; exact Nat.lt_succ_self _
    · have : b = p := by simpa using z
      rw [this]; exact Nat.lt_succ_of_lt lt
  by_cases h0 : xs.length = 0
  · refine .inl ⟨by rw [List.size_toArray]; omega, fun h' tk kk => ?_⟩
    refine ⟨d, H, ?_, rd, q0 h0⟩
    refine I.kept (t' := tk) fun b o e => kk b o (fun z => ?_) (Heap.get?_push_of_some _ e)
    have := Heap.lt_size e
    have z' : b = s.heap.objs.size := by simpa using z
    rw [z'] at this
    exact Nat.lt_irrefl _ this
  refine .inr ⟨fun i j => HT.lexLt (xs.getD i []) (xs.getD j []), fun (hh : Heap) => ∀ (i : Nat) (t : Addr) (its2 : List Value), its[i]? = some (Value.ref t) → s.heap.IsTuple t (List.toArray its2) → hh.IsTuple t (List.toArray its2), ?_, ?_, ?_, ?_, ?_⟩
  · intro i t its2 _ ht
    exact ht.push _
  · rw [List.size_toArray]; omega
  · intro i j x y t Q' E' kp pi pj hq
    rw [List.getElem?_toArray] at pi pj
    have hi : i < xs.length := by have := (List.getElem?_eq_some_iff.mp pi).1; omega
    have hj : j < xs.length := by have := (List.getElem?_eq_some_iff.mp pj).1; omega
    obtain ⟨t1, s1, a1, _, _, b1, c1⟩ := tups i hi
    obtain ⟨t2, s2, a2, _, _, b2, c2⟩ := tups j hj
    rw [a1] at pi
    rw [a2] at pj
    cases pi
    cases pj
    exact HT.lt_tupInts (kp i t1 s1 a1 b1) (kp j t2 s2 a2 b2) c1 c2 (by show X.A.units + 1 < cLine; omega) hq
  · intro h h' kp kk i t its2 g ht
    have e0 := kp i t its2 g ht
    obtain ⟨o, e, hcl, hd⟩ := ht
    obtain ⟨o', e', r'⟩ := e0
    have lt' := Heap.lt_size e
    refine ⟨o', kk t o' (fun z => ?_) (Nat.ne_of_lt ?_) e', r'⟩
    · have z' : t = s.heap.objs.size := by simpa using z
      rw [z'] at lt'
      exact Nat.lt_irrefl _ lt'
    · show t < (s.heap.push _).objs.size
      rw [Heap.size_push]
      exact Nat.lt_succ_of_lt lt'
  · intro v h' tk pv kk
    rw [List.size_toArray, ← l1, l2, minAt_best, List.getElem?_toArray] at pv
    have hm : minAt xs (xs.length - 1) < xs.length := by have := minAt_le xs (xs.length - 1); omega
    obtain ⟨t, its2, a1, a2, a3, _, _⟩ := tups _ hm
    rw [a1] at pv
    cases pv
    refine ⟨.ref t, H, ?_, rfl, q (by omega) t a2 a3⟩
    refine I.kept (t' := tk) fun b o e => kk b o (fun z => ?_) (Heap.get?_push_of_some _ e)
    have := Heap.lt_size e
    have z' : b = s.heap.objs.size := by simpa using z
    rw [z'] at this
    exact Nat.lt_irrefl _ this
end
/-! ### the best so far -/
def bestOf : List (List Int) → Option (List Int) := fun xs => xs.foldl (fun b x => match b with | none => some x | some y => if HT.lexLt x y then some x else some y) none
theorem bestOf_nil : bestOf [] = none := rfl
theorem bestOf_snoc (xs : List (List Int)) (x : List Int) : bestOf (xs ++ [x]) = match bestOf xs with | none => some x | some y => if HT.lexLt x y then some x else some y := by
  unfold bestOf
  rw [List.foldl_append]
  rfl
theorem bestOf_min (xs : List (List Int)) : ∀ k, k < xs.length → bestOf (xs.take (k + 1)) = some (xs.getD (minAt xs k) [])
  | 0, h => by
    have e : xs.take 1 = [] ++ [xs[0]] := by rw [List.take_add_one, List.getElem?_eq_getElem h]; rfl
    rw [e, bestOf_snoc, bestOf_nil]
    show some xs[0] = some (xs.getD 0 [])
    simp [h]
  | k + 1, h => by
    have ih := bestOf_min xs k (by omega)
    have e : xs.take (k + 1 + 1) = xs.take (k + 1) ++ [xs[k + 1]] := by rw [List.take_add_one, List.getElem?_eq_getElem h]; rfl
    have ex : xs.getD (k + 1) [] = xs[k + 1] := by simp [h]
    rw [e, bestOf_snoc, ih]
    show (if HT.lexLt xs[k + 1] (xs.getD (minAt xs k) []) = true then some xs[k + 1] else some (xs.getD (minAt xs k) [])) = some (xs.getD (minAt xs (k + 1)) [])
    rw [show minAt xs (k + 1) = if HT.lexLt (xs.getD (k + 1) []) (xs.getD (minAt xs k) []) then k + 1 else minAt xs k from rfl, ← ex]
    split <;> rfl
theorem bestOf_all {xs : List (List Int)} (h : 0 < xs.length) : bestOf xs = some (xs.getD (minAt xs (xs.length - 1)) []) := by
  have := bestOf_min xs (xs.length - 1) (by omega)
  rwa [List.take_of_length_le (by omega)] at this
end Stow
namespace Stow
open PySem L2 PyProof.Rows
section
variable {K : PySem.W.Frag} {σ : L2.St} {H : Hp} {Q : VK}
theorem tups_snoc {us : List V} {xs : List (List V)} {a : Addr} {x : List V} (h : TupsAt H us xs) (ha : H a = some (.tup x)) : TupsAt H (us ++ [.ref a]) (xs ++ [x]) := by
  refine ⟨by rw [List.length_append, List.length_append, h.1]; rfl, fun i y hy => ?_⟩
  by_cases hi : i < xs.length
  · rw [List.getElem?_append_left hi] at hy
    obtain ⟨b, e1, e2⟩ := h.2 i y hy
    exact ⟨b, by rw [List.getElem?_append_left (by rw [h.1]; exact hi)]; exact e1, e2⟩
  · rw [List.getElem?_append_right (by omega)] at hy
    have : i - xs.length = 0 := by
      have := (List.getElem?_eq_some_iff.mp hy).1
      simp at this
      omega
    rw [this] at hy
    cases hy
    exact ⟨a, by rw [List.getElem?_append_right (by rw [h.1]; omega), h.1, this]; rfl, ha⟩
theorem tups_unsnoc {us : List V} {xs : List (List V)} {x : List V} (h : TupsAt H us (xs ++ [x])) : ∃ ui t, us = ui ++ [.ref t] ∧ H t = some (.tup x) := by
  obtain ⟨t, e1, e2⟩ := h.2 xs.length x (by simp)
  have hl : us.length = xs.length + 1 := by rw [h.1]; simp
  refine ⟨us.take xs.length, t, ?_, e2⟩
  have h1 : us.take (xs.length + 1) = us.take xs.length ++ [.ref t] := by rw [List.take_add_one, e1]; rfl
  rw [← h1, List.take_of_length_le (by omega)]
theorem tups_get {us : List V} {xs : List (List V)} (h : TupsAt H us xs) {i : Nat} {v : V} (hv : us[i]? = some v) : ∃ t x, v = .ref t ∧ xs[i]? = some x ∧ H t = some (.tup x) := by
  have hi : i < xs.length := by rw [← h.1]; exact (List.getElem?_eq_some_iff.mp hv).1
  obtain ⟨t, e1, e2⟩ := h.2 i xs[i] (by simp [hi])
  exact ⟨t, xs[i], Option.some.inj (hv.symm.trans e1), by simp [hi], e2⟩
theorem pcs_get {us : List V} {ps : List Pc} (h : PcsAt H us ps) {i : Nat} {v : V} (hv : us[i]? = some v) : ∃ t z, v = .ref t ∧ ps[i]? = some z ∧ H t = some (.tup [.int z.a, .int z.l, .bl z.v]) := by
  have hi : i < ps.length := by rw [← h.1]; exact (List.getElem?_eq_some_iff.mp hv).1
  obtain ⟨t, e1, e2⟩ := h.2 i ps[i] (by simp [hi])
  exact ⟨t, ps[i], Option.some.inj (hv.symm.trans e1), by simp [hi], e2⟩
/-- the last item by its number -/
theorem r_ixEnd {p : Addr} {xs : List V} {v : V} {n : Int} (h : SqL K H p xs) (e : xs[xs.length - 1]? = some v) (hn : n = (xs.length : Int) - 1) (q : Q v H) : rIxL K (.ref p) (.int n) H Q := by
  have h0 : 0 < xs.length := by
    have := (List.getElem?_eq_some_iff.mp e).1
    omega
  have e2 : atI xs ((xs.length - 1 : Nat) : Int) = some v := atI_nat e
  rw [show ((xs.length - 1 : Nat) : Int) = n by omega] at e2
  exact r_ixL h e2 q
end
/-! ### starts, stops and plans -/
def pr (q : Int × Int) : List V := [.int q.1, .int q.2]
def stp (A : List (Int × Int) × List (Int × Int) × Int) (z : Pc) : List (Int × Int) × List (Int × Int) × Int :=
  if z.v = true then (A.1 ++ [(z.a + z.l, A.2.2 + z.l)], A.2.1 ++ [(z.a, A.2.2)], A.2.2 + z.l) else A
def plF (ps : List Pc) : List (Int × Int) × List (Int × Int) × Int := ps.foldl stp ([(0, 0)], [], 0)
theorem plF_take {ps : List Pc} {i : Nat} {z : Pc} (h : ps[i]? = some z) : plF (ps.take (i + 1)) = stp (plF (ps.take i)) z := by
  unfold plF
  rw [List.take_add_one, h, List.foldl_append]
  rfl
theorem plF_last_aux : ∀ (ps : List Pc) (A : List (Int × Int) × List (Int × Int) × Int), (∃ D a, A.1 = D ++ [(a, A.2.2)]) → ∃ D a, (ps.foldl stp A).1 = D ++ [(a, (ps.foldl stp A).2.2)]
  | [], _, h => h
  | z :: r, A, h => by
    refine plF_last_aux r (stp A z) ?_
    unfold stp
    split
    · exact ⟨A.1, z.a + z.l, rfl⟩
    · exact h
theorem plF_last (ps : List Pc) : ∃ D a, (plF ps).1 = D ++ [(a, (plF ps).2.2)] := plF_last_aux ps _ ⟨[], 0, rfl⟩
theorem plF_len_aux : ∀ (ps : List Pc) (A : List (Int × Int) × List (Int × Int) × Int), (ps.foldl stp A).1.length ≤ A.1.length + ps.length ∧ (ps.foldl stp A).2.1.length ≤ A.2.1.length + ps.length
  | [], A => ⟨Nat.le_refl _, Nat.le_refl _⟩
  | z :: r, A => by
    obtain ⟨h1, h2⟩ := plF_len_aux r (stp A z)
    have h3 : (stp A z).1.length ≤ A.1.length + 1 ∧ (stp A z).2.1.length ≤ A.2.1.length + 1 := by
      unfold stp
      split <;> simp
    rw [List.foldl_cons, List.length_cons]
    omega
theorem plF_len (ps : List Pc) : (plF ps).1.length ≤ ps.length + 1 ∧ (plF ps).2.1.length ≤ ps.length := by
  have := plF_len_aux ps ([(0, 0)], [], 0)
  simp only [List.length_singleton, List.length_nil] at this
  exact ⟨by unfold plF; omega, by unfold plF; omega⟩
/-- a plan of a start and a stop -/
def pl1 (nd : Int) (s t : Int × Int) : Option (List Int) := if s.1 ≤ t.1 ∧ nd ≤ t.1 - s.1 - (t.2 - s.2) then some [t.2 - s.2, s.1, t.1] else none
def rowP (nd : Int) (s : Int × Int) (ts : List (Int × Int)) : List (List Int) := ts.filterMap (pl1 nd s)
def plansOf (nd : Int) (ss ts : List (Int × Int)) : List (List Int) := (ss.map fun s => rowP nd s ts).flatten
theorem rowP_take {nd : Int} {s t : Int × Int} {ts : List (Int × Int)} {j : Nat} (h : ts[j]? = some t) : rowP nd s (ts.take (j + 1)) = rowP nd s (ts.take j) ++ (pl1 nd s t).toList := by
  unfold rowP
  rw [List.take_add_one, h, List.filterMap_append]
  congr 1
theorem plansOf_take {nd : Int} {s : Int × Int} {ss ts : List (Int × Int)} {i : Nat} (h : ss[i]? = some s) : plansOf nd (ss.take (i + 1)) ts = plansOf nd (ss.take i) ts ++ rowP nd s ts := by
  unfold plansOf
  rw [List.take_add_one, h, List.map_append, List.flatten_append]
  simp
theorem rowP_len (nd : Int) (s : Int × Int) (ts : List (Int × Int)) : (rowP nd s ts).length ≤ ts.length := List.length_filterMap_le _ _
theorem plansOf_len (nd : Int) (ts : List (Int × Int)) : ∀ ss : List (Int × Int), (plansOf nd ss ts).length ≤ ss.length * ts.length
  | [] => by simp [plansOf]
  | s :: r => by
    have ih := plansOf_len nd ts r
    have h1 := rowP_len nd s ts
    have e : plansOf nd (s :: r) ts = rowP nd s ts ++ plansOf nd r ts := rfl
    rw [e, List.length_append, List.length_cons, Nat.add_mul]
    omega
theorem plansOf_three {nd : Int} {ss ts : List (Int × Int)} {x : List Int} (h : x ∈ plansOf nd ss ts) : x.length = 3 := by
  unfold plansOf at h
  obtain ⟨r, hr, hx⟩ := List.mem_flatten.mp h
  obtain ⟨s, _, rfl⟩ := List.mem_map.mp hr
  obtain ⟨t, _, e⟩ := List.mem_filterMap.mp hx
  unfold pl1 at e
  split at e
  · cases e; rfl
  · cases e
def plans (nd : Int) (ps : List Pc) (n : Int) : List (List Int) := plansOf nd (plF ps).1 ((plF ps).2.1 ++ [(n, (plF ps).2.2)])
theorem bestOf_mem : ∀ {xs : List (List Int)} {x : List Int}, bestOf xs = some x → x ∈ xs := fun {xs x} h => by
  by_cases h0 : 0 < xs.length
  · rw [bestOf_all h0] at h
    have hm : minAt xs (xs.length - 1) < xs.length := by have := minAt_le xs (xs.length - 1); omega
    have ex : xs.getD (minAt xs (xs.length - 1)) [] = xs[minAt xs (xs.length - 1)] := by simp [hm]
    rw [ex] at h
    cases h
    exact List.getElem_mem hm
  · have : xs = [] := List.length_eq_zero_iff.mp (by omega)
    rw [this] at h
    cases h
/-- what is told of a plan -/
def planV (H : Hp) (v : V) (o : Option (List Int)) : Prop := match o with
  | none => v = .non
  | some x => ∃ t, v = .ref t ∧ H t = some (.tup (x.map V.int))
theorem planV.same {H H' : Hp} {v : V} {o : Option (List Int)} (h : planV H v o) (s : Same H H') : planV H' v o := by
  cases o with
  | none => exact h
  | some x => obtain ⟨t, e1, e2⟩ := h; exact ⟨t, e1, s t _ e2⟩
theorem planV.mono {H H' : Hp} {v : V} {o : Option (List Int)} (h : planV H v o) (k : ∀ b xs, H b = some (.tup xs) → H' b = some (.tup xs)) : planV H' v o := by
  cases o with
  | none => exact h
  | some x => obtain ⟨t, e1, e2⟩ := h; exact ⟨t, e1, k t _ e2⟩
end Stow
namespace Stow
open PySem L2 PyProof.Rows
theorem KeepX.new {x t : Addr} {H H' : Hp} {o : HO} (s : KeepX x H H') (ht : H' t = none) : KeepX x H (upd H' t o) := fun b o' n h => look_put ht (s b o' n h)
theorem KeepX.tups {x : Addr} {H H' : Hp} {l us : List V} {xs : List (List V)} (s : KeepX x H H') (hx : H x = some (.lst l)) (h : TupsAt H us xs) : TupsAt H' us xs := h.mono fun b ys e => s b _ (fun z => by rw [z, hx] at e; cases e) e
theorem planV_of {H : Hp} {us : List V} {xs : List (List Int)} {t : Addr} (hn : 0 < xs.length) (ht : H t = some (.tup ((xs.getD (minAt xs (xs.length - 1)) []).map V.int))) : planV H (.ref t) (bestOf xs) := by
  rw [bestOf_all hn]
  exact ⟨t, rfl, ht⟩
end Stow

set_option Elab.async false
set_option linter.all false
set_option maxRecDepth 100000
set_option maxHeartbeats 4000000
namespace Stow
open PySem L2 PyProof.Rows
end Stow
namespace Stow
open PySem L2 PyProof.Rows
/-! ### cells carried; pieces moved together -/
def carI (cs : List Int) (s g c : Nat) : List Int := cs.take g ++ (cs.drop s).take c ++ cs.drop (g + c)
theorem carI_len {cs : List Int} {s g c : Nat} (h1 : s + c ≤ cs.length) (h2 : g + c ≤ cs.length) : (carI cs s g c).length = cs.length := by
  unfold carI
  simp only [List.length_append, List.length_take, List.length_drop]
  omega
theorem carI_low {cs : List Int} {s g c j : Nat} (h2 : g + c ≤ cs.length) (h : j < g) : (carI cs s g c)[j]? = cs[j]? := by
  unfold carI
  rw [List.append_assoc, List.getElem?_append_left (by rw [List.length_take]; omega), List.getElem?_take_of_lt h]
theorem carI_mid {cs : List Int} {s g c i : Nat} (h1 : s + c ≤ cs.length) (h2 : g + c ≤ cs.length) (h : i < c) : (carI cs s g c)[g + i]? = cs[s + i]? := by
  unfold carI
  rw [List.append_assoc, List.getElem?_append_right (by rw [List.length_take]; omega), List.length_take, show g + i - min g cs.length = i by omega, List.getElem?_append_left (by rw [List.length_take, List.length_drop]; omega), List.getElem?_take_of_lt h, List.getElem?_drop]
theorem carI_high {cs : List Int} {s g c j : Nat} (h1 : s + c ≤ cs.length) (h2 : g + c ≤ cs.length) (h : g + c ≤ j) : (carI cs s g c)[j]? = cs[j]? := by
  unfold carI
  rw [List.getElem?_append_right (by rw [List.length_append, List.length_take, List.length_take, List.length_drop]; omega), List.length_append, List.length_take, List.length_take, List.length_drop, List.getElem?_drop]
  congr 1
  omega
/-- what the program and the law make of the pieces from below to above: the row, the next place, the pieces told with their sources -/
structure Uf where
  R : List Int
  g : Int
  tl : List (Pc × Int)
def uStep (S T : Int) (A : Uf) (z : Pc) : Uf :=
  if z.a < S then ⟨A.R, A.g, A.tl ++ [(z, z.a)]⟩ else if z.a < T ∧ z.v = true then ⟨carI A.R z.a.toNat A.g.toNat z.l.toNat, A.g + z.l, A.tl ++ [(⟨A.g, z.l, z.v⟩, z.a)]⟩ else A
def uF (S T : Int) (cs : List Int) (ps : List Pc) : Uf := ps.foldl (uStep S T) ⟨cs, S, []⟩
theorem uF_take {S T : Int} {cs : List Int} {ps : List Pc} {i : Nat} {z : Pc} (h : ps[i]? = some z) : uF S T cs (ps.take (i + 1)) = uStep S T (uF S T cs (ps.take i)) z := by
  unfold uF
  rw [List.take_add_one, h, List.foldl_append]
  rfl
theorem u_low {S T : Int} : ∀ {ps : List Pc} {A : Uf}, (∀ z ∈ ps, z.a < S) → ps.foldl (uStep S T) A = ⟨A.R, A.g, A.tl ++ ps.map fun z => (z, z.a)⟩
  | [], A, _ => by simp
  | z :: r, A, h => by
    rw [List.foldl_cons, u_low (fun y hy => h y (List.mem_cons_of_mem _ hy))]
    unfold uStep
    rw [if_pos (h z List.mem_cons_self)]
    simp
theorem u_high {S T : Int} : ∀ {ps : List Pc} {A : Uf}, S ≤ T → (∀ z ∈ ps, T ≤ z.a) → ps.foldl (uStep S T) A = A
  | [], A, _, _ => rfl
  | z :: r, A, hST, h => by
    have hz := h z List.mem_cons_self
    rw [List.foldl_cons]
    have e : uStep S T A z = A := by
      unfold uStep
      rw [if_neg (by omega), if_neg (by omega)]
    rw [e]
    exact u_high hST fun y hy => h y (List.mem_cons_of_mem _ hy)
/-- behind some of the pieces between start and stop -/
structure MvI (cs : List Int) (qs : List Pc) (S e : Int) (t0 : List (Pc × Int)) (A : Uf) : Prop where
  len : A.R.length = cs.length
  low : ∀ j : Nat, (j : Int) < S → A.R[j]? = cs[j]?
  high : ∀ j : Nat, e ≤ (j : Int) → A.R[j]? = cs[j]?
  tl : ∃ ms : List (Pc × Int), A.tl = t0 ++ ms ∧ Chain S (ms.map (·.1)) A.g ∧ ∀ m ∈ ms, (∃ z ∈ qs, z.v = true ∧ z.a = m.2 ∧ z.l = m.1.l) ∧ m.1.v = true ∧ ∀ i : Nat, (i : Int) < m.1.l → A.R[(m.1.a + i).toNat]? = cs[(m.2 + i).toNat]?
  ge : A.g ≤ e
theorem MvI.step {cs : List Int} {qs : List Pc} {S T e : Int} {t0 : List (Pc × Int)} {A : Uf} {z : Pc} (m : MvI cs qs S e t0 A) (hS : 0 ≤ S) (hSe : S ≤ e) (hz : z ∈ qs) (ha : z.a = e) (h1 : 1 ≤ z.l) (h3 : z.v = true → 3 ≤ z.l) (hl : e + z.l ≤ cs.length) (hT : e + z.l ≤ T) : MvI cs qs S (e + z.l) t0 (uStep S T A z) := by
  obtain ⟨hlen, hlow, hhigh, ⟨ms, etl, hch, hms⟩, hge⟩ := m
  have hle := hch.le
  have hgS : S ≤ A.g := by
    have := hch.le
    omega
  unfold uStep
  rw [if_neg (by omega)]
  by_cases hv : z.v = true
  · rw [if_pos ⟨by omega, hv⟩]
    have l3 := h3 hv
    have q1 : z.a.toNat + z.l.toNat ≤ A.R.length := by omega
    have q2 : A.g.toNat + z.l.toNat ≤ A.R.length := by omega
    refine ⟨by rw [carI_len q1 q2]; exact hlen, fun j hj => ?_, fun j hj => ?_, ⟨ms ++ [(⟨A.g, z.l, z.v⟩, z.a)], ?_, ?_, ?_⟩, by show A.g + z.l ≤ e + z.l; omega⟩
    · show (carI _ _ _ _)[j]? = _
      rw [carI_low q2 (by omega)]
      exact hlow j hj
    · show (carI _ _ _ _)[j]? = _
      rw [carI_high q1 q2 (by omega)]
      exact hhigh j (by omega)
    · show A.tl ++ _ = _
      rw [etl, List.append_assoc]
    · rw [List.map_append]
      exact hch.app ⟨rfl, h1, h3, rfl⟩
    · intro y hy
      rcases List.mem_append.mp hy with hy | hy
      · obtain ⟨e1, e2, e3⟩ := hms y hy
        obtain ⟨y0, y1, _, y3⟩ := hch.mem y.1 (List.mem_map.mpr ⟨y, hy, rfl⟩)
        refine ⟨e1, e2, fun i hi => ?_⟩
        show (carI _ _ _ _)[_]? = _
        rw [carI_low q2 (by omega)]
        exact e3 i hi
      · rw [List.mem_singleton.mp hy]
        refine ⟨⟨z, hz, hv, rfl, rfl⟩, hv, fun i hi => ?_⟩
        have hi : (i : Int) < z.l := hi
        show (carI A.R z.a.toNat A.g.toNat z.l.toNat)[(A.g + i).toNat]? = cs[(z.a + i).toNat]?
        rw [show (A.g + i).toNat = A.g.toNat + i by omega, carI_mid q1 q2 (by omega), show (z.a + i).toNat = z.a.toNat + i by omega]
        exact hhigh _ (by omega)
  · rw [if_neg (fun h => hv h.2)]
    exact ⟨hlen, hlow, fun j hj => hhigh j (by omega), ⟨ms, etl, hch, hms⟩, by omega⟩
theorem MvI.all {cs : List Int} {qs : List Pc} {S T : Int} {t0 : List (Pc × Int)} (hS : 0 ≤ S) (hTn : T ≤ cs.length) : ∀ {ps : List Pc} {e : Int} {A : Uf}, MvI cs qs S e t0 A → S ≤ e → Chain e ps T → (∀ z ∈ ps, z ∈ qs) → MvI cs qs S T t0 (ps.foldl (uStep S T) A)
  | [], e, A, m, _, c, _ => by
    have c : e = T := c
    subst c
    exact m
  | z :: r, e, A, m, hSe, c, hm => by
    obtain ⟨ea, h1, h3, c2⟩ := c
    have hle := c2.le
    rw [List.foldl_cons]
    exact MvI.all hS hTn (m.step hS hSe (hm z List.mem_cons_self) ea h1 h3 (by omega) (by omega)) (by omega) c2 fun y hy => hm y (List.mem_cons_of_mem _ hy)
/-- all that the law asks of what is gathered -/
theorem gathered_is {cs : List Int} {A1 M B : List Pc} {S T : Int} (hm : Marks cs (A1 ++ M ++ B)) (c1 : Chain 0 A1 S) (c2 : Chain S M T) (c3 : Chain T B cs.length) (hf : (uF S T cs (A1 ++ M ++ B)).g < T) :
    ∃ (R' : List Int) (tl : List (Pc × Int)), R' = laidI (uF S T cs (A1 ++ M ++ B)).R (uF S T cs (A1 ++ M ++ B)).g (T - (uF S T cs (A1 ++ M ++ B)).g) false ∧
      tl = (uF S T cs (A1 ++ M ++ B)).tl ++ [(⟨(uF S T cs (A1 ++ M ++ B)).g, T - (uF S T cs (A1 ++ M ++ B)).g, false⟩, (uF S T cs (A1 ++ M ++ B)).g)] ++ B.map (fun z => (z, z.a)) ∧
      R'.length = cs.length ∧ Chain 0 (tl.map (·.1)) cs.length ∧ Marks R' (tl.map (·.1)) ∧ S ≤ (uF S T cs (A1 ++ M ++ B)).g ∧
      ∀ q ∈ tl, 0 ≤ q.2 ∧ q.2 + q.1.l ≤ cs.length ∧ (q.1.v = true → ∀ i : Nat, (i : Int) < q.1.l → R'[(q.1.a + i).toNat]? = cs[(q.2 + i).toNat]?) := by
  have l1 := c1.le
  have l2 := c2.le
  have l3 := c3.le
  have eu : uF S T cs (A1 ++ M ++ B) = M.foldl (uStep S T) ⟨cs, S, A1.map fun z => (z, z.a)⟩ := by
    unfold uF
    rw [List.foldl_append, List.foldl_append, u_low (ps := A1) (fun z hz => by have := c1.mem z hz; omega), u_high (ps := B) (by omega) (fun z hz => by have := c3.mem z hz; omega)]
    rfl
  have mi : MvI cs M S T (A1.map fun z => (z, z.a)) (uF S T cs (A1 ++ M ++ B)) := by
    rw [eu]
    exact MvI.all (by omega) (by omega) ⟨rfl, fun _ _ => rfl, fun _ _ => rfl, ⟨[], by simp, rfl, fun m hm => by cases hm⟩, Int.le_refl _⟩ (Int.le_refl _) c2 fun z hz => hz
  generalize uF S T cs (A1 ++ M ++ B) = A at hf mi
  obtain ⟨hlen, hlow, hhigh, ⟨ms, etl, hch, hms⟩, hge⟩ := mi
  have lm := hch.le
  have out : ∀ j : Nat, ((j : Int) < A.g ∨ T ≤ j) → (laidI A.R A.g (T - A.g) false)[j]? = A.R[j]? := fun j h => laidI_out (by omega) (by omega) (by omega)
  have f1 := laidI_first (cs := A.R) (k := A.g) (l := T - A.g) (v := false) (by omega) (by omega) (by omega)
  have f2 := laidI_last (cs := A.R) (k := A.g) (l := T - A.g) (v := false) (by omega) (by omega) (by omega)
  have elen : (laidI A.R A.g (T - A.g) false).length = cs.length := by rw [laidI_len]; exact hlen
  refine ⟨_, _, rfl, rfl, elen, ?_, ?_, by omega, ?_⟩
  · rw [etl, List.map_append, List.map_append, List.map_append]
    have e1 : (A1.map fun z => (z, z.a)).map (·.1) = A1 := by rw [List.map_map]; exact List.map_id' A1
    have e2 : (B.map fun z => (z, z.a)).map (·.1) = B := by rw [List.map_map]; exact List.map_id' B
    rw [e1, e2]
    exact ((c1.app hch).app (show Chain A.g [⟨A.g, T - A.g, false⟩] T from ⟨rfl, by show 1 ≤ T - A.g; omega, (fun h => by cases h), by show A.g + (T - A.g) = T; omega⟩)).app c3
  · intro p hp
    obtain ⟨q, hq, rfl⟩ := List.mem_map.mp hp
    rcases List.mem_append.mp hq with hq | hq
    · rcases List.mem_append.mp hq with hq | hq
      · rw [etl] at hq
        rcases List.mem_append.mp hq with hq | hq
        · obtain ⟨z, hz, rfl⟩ := List.mem_map.mp hq
          obtain ⟨z0, z1, _, z3⟩ := c1.mem z hz
          obtain ⟨m1, m2⟩ := hm z (List.mem_append.mpr (.inl (List.mem_append.mpr (.inl hz))))
          show (laidI _ _ _ _)[z.a.toNat]? = _ ∧ (laidI _ _ _ _)[(z.a + z.l - 1).toNat]? = _
          rw [out _ (.inl (by omega)), out _ (.inl (by omega)), hlow _ (by omega), hlow _ (by omega)]
          exact ⟨m1, m2⟩
        · obtain ⟨⟨z, hz, hv, ea, el⟩, hv2, hh⟩ := hms q hq
          obtain ⟨q0, q1, _, q3⟩ := hch.mem q.1 (List.mem_map.mpr ⟨q, hq, rfl⟩)
          obtain ⟨z0, z1, _, z3⟩ := c2.mem z hz
          obtain ⟨m1, m2⟩ := hm z (List.mem_append.mpr (.inl (List.mem_append.mpr (.inr hz))))
          have em : q.1.mk' = z.mk' := by show mkOf q.1.l q.1.v = mkOf z.l z.v; rw [hv2, hv, el]
          have h0 := hh 0 (by omega)
          have h9 := hh (q.1.l - 1).toNat (by omega)
          rw [show q.1.a + ((0 : Nat) : Int) = q.1.a by omega, show q.2 + ((0 : Nat) : Int) = z.a by omega] at h0
          rw [show q.1.a + (((q.1.l - 1).toNat : Nat) : Int) = q.1.a + q.1.l - 1 by omega, show q.2 + (((q.1.l - 1).toNat : Nat) : Int) = z.a + z.l - 1 by omega] at h9
          rw [out _ (.inl (by omega)), out _ (.inl (by omega)), h0, h9, em]
          exact ⟨m1, m2⟩
      · rw [List.mem_singleton.mp hq]
        exact ⟨f1, f2⟩
    · obtain ⟨z, hz, rfl⟩ := List.mem_map.mp hq
      obtain ⟨z0, z1, _, z3⟩ := c3.mem z hz
      obtain ⟨m1, m2⟩ := hm z (List.mem_append.mpr (.inr hz))
      show (laidI _ _ _ _)[z.a.toNat]? = _ ∧ (laidI _ _ _ _)[(z.a + z.l - 1).toNat]? = _
      rw [out _ (.inr (by omega)), out _ (.inr (by omega)), hhigh _ (by omega), hhigh _ (by omega)]
      exact ⟨m1, m2⟩
  · intro q hq
    rcases List.mem_append.mp hq with hq | hq
    · rcases List.mem_append.mp hq with hq | hq
      · rw [etl] at hq
        rcases List.mem_append.mp hq with hq | hq
        · obtain ⟨z, hz, rfl⟩ := List.mem_map.mp hq
          obtain ⟨z0, z1, _, z3⟩ := c1.mem z hz
          refine ⟨z0, by show z.a + z.l ≤ _; omega, fun _ i hi => ?_⟩
          have hi : (i : Int) < z.l := hi
          show (laidI _ _ _ _)[(z.a + i).toNat]? = cs[(z.a + i).toNat]?
          rw [out _ (.inl (by omega)), hlow _ (by omega)]
        · obtain ⟨⟨z, hz, hv, ea, el⟩, hv2, hh⟩ := hms q hq
          obtain ⟨q0, q1, _, q3⟩ := hch.mem q.1 (List.mem_map.mpr ⟨q, hq, rfl⟩)
          obtain ⟨z0, z1, _, z3⟩ := c2.mem z hz
          refine ⟨by omega, by omega, fun _ i hi => ?_⟩
          rw [out _ (.inl (by omega))]
          exact hh i hi
      · rw [List.mem_singleton.mp hq]
        exact ⟨by show 0 ≤ A.g; omega, by show A.g + (T - A.g) ≤ _; omega, fun h => by cases h⟩
    · obtain ⟨z, hz, rfl⟩ := List.mem_map.mp hq
      obtain ⟨z0, z1, _, z3⟩ := c3.mem z hz
      refine ⟨by show 0 ≤ z.a; omega, by show z.a + z.l ≤ _; omega, fun _ i hi => ?_⟩
      have hi : (i : Int) < z.l := hi
      show (laidI _ _ _ _)[(z.a + i).toNat]? = cs[(z.a + i).toNat]?
      rw [out _ (.inr (by omega)), hhigh _ (by omega)]
/-! ### what a plan is -/
def hld (ps : List Pc) : Int := (plF ps).2.2
theorem plF_snoc (A : List Pc) (z : Pc) : plF (A ++ [z]) = stp (plF A) z := by
  unfold plF
  rw [List.foldl_append]
  rfl
/-- every start and every stop parts the pieces, with the live cells ahead of it -/
theorem plF_parts : ∀ (n : Nat) (ps : List Pc) (e : Int), ps.length = n → Chain 0 ps e →
    (∀ s ∈ (plF ps).1, ∃ A B, ps = A ++ B ∧ Chain 0 A s.1 ∧ hld A = s.2) ∧ (∀ t ∈ (plF ps).2.1, ∃ A B, ps = A ++ B ∧ Chain 0 A t.1 ∧ hld A = t.2)
  | 0, ps, e, hn, c => by
    have : ps = [] := List.length_eq_zero_iff.mp hn
    subst this
    refine ⟨fun s hs => ?_, fun t ht => by cases ht⟩
    have e1 : s = (0, 0) := by simpa [plF] using hs
    subst e1
    exact ⟨[], [], rfl, rfl, rfl⟩
  | n + 1, ps, e, hn, c => by
    obtain ⟨A, z, rfl⟩ : ∃ A z, ps = A ++ [z] := by
      have hne : ps ≠ [] := fun h => by rw [h] at hn; cases hn
      exact ⟨ps.dropLast, ps.getLast hne, (List.dropLast_concat_getLast hne).symm⟩
    have hcz : Chain 0 A z.a ∧ 1 ≤ z.l ∧ z.a + z.l = e := by
      have key : ∀ (A : List Pc) (s : Int), Chain s (A ++ [z]) e → Chain s A z.a ∧ 1 ≤ z.l ∧ z.a + z.l = e := by
        intro A
        induction A with
        | nil =>
          rintro s ⟨h1, h2, _, h4⟩
          have h4 : s + z.l = e := h4
          exact ⟨h1.symm, h2, by omega⟩
        | cons y r ih =>
          rintro s ⟨h1, h2, h3, h4⟩
          obtain ⟨g1, g2, g3⟩ := ih _ h4
          exact ⟨⟨h1, h2, h3, g1⟩, g2, g3⟩
      exact key A 0 c
    obtain ⟨cA, zl, ze⟩ := hcz
    have hA : A.length = n := by rw [List.length_append, List.length_singleton] at hn; omega
    obtain ⟨i1, i2⟩ := plF_parts n A z.a hA cA
    rw [plF_snoc]
    unfold stp
    split
    · rename_i hv
      refine ⟨fun s hs => ?_, fun t ht => ?_⟩
      · rcases List.mem_append.mp hs with h | h
        · obtain ⟨A', B', e1, e2, e3⟩ := i1 s h
          exact ⟨A', B' ++ [z], by rw [e1, List.append_assoc], e2, e3⟩
        · rw [List.mem_singleton.mp h]
          refine ⟨A ++ [z], [], by simp, by show Chain 0 (A ++ [z]) (z.a + z.l); rw [ze]; exact c, ?_⟩
          show (plF (A ++ [z])).2.2 = (plF A).2.2 + z.l
          rw [plF_snoc]
          unfold stp
          rw [if_pos hv]
      · rcases List.mem_append.mp ht with h | h
        · obtain ⟨A', B', e1, e2, e3⟩ := i2 t h
          exact ⟨A', B' ++ [z], by rw [e1, List.append_assoc], e2, e3⟩
        · rw [List.mem_singleton.mp h]
          exact ⟨A, [z], rfl, cA, rfl⟩
    · refine ⟨fun s hs => ?_, fun t ht => ?_⟩
      · obtain ⟨A', B', e1, e2, e3⟩ := i1 s hs
        exact ⟨A', B' ++ [z], by rw [e1, List.append_assoc], e2, e3⟩
      · obtain ⟨A', B', e1, e2, e3⟩ := i2 t ht
        exact ⟨A', B' ++ [z], by rw [e1, List.append_assoc], e2, e3⟩
theorem chain_pre : ∀ {A B : List Pc} {s e : Int}, Chain s (A ++ B) e → ∃ m, Chain s A m ∧ Chain m B e
  | [], B, s, e, c => ⟨s, rfl, c⟩
  | z :: r, B, s, e, c => by
    obtain ⟨h1, h2, h3, h4⟩ := c
    obtain ⟨m, g1, g2⟩ := chain_pre h4
    exact ⟨m, ⟨h1, h2, h3, g1⟩, g2⟩
theorem chain_end {A : List Pc} : ∀ {s e e' : Int}, Chain s A e → Chain s A e' → e = e' := by
  induction A with
  | nil => intro s e e' h1 h2; exact h1.symm.trans h2
  | cons z r ih => rintro s e e' ⟨_, _, _, h1⟩ ⟨_, _, _, h2⟩; exact ih h1 h2
/-- the cells that live pieces hold are where the moving goes on -/
theorem hld_app : ∀ (B A : List Pc), hld (A ++ B) = hld A + (B.foldl (fun h z => if z.v = true then h + z.l else h) 0)
  | B, A => by
    have key : ∀ (B A : List Pc) (k : Int), hld A + (B.foldl (fun h z => if z.v = true then h + z.l else h) k) = hld (A ++ B) + k := by
      intro B
      induction B with
      | nil => intro A k; simp
      | cons z r ih =>
        intro A k
        rw [List.foldl_cons, show A ++ z :: r = (A ++ [z]) ++ r by simp]
        have := ih (A ++ [z]) (if z.v = true then k + z.l else k)
        have e1 : hld (A ++ [z]) = hld A + (if z.v = true then z.l else 0) := by
          show (plF (A ++ [z])).2.2 = (plF A).2.2 + _
          rw [plF_snoc]
          unfold stp
          split <;> simp
        rw [e1] at this
        split at this
        · rename_i hv; rw [if_pos hv]; omega
        · rename_i hv; rw [if_neg hv]; omega
    have := key B A 0
    omega
theorem u_g {S T : Int} : ∀ {ps : List Pc} {A : Uf} {e : Int}, S ≤ e → Chain e ps T → (ps.foldl (uStep S T) A).g = A.g + (ps.foldl (fun h z => if z.v = true then h + z.l else h) 0)
  | [], A, e, _, _ => by simp
  | z :: r, A, e, hSe, c => by
    obtain ⟨ea, h1, h3, c2⟩ := c
    have hle := c2.le
    rw [List.foldl_cons, u_g (by omega) c2, List.foldl_cons]
    have key : ∀ (r : List Pc) (k : Int), r.foldl (fun h z => if z.v = true then h + z.l else h) k = k + r.foldl (fun h z => if z.v = true then h + z.l else h) 0 := by
      intro r
      induction r with
      | nil => intro k; simp
      | cons y r ih =>
        intro k
        rw [List.foldl_cons, List.foldl_cons, ih (if y.v = true then k + y.l else k), ih (if y.v = true then 0 + y.l else 0)]
        split <;> omega
    unfold uStep
    rw [if_neg (by omega)]
    by_cases hv : z.v = true
    · rw [if_pos ⟨by omega, hv⟩, if_pos hv, key r (0 + z.l)]
      show A.g + z.l + _ = _
      omega
    · rw [if_neg (fun h => hv h.2), if_neg hv]
theorem plan_parts {nd : Int} {ps : List Pc} {n m S T : Int} (c : Chain 0 ps n) (h : [m, S, T] ∈ plans nd ps n) : ∃ A M B, ps = A ++ M ++ B ∧ Chain 0 A S ∧ Chain S M T ∧ Chain T B n ∧ nd ≤ T - S - m ∧ S ≤ T ∧ M.foldl (fun h z => if z.v = true then h + z.l else h) 0 = m := by
  unfold plans plansOf at h
  obtain ⟨r, hr, hx⟩ := List.mem_flatten.mp h
  obtain ⟨s, hs, rfl⟩ := List.mem_map.mp hr
  obtain ⟨t, ht, e⟩ := List.mem_filterMap.mp hx
  unfold pl1 at e
  split at e
  · rename_i hc
    have e1 := Option.some.inj e
    simp only [List.cons.injEq, and_true] at e1
    obtain ⟨em, eS, eT⟩ := e1
    obtain ⟨p1, p2⟩ := plF_parts ps.length ps n rfl c
    obtain ⟨A, B1, f1, f2, f3⟩ := p1 s hs
    have ht2 : ∃ A B, ps = A ++ B ∧ Chain 0 A t.1 ∧ hld A = t.2 := by
      rcases List.mem_append.mp ht with h | h
      · exact p2 t h
      · rw [List.mem_singleton.mp h]
        exact ⟨ps, [], by simp, c, rfl⟩
    obtain ⟨A2, B, g1, g2, g3⟩ := ht2
    have hpre : ∃ M, A2 = A ++ M := by
      have heq : A ++ B1 = A2 ++ B := f1.symm.trans g1
      rcases List.append_eq_append_iff.mp heq with ⟨w, h1, h2⟩ | ⟨w, h1, h2⟩
      · exact ⟨w, h1⟩
      · have hcA := f2
        rw [h1] at hcA
        obtain ⟨mm, k1, k2⟩ := chain_pre hcA
        have em := chain_end k1 g2
        subst em
        have hl := k2.le
        have hw : w = [] := List.length_eq_zero_iff.mp (by omega)
        subst hw
        exact ⟨[], by rw [h1]; simp⟩
    obtain ⟨M, eM⟩ := hpre
    rw [eM] at g1 g2 g3
    obtain ⟨mm, k1, k2⟩ := chain_pre g2
    have emm := chain_end k1 f2
    subst emm
    have hcB := c
    rw [g1] at hcB
    obtain ⟨mb, b1, b2⟩ := chain_pre hcB
    have emb := chain_end b1 g2
    subst emb
    have hh := hld_app M A
    refine ⟨A, M, B, g1, by rw [← eS]; exact f2, by rw [← eS, ← eT]; exact k2, by rw [← eT]; exact b2, ?_, ?_, ?_⟩
    · rw [← em, ← eS, ← eT]; exact hc.2
    · rw [← eS, ← eT]; exact hc.1
    · rw [← em]; omega
  · cases e
theorem u_whole {S T : Int} {cs : List Int} {A M B : List Pc} {n : Int} (c1 : Chain 0 A S) (c2 : Chain S M T) (c3 : Chain T B n) : (uF S T cs (A ++ M ++ B)).g = S + M.foldl (fun h z => if z.v = true then h + z.l else h) 0 := by
  have l2 := c2.le
  unfold uF
  rw [List.foldl_append, List.foldl_append, u_low (ps := A) (fun z hz => by have := c1.mem z hz; omega), u_high (ps := B) (by omega) (fun z hz => by have := c3.mem z hz; omega), u_g (Int.le_refl _) c2]
end Stow
namespace Stow
open PySem L2 PyProof.Rows
section
variable {X : Cx} {pins : List (Addr × Obj)} {σ : L2.St} {H : Hp} {s : Shared} {A : Around}
end
section
variable {X : Cx}
end
theorem sIx_at {n d : Nat} {k : Int} (h0 : 0 ≤ k) (h : k ≤ n) : HT.sIx n d (some k) = k.toNat := by
  have := HT.sIx_nat n d k.toNat
  rw [Int.toNat_of_nonneg h0] at this
  rw [this]
  omega
theorem cutI_to {ns : List Int} {k : Int} (h0 : 0 ≤ k) (h : k ≤ ns.length) : cutI ns none (some k) = ns.take k.toNat := by
  unfold cutI
  rw [sIx_at h0 h, HT.sIx_none]
  rfl
theorem cutI_from {ns : List Int} {k : Int} (h0 : 0 ≤ k) (h : k ≤ ns.length) : cutI ns (some k) none = ns.drop k.toNat := by
  unfold cutI
  rw [sIx_at h0 h, HT.sIx_none]
  exact List.take_of_length_le (by rw [List.length_drop]; omega)
theorem cutI_mid {ns : List Int} {k l : Int} (h0 : 0 ≤ k) (h1 : 0 ≤ l) (h : k + l ≤ ns.length) : cutI ns (some k) (some (k + l)) = (ns.drop k.toNat).take l.toNat := by
  unfold cutI
  rw [sIx_at h0 (by omega), sIx_at (by omega) h, show (k + l).toNat - k.toNat = l.toNat by omega]
end Stow

set_option Elab.async false
set_option linter.all false
set_option maxRecDepth 100000
set_option maxHeartbeats 4000000
namespace Stow
open PySem L2 PyProof.Rows
/-! ### the least of tuples of three -/
theorem lex3g (a b c d e f : Int) : HT.lexLt [a, b, c] [d, e, f] = decide (a < d ∨ (a = d ∧ (b < e ∨ (b = e ∧ c < f)))) := by
  rw [HT.lexLt_cons]
  by_cases h1 : a = d
  · rw [if_pos h1, HT.lexLt_cons]
    by_cases h2 : b = e
    · rw [if_pos h2, HT.lexLt_cons]
      by_cases h3 : c = f
      · rw [if_pos h3, HT.lexLt_nil_nil]
        exact (decide_eq_false (by omega)).symm
      · rw [if_neg h3]
        congr 1
        exact propext ⟨fun h => by omega, fun h => by omega⟩
    · rw [if_neg h2]
      congr 1
      exact propext ⟨fun h => by omega, fun h => by omega⟩
  · rw [if_neg h1]
    congr 1
    exact propext ⟨fun h => by omega, fun h => by omega⟩
/-- none has a first number below the least one's -/
theorem minAt_first {xs : List (List Int)} (h3 : ∀ k, k < xs.length → ∃ a b c, xs.getD k [] = [a, b, c]) : ∀ j, j < xs.length → ∀ k, k ≤ j → (xs.getD (minAt xs j) []).getD 0 0 ≤ (xs.getD k []).getD 0 0
  | 0, hj, k, hk => by
    have : k = 0 := by omega
    subst this
    exact Int.le_refl _
  | j + 1, hj, k, hk => by
    have ih := minAt_first h3 j (by omega)
    have hm := minAt_le xs j
    obtain ⟨a, b, c, e1⟩ := h3 (j + 1) hj
    obtain ⟨d, e, f, e2⟩ := h3 (minAt xs j) (by omega)
    unfold minAt
    rw [e1, e2, lex3g]
    by_cases hlt : (a < d ∨ (a = d ∧ (b < e ∨ (b = e ∧ c < f))))
    · rw [if_pos (decide_eq_true hlt)]
      by_cases ek : k = j + 1
      · subst ek; exact Int.le_refl _
      · have := ih k (by omega)
        rw [e2] at this
        rw [e1]
        have t2 : d ≤ (xs.getD k []).getD 0 0 := this
        show a ≤ _
        omega
    · rw [if_neg (by rw [decide_eq_false hlt]; exact Bool.false_ne_true)]
      by_cases ek : k = j + 1
      · subst ek
        rw [e1, e2]
        show d ≤ a
        omega
      · exact ih k (by omega)
/-! ### no moving moves fewer: by sums over the gaps -/
def pre (xs : List Int) : Nat → Int
  | 0 => 0
  | n + 1 => pre xs n + xs.getD n 0
/-- how many cells are moved: the long of each piece ahead of which the gaps' sums are unlike -/
def mvS (L G O : List Int) : Nat → Int
  | 0 => 0
  | n + 1 => mvS L G O n + (if pre G (n + 1) = pre O (n + 1) then 0 else L.getD n 0)
theorem ex_last {P : Nat → Prop} : ∀ h, P 0 → ∃ a, a ≤ h ∧ P a ∧ ∀ i, a < i → i ≤ h → ¬ P i
  | 0, h0 => ⟨0, Nat.le_refl _, h0, fun i h1 h2 => by omega⟩
  | h + 1, h0 => by
    by_cases hp : P (h + 1)
    · exact ⟨h + 1, Nat.le_refl _, hp, fun i h1 h2 => by omega⟩
    · obtain ⟨a, h1, h2, h3⟩ := ex_last (P := P) h h0
      refine ⟨a, by omega, h2, fun i g1 g2 => ?_⟩
      by_cases e : i = h + 1
      · subst e; exact hp
      · exact h3 i g1 (by omega)
theorem ex_first {P : Nat → Prop} {m : Nat} : ∀ n, P (m + n) → ∃ b, m ≤ b ∧ b ≤ m + n ∧ P b ∧ ∀ i, m ≤ i → i < b → ¬ P i
  | 0, h0 => ⟨m, Nat.le_refl _, Nat.le_refl _, h0, fun i h1 h2 => by omega⟩
  | n + 1, h0 => by
    by_cases hp : ∃ i, m ≤ i ∧ i ≤ m + n ∧ P i
    · obtain ⟨i, i1, i2, i3⟩ := hp
      obtain ⟨d, rfl⟩ : ∃ d, i = m + d := ⟨i - m, by omega⟩
      have hd : d < n + 1 := by omega
      obtain ⟨b, b1, b2, b3, b4⟩ := ex_first (P := P) (m := m) d i3
      exact ⟨b, b1, by omega, b3, b4⟩
    · exact ⟨m + (n + 1), by omega, Nat.le_refl _, h0, fun i h1 h2 h3 => hp ⟨i, h1, by omega, h3⟩⟩
termination_by n => n
theorem pre_mono {O : List Int} (h : ∀ i, 0 ≤ O.getD i 0) : ∀ {a b : Nat}, a ≤ b → pre O a ≤ pre O b
  | a, 0, hab => by
    have : a = 0 := by omega
    subst this
    exact Int.le_refl _
  | a, b + 1, hab => by
    by_cases e : a = b + 1
    · subst e; exact Int.le_refl _
    · have := pre_mono h (a := a) (b := b) (by omega)
      have := h b
      show pre O a ≤ pre O b + O.getD b 0
      omega
theorem mvS_ge {L G O : List Int} (hL : ∀ i, 0 ≤ L.getD i 0) {a b : Nat} (hne : ∀ i, a < i → i ≤ b → pre G i ≠ pre O i) : ∀ n, b ≤ n → pre L b - pre L a ≤ mvS L G O n ∨ b < a
  | 0, h => by
    by_cases e : b < a
    · exact .inr e
    · have h1 : a = 0 := by omega
      have h2 : b = 0 := by omega
      subst h1 h2
      left
      show pre L 0 - pre L 0 ≤ 0
      omega
  | n + 1, h => by
    by_cases e : b < a
    · exact .inr e
    left
    have hln := hL n
    by_cases eb : b = n + 1
    · subst eb
      by_cases ea : a = n + 1
      · subst ea
        have hm : ∀ k, 0 ≤ mvS L G O k := by
          intro k
          induction k with
          | zero => exact Int.le_refl _
          | succ k ih =>
            have := hL k
            show 0 ≤ mvS L G O k + _
            split <;> omega
        have := hm (n + 1)
        omega
      · have ih := mvS_ge hL (a := a) (b := n) (fun i h1 h2 => hne i h1 (by omega)) n (Nat.le_refl _)
        rcases ih with ih | ih
        · show pre L n + L.getD n 0 - pre L a ≤ mvS L G O n + _
          rw [if_neg (hne (n + 1) (by omega) (Nat.le_refl _))]
          omega
        · omega
    · have ih := mvS_ge hL hne n (by omega)
      rcases ih with ih | ih
      · show _ ≤ mvS L G O n + _
        split <;> omega
      · exact absurd ih e
/-- by whatever gaps: some staying edges have as many free cells between, and no more is moved between them -/
theorem some_plan {L G O : List Int} {k h : Nat} {nd : Int} (hL : ∀ i, 0 ≤ L.getD i 0) (hO : ∀ i, 0 ≤ O.getD i 0) (hs : pre G (k + 1) = pre O (k + 1)) (hk : h ≤ k) (hn : nd ≤ O.getD h 0) :
    ∃ a b, a ≤ b ∧ b ≤ k ∧ nd ≤ pre G (b + 1) - pre G a ∧ pre L b - pre L a ≤ mvS L G O k := by
  obtain ⟨a, a1, a2, a3⟩ := ex_last (P := fun i => pre G i = pre O i) h rfl
  obtain ⟨b, b1, b2, b3, b4⟩ := ex_first (P := fun i => pre G i = pre O i) (m := h + 1) (k - h) (by show pre G (h + 1 + (k - h)) = pre O (h + 1 + (k - h)); rw [show h + 1 + (k - h) = k + 1 by omega]; exact hs)
  obtain ⟨c, rfl⟩ : ∃ c, b = c + 1 := ⟨b - 1, by omega⟩
  refine ⟨a, c, by omega, by omega, ?_, ?_⟩
  · have m1 := pre_mono hO (a := a) (b := h) a1
    have m2 := pre_mono hO (a := h + 1) (b := c + 1) b1
    have m3 : pre O (h + 1) = pre O h + O.getD h 0 := rfl
    have b3 : pre G (c + 1) = pre O (c + 1) := b3
    have a2 : pre G a = pre O a := a2
    omega
  · have := mvS_ge (L := L) (G := G) (O := O) hL (a := a) (b := c) (fun i h1 h2 => by
      by_cases hi : i ≤ h
      · exact a3 i h1 hi
      · exact b4 i (by omega) (by omega)) k (by omega)
    rcases this with h | h
    · exact h
    · omega
/-! ### gaps and longs of the live pieces; starts and stops by them -/
def gp (A : List Int × Int) (z : Pc) : List Int × Int := if z.v = true then (A.1 ++ [z.a - A.2], z.a + z.l) else A
def gpF (ps : List Pc) : List Int × Int := ps.foldl gp ([], 0)
def gapF (ps : List Pc) (n : Int) : List Int := (gpF ps).1 ++ [n - (gpF ps).2]
def lnF (ps : List Pc) : List Int := (ps.filter (·.v)).map (·.l)
theorem gpF_snoc (A : List Pc) (z : Pc) : gpF (A ++ [z]) = gp (gpF A) z := by
  unfold gpF
  rw [List.foldl_append]
  rfl
theorem gpF_take {ps : List Pc} {i : Nat} {z : Pc} (h : ps[i]? = some z) : gpF (ps.take (i + 1)) = gp (gpF (ps.take i)) z := by
  rw [List.take_add_one, h]
  exact gpF_snoc _ _
theorem lnF_snoc (A : List Pc) (z : Pc) : lnF (A ++ [z]) = lnF A ++ (if z.v = true then [z.l] else []) := by
  unfold lnF
  rw [List.filter_append, List.map_append]
  congr 1
  cases hv : z.v <;> simp [hv]
theorem pre_app {xs : List Int} {y : Int} : ∀ {n : Nat}, n ≤ xs.length → pre (xs ++ [y]) n = pre xs n
  | 0, _ => rfl
  | n + 1, h => by
    show pre (xs ++ [y]) n + (xs ++ [y]).getD n 0 = pre xs n + xs.getD n 0
    rw [pre_app (n := n) (by omega)]
    congr 1
    rw [List.getD_eq_getElem?_getD, List.getD_eq_getElem?_getD, List.getElem?_append_left (by omega)]
theorem pre_end (xs : List Int) (y : Int) : pre (xs ++ [y]) (xs.length + 1) = pre xs xs.length + y := by
  show pre (xs ++ [y]) xs.length + (xs ++ [y]).getD xs.length 0 = _
  rw [pre_app (Nat.le_refl _)]
  congr 1
  rw [List.getD_eq_getElem?_getD, List.getElem?_append_right (Nat.le_refl _), Nat.sub_self]
  rfl
/-- starts, stops and gaps of the same pieces -/
structure Gaps (ps : List Pc) : Prop where
  k1 : (gpF ps).1.length = (lnF ps).length
  k2 : (plF ps).1.length = (lnF ps).length + 1
  k3 : (plF ps).2.1.length = (lnF ps).length
  ss : ∀ i, i ≤ (lnF ps).length → (plF ps).1[i]? = some (pre (gpF ps).1 i + pre (lnF ps) i, pre (lnF ps) i)
  ts : ∀ i, i < (lnF ps).length → (plF ps).2.1[i]? = some (pre (gpF ps).1 (i + 1) + pre (lnF ps) i, pre (lnF ps) i)
  en : (gpF ps).2 = pre (gpF ps).1 (lnF ps).length + pre (lnF ps) (lnF ps).length
  hl : (plF ps).2.2 = pre (lnF ps) (lnF ps).length
theorem Gaps.snoc {A : List Pc} {z : Pc} (g : Gaps A) : Gaps (A ++ [z]) := by
  obtain ⟨k1, k2, k3, ss, ts, en, hl⟩ := g
  by_cases hv : z.v = true
  · have e1 : gpF (A ++ [z]) = ((gpF A).1 ++ [z.a - (gpF A).2], z.a + z.l) := by rw [gpF_snoc]; unfold gp; rw [if_pos hv]
    have e2 : lnF (A ++ [z]) = lnF A ++ [z.l] := by rw [lnF_snoc, if_pos hv]
    have e3 : plF (A ++ [z]) = ((plF A).1 ++ [(z.a + z.l, (plF A).2.2 + z.l)], (plF A).2.1 ++ [(z.a, (plF A).2.2)], (plF A).2.2 + z.l) := by rw [plF_snoc]; unfold stp; rw [if_pos hv]
    have f1 := pre_end (gpF A).1 (z.a - (gpF A).2)
    have f2 := pre_end (lnF A) z.l
    rw [k1] at f1
    have a1 : ∀ i, i ≤ (lnF A).length → pre ((gpF A).1 ++ [z.a - (gpF A).2]) i = pre (gpF A).1 i := fun i hi => pre_app (by omega)
    have a2 : ∀ i, i ≤ (lnF A).length → pre (lnF A ++ [z.l]) i = pre (lnF A) i := fun i hi => pre_app hi
    refine ⟨?_, ?_, ?_, ?_, ?_, ?_, ?_⟩
    · rw [e1, e2]; simp only [List.length_append, List.length_singleton]; omega
    · rw [e2, e3]; simp only [List.length_append, List.length_singleton]; omega
    · rw [e2, e3]; simp only [List.length_append, List.length_singleton]; omega
    · rw [e1, e2, e3]
      simp only [List.length_append, List.length_singleton]
      intro i hi
      by_cases ei : i = (lnF A).length + 1
      · subst ei
        rw [List.getElem?_append_right (by omega), k2, Nat.sub_self, f1, f2, hl]
        simp only [List.getElem?_cons_zero, Option.some.injEq, Prod.mk.injEq, and_true]
        omega
      · rw [List.getElem?_append_left (by omega), a1 i (by omega), a2 i (by omega)]
        exact ss i (by omega)
    · rw [e1, e2, e3]
      simp only [List.length_append, List.length_singleton]
      intro i hi
      by_cases ei : i = (lnF A).length
      · subst ei
        rw [List.getElem?_append_right (by omega), k3, Nat.sub_self, f1, a2 _ (Nat.le_refl _), hl]
        simp only [List.getElem?_cons_zero, Option.some.injEq, Prod.mk.injEq, and_true]
        omega
      · rw [List.getElem?_append_left (by omega), a1 (i + 1) (by omega), a2 i (by omega)]
        exact ts i (by omega)
    · rw [e1, e2]
      simp only [List.length_append, List.length_singleton]
      rw [f1, f2]
      omega
    · rw [e2, e3]
      simp only [List.length_append, List.length_singleton]
      rw [f2, hl]
  · have e1 : gpF (A ++ [z]) = gpF A := by rw [gpF_snoc]; unfold gp; rw [if_neg hv]
    have e2 : lnF (A ++ [z]) = lnF A := by rw [lnF_snoc, if_neg hv, List.append_nil]
    have e3 : plF (A ++ [z]) = plF A := by rw [plF_snoc]; unfold stp; rw [if_neg hv]
    exact ⟨by rw [e1, e2]; exact k1, by rw [e2, e3]; exact k2, by rw [e2, e3]; exact k3, by rw [e1, e2, e3]; exact ss, by rw [e1, e2, e3]; exact ts, by rw [e1, e2]; exact en, by rw [e2, e3]; exact hl⟩
theorem gaps_of : ∀ (n : Nat) (ps : List Pc), ps.length = n → Gaps ps
  | 0, ps, h => by
    have : ps = [] := List.length_eq_zero_iff.mp h
    subst this
    refine ⟨rfl, rfl, rfl, fun i hi => ?_, (fun i hi => by cases hi), rfl, rfl⟩
    have : i = 0 := by
      have h1 : (lnF []).length = 0 := rfl
      omega
    subst this
    rfl
  | n + 1, ps, h => by
    have hne : ps ≠ [] := fun h' => by rw [h'] at h; cases h
    have e := (List.dropLast_concat_getLast hne).symm
    rw [e]
    exact (gaps_of n ps.dropLast (by rw [List.length_dropLast]; omega)).snoc
/-- a plan by its gaps -/
theorem plan_in {ps : List Pc} {n nd : Int} {a b : Nat} (hab : a ≤ b) (hb : b ≤ (lnF ps).length) (h : nd ≤ pre (gapF ps n) (b + 1) - pre (gapF ps n) a) (hnd : 1 ≤ nd) (hL : ∀ i, 0 ≤ (lnF ps).getD i 0) :
    [pre (lnF ps) b - pre (lnF ps) a, pre (gapF ps n) a + pre (lnF ps) a, pre (gapF ps n) (b + 1) + pre (lnF ps) b] ∈ plans nd ps n := by
  obtain ⟨k1, k2, k3, ss, ts, en, hl⟩ := gaps_of ps.length ps rfl
  have hm := pre_mono hL hab
  have g1 : ∀ i, i ≤ (lnF ps).length → pre (gapF ps n) i = pre (gpF ps).1 i := fun i hi => pre_app (by omega)
  have g2 : pre (gapF ps n) ((lnF ps).length + 1) = pre (gpF ps).1 (lnF ps).length + (n - (gpF ps).2) := by
    have := pre_end (gpF ps).1 (n - (gpF ps).2)
    rw [k1] at this
    exact this
  have hs := ss a (by omega)
  have ht : ((plF ps).2.1 ++ [(n, (plF ps).2.2)])[b]? = some (pre (gapF ps n) (b + 1) + pre (lnF ps) b, pre (lnF ps) b) := by
    by_cases eb : b = (lnF ps).length
    · subst eb
      rw [List.getElem?_append_right (by omega), k3, Nat.sub_self, g2, hl]
      simp only [List.getElem?_cons_zero, Option.some.injEq, Prod.mk.injEq, and_true]
      omega
    · rw [List.getElem?_append_left (by omega), ts b (by omega), g1 (b + 1) (by omega)]
  rw [← g1 a (by omega)] at hs
  unfold plans plansOf
  refine List.mem_flatten.mpr ⟨_, List.mem_map.mpr ⟨_, List.mem_of_getElem? hs, rfl⟩, List.mem_filterMap.mpr ⟨_, List.mem_of_getElem? ht, ?_⟩⟩
  unfold pl1
  rw [if_pos (by constructor <;> show _ ≤ _ <;> omega)]
/-- every plan is one by its gaps -/
theorem plan_at {ps : List Pc} {n nd m S T : Int} (h : [m, S, T] ∈ plans nd ps n) : ∃ a b : Nat, a ≤ (lnF ps).length ∧ b ≤ (lnF ps).length ∧ m = pre (lnF ps) b - pre (lnF ps) a ∧ S = pre (gapF ps n) a + pre (lnF ps) a ∧ T = pre (gapF ps n) (b + 1) + pre (lnF ps) b ∧ S ≤ T ∧ nd ≤ T - S - m := by
  obtain ⟨k1, k2, k3, ss, ts, en, hl⟩ := gaps_of ps.length ps rfl
  have g1 : ∀ i, i ≤ (lnF ps).length → pre (gapF ps n) i = pre (gpF ps).1 i := fun i hi => pre_app (by omega)
  have g2 : pre (gapF ps n) ((lnF ps).length + 1) = pre (gpF ps).1 (lnF ps).length + (n - (gpF ps).2) := by
    have := pre_end (gpF ps).1 (n - (gpF ps).2)
    rw [k1] at this
    exact this
  unfold plans plansOf at h
  obtain ⟨r, hr, hx⟩ := List.mem_flatten.mp h
  obtain ⟨s, hs, rfl⟩ := List.mem_map.mp hr
  obtain ⟨t, ht, e⟩ := List.mem_filterMap.mp hx
  unfold pl1 at e
  split at e
  · rename_i hc
    have e1 := Option.some.inj e
    simp only [List.cons.injEq, and_true] at e1
    obtain ⟨em, eS, eT⟩ := e1
    obtain ⟨a, ha, ea⟩ := List.mem_iff_getElem.mp hs
    have hsa := ss a (by omega)
    rw [List.getElem?_eq_getElem ha, ea] at hsa
    have hsa := Option.some.inj hsa
    have hstop : ∃ b, b ≤ (lnF ps).length ∧ t = (pre (gapF ps n) (b + 1) + pre (lnF ps) b, pre (lnF ps) b) := by
      rcases List.mem_append.mp ht with h | h
      · obtain ⟨b, hb, eb⟩ := List.mem_iff_getElem.mp h
        have htb := ts b (by omega)
        rw [List.getElem?_eq_getElem hb, eb] at htb
        refine ⟨b, by omega, ?_⟩
        rw [g1 (b + 1) (by omega)]
        exact Option.some.inj htb
      · rw [List.mem_singleton.mp h]
        refine ⟨(lnF ps).length, Nat.le_refl _, ?_⟩
        rw [g2, hl]
        simp only [Prod.mk.injEq, and_true]
        omega
    obtain ⟨b, hb, et⟩ := hstop
    subst et
    rw [hsa] at em eS hc
    have := g1 a (by omega)
    refine ⟨a, b, by omega, hb, em.symm, by rw [this]; exact eS.symm, eT.symm, ?_, ?_⟩
    · rw [← eS, ← eT]; exact hc.1
    · rw [← eS, ← eT, ← em]; exact hc.2
  · cases e
/-! ### just as many are moved as are told -/
theorem lnF_app (A B : List Pc) : lnF (A ++ B) = lnF A ++ lnF B := by unfold lnF; rw [List.filter_append, List.map_append]
theorem pre_two (xs ys : List Int) : ∀ n, pre (xs ++ ys) (xs.length + n) = pre xs xs.length + pre ys n
  | 0 => by
    rw [Nat.add_zero]
    show _ = _ + (0 : Int)
    rw [Int.add_zero]
    have key : ∀ m, m ≤ xs.length → pre (xs ++ ys) m = pre xs m := by
      intro m
      induction m with
      | zero => intro _; rfl
      | succ m ih =>
        intro hm
        show pre (xs ++ ys) m + _ = pre xs m + _
        rw [ih (by omega), List.getD_eq_getElem?_getD, List.getD_eq_getElem?_getD, List.getElem?_append_left (by omega)]
    exact key _ (Nat.le_refl _)
  | n + 1 => by
    show pre (xs ++ ys) (xs.length + n) + (xs ++ ys).getD (xs.length + n) 0 = pre xs xs.length + (pre ys n + ys.getD n 0)
    rw [pre_two xs ys n, List.getD_eq_getElem?_getD, List.getElem?_append_right (by omega), show xs.length + n - xs.length = n by omega, ← List.getD_eq_getElem?_getD]
    omega
theorem pre_fst {xs ys : List Int} : ∀ {m : Nat}, m ≤ xs.length → pre (xs ++ ys) m = pre xs m
  | 0, _ => rfl
  | m + 1, h => by
    show pre (xs ++ ys) m + _ = pre xs m + _
    rw [pre_fst (by omega), List.getD_eq_getElem?_getD, List.getD_eq_getElem?_getD, List.getElem?_append_left (by omega)]
/-- where the live pieces of a row lie, by the gaps -/
theorem live_at_gap : ∀ (n : Nat) (ps : List Pc), ps.length = n → ∀ j, j < (lnF ps).length → ∃ z, (ps.filter (·.v))[j]? = some z ∧ z.a = pre (gpF ps).1 (j + 1) + pre (lnF ps) j ∧ z.l = (lnF ps).getD j 0
  | 0, ps, h, j, hj => by
    have : ps = [] := List.length_eq_zero_iff.mp h
    subst this
    cases hj
  | n + 1, ps, h, j, hj => by
    have hne : ps ≠ [] := fun h' => by rw [h'] at h; cases h
    have e := (List.dropLast_concat_getLast hne).symm
    generalize ps.getLast hne = z at e
    have hA : ps.dropLast.length = n := by rw [List.length_dropLast]; omega
    generalize ps.dropLast = A at e hA
    subst e
    have ih := live_at_gap n A hA
    obtain ⟨k1, k2, k3, ss, ts, en, hl⟩ := gaps_of A.length A rfl
    have hfl : (A.filter (·.v)).length = (lnF A).length := by unfold lnF; rw [List.length_map]
    by_cases hv : z.v = true
    · have e1 : gpF (A ++ [z]) = ((gpF A).1 ++ [z.a - (gpF A).2], z.a + z.l) := by rw [gpF_snoc]; unfold gp; rw [if_pos hv]
      have e2 : lnF (A ++ [z]) = lnF A ++ [z.l] := by rw [lnF_snoc, if_pos hv]
      have e3 : (A ++ [z]).filter (·.v) = A.filter (·.v) ++ [z] := by rw [List.filter_append]; simp [hv]
      rw [e2, List.length_append, List.length_singleton] at hj
      rw [e1, e2, e3]
      by_cases ej : j = (lnF A).length
      · subst ej
        refine ⟨z, by rw [List.getElem?_append_right (by omega), hfl, Nat.sub_self]; rfl, ?_, ?_⟩
        · have f1 := pre_end (gpF A).1 (z.a - (gpF A).2)
          rw [k1] at f1
          rw [f1, pre_app (Nat.le_refl _)]
          omega
        · rw [List.getD_eq_getElem?_getD, List.getElem?_append_right (Nat.le_refl _), Nat.sub_self]
          rfl
      · obtain ⟨y, y1, y2, y3⟩ := ih j (by omega)
        refine ⟨y, by rw [List.getElem?_append_left (by omega)]; exact y1, ?_, ?_⟩
        · rw [pre_app (by omega), pre_app (by omega)]
          exact y2
        · rw [List.getD_eq_getElem?_getD, List.getElem?_append_left (by omega), ← List.getD_eq_getElem?_getD]
          exact y3
    · have e1 : gpF (A ++ [z]) = gpF A := by rw [gpF_snoc]; unfold gp; rw [if_neg hv]
      have e2 : lnF (A ++ [z]) = lnF A := by rw [lnF_snoc, if_neg hv, List.append_nil]
      have e3 : (A ++ [z]).filter (·.v) = A.filter (·.v) := by rw [List.filter_append]; simp [hv]
      rw [e2] at hj
      rw [e1, e2, e3]
      exact ih j hj
/-- the pieces moved, end to end from g on -/
def plc (g : Int) : List Pc → List Pc
  | [] => []
  | z :: r => if z.v = true then ⟨g, z.l, true⟩ :: plc (g + z.l) r else plc g r
theorem u_tl {S T : Int} : ∀ {ps : List Pc} {A : Uf} {e : Int}, S ≤ e → Chain e ps T → (ps.foldl (uStep S T) A).tl.map (·.1) = A.tl.map (·.1) ++ plc A.g ps
  | [], A, e, _, _ => by simp [plc]
  | z :: r, A, e, hSe, c => by
    obtain ⟨ea, h1, h3, c2⟩ := c
    have hle := c2.le
    rw [List.foldl_cons, u_tl (by omega) c2]
    have ep : plc A.g (z :: r) = if z.v = true then ⟨A.g, z.l, true⟩ :: plc (A.g + z.l) r else plc A.g r := rfl
    rw [ep]
    unfold uStep
    rw [if_neg (by omega)]
    by_cases hv : z.v = true
    · rw [if_pos ⟨by omega, hv⟩, if_pos hv]
      simp [hv]
    · rw [if_neg (fun h => hv h.2), if_neg hv]
theorem plc_ln : ∀ (M : List Pc) (g : Int), lnF (plc g M) = lnF M ∧ (plc g M).filter (·.v) = plc g M
  | [], g => ⟨rfl, rfl⟩
  | z :: r, g => by
    unfold plc
    by_cases hv : z.v = true
    · rw [if_pos hv]
      obtain ⟨h1, h2⟩ := plc_ln r (g + z.l)
      constructor
      · rw [show z :: r = [z] ++ r from rfl, lnF_app, show (⟨g, z.l, true⟩ : Pc) :: plc (g + z.l) r = [⟨g, z.l, true⟩] ++ plc (g + z.l) r from rfl, lnF_app, h1]
        congr 1
        unfold lnF
        simp [hv]
      · rw [List.filter_cons, if_pos rfl, h2]
    · rw [if_neg hv]
      obtain ⟨h1, h2⟩ := plc_ln r g
      constructor
      · rw [h1, show z :: r = [z] ++ r from rfl, lnF_app]
        unfold lnF
        simp [hv]
      · exact h2
theorem plc_get : ∀ (M : List Pc) (g : Int) (j : Nat), j < (lnF M).length → ∃ y, (plc g M)[j]? = some y ∧ y.a = g + pre (lnF M) j
  | [], g, j, h => by cases h
  | z :: r, g, j, h => by
    unfold plc
    by_cases hv : z.v = true
    · have e : lnF (z :: r) = [z.l] ++ lnF r := by rw [show z :: r = [z] ++ r from rfl, lnF_app]; congr 1; unfold lnF; simp [hv]
      rw [if_pos hv]
      rw [e] at h ⊢
      cases j with
      | zero => exact ⟨_, rfl, by show g = g + 0; omega⟩
      | succ j =>
        rw [List.length_append, List.length_singleton] at h
        obtain ⟨y, y1, y2⟩ := plc_get r (g + z.l) j (by omega)
        refine ⟨y, by rw [List.getElem?_cons_succ]; exact y1, ?_⟩
        have := pre_two [z.l] (lnF r) j
        rw [List.length_singleton, Nat.add_comm] at this
        rw [this, y2]
        show g + z.l + _ = g + (0 + z.l + _)
        omega
    · have e : lnF (z :: r) = lnF r := by rw [show z :: r = [z] ++ r from rfl, lnF_app]; unfold lnF; simp [hv]
      rw [if_neg hv]
      rw [e] at h ⊢
      exact plc_get r g j h
/-- gaps are nought or more -/
theorem gaps_nonneg : ∀ (n : Nat) (ps : List Pc) (e : Int), ps.length = n → Chain 0 ps e → (∀ i, 0 ≤ (gpF ps).1.getD i 0) ∧ (gpF ps).2 ≤ e
  | 0, ps, e, h, c => by
    have : ps = [] := List.length_eq_zero_iff.mp h
    subst this
    have c : (0 : Int) = e := c
    exact ⟨fun i => by simp [gpF], by rw [← c]; exact Int.le_refl _⟩
  | n + 1, ps, e, h, c => by
    have hne : ps ≠ [] := fun h' => by rw [h'] at h; cases h
    have e0 := (List.dropLast_concat_getLast hne).symm
    generalize ps.getLast hne = z at e0
    have hA : ps.dropLast.length = n := by rw [List.length_dropLast]; omega
    generalize ps.dropLast = A at e0 hA
    subst e0
    obtain ⟨mm, cA, cz⟩ := chain_pre c
    obtain ⟨ea, h1, h3, c4⟩ := cz
    have c4 : mm + z.l = e := c4
    obtain ⟨g1, g2⟩ := gaps_nonneg n A mm hA cA
    rw [gpF_snoc]
    unfold gp
    split
    · refine ⟨fun i => ?_, by show z.a + z.l ≤ e; omega⟩
      show 0 ≤ ((gpF A).1 ++ [z.a - (gpF A).2]).getD i 0
      rw [List.getD_eq_getElem?_getD]
      by_cases hi : i < (gpF A).1.length
      · rw [List.getElem?_append_left hi, ← List.getD_eq_getElem?_getD]; exact g1 i
      · rw [List.getElem?_append_right (by omega)]
        by_cases e1 : i - (gpF A).1.length = 0
        · rw [e1]; show 0 ≤ z.a - (gpF A).2; omega
        · rw [List.getElem?_eq_none (by simp; omega)]; exact Int.le_refl _
    · exact ⟨g1, by omega⟩
theorem gapF_nonneg {ps : List Pc} {n : Int} (c : Chain 0 ps n) : ∀ i, 0 ≤ (gapF ps n).getD i 0 := fun i => by
  obtain ⟨g1, g2⟩ := gaps_nonneg ps.length ps n rfl c
  unfold gapF
  rw [List.getD_eq_getElem?_getD]
  by_cases hi : i < (gpF ps).1.length
  · rw [List.getElem?_append_left hi, ← List.getD_eq_getElem?_getD]; exact g1 i
  · rw [List.getElem?_append_right (by omega)]
    by_cases e1 : i - (gpF ps).1.length = 0
    · rw [e1]; show 0 ≤ n - (gpF ps).2; omega
    · rw [List.getElem?_eq_none (by simp; omega)]; exact Int.le_refl _
theorem lnF_pos {ps : List Pc} {s e : Int} (c : Chain s ps e) : ∀ i, i < (lnF ps).length → 1 ≤ (lnF ps).getD i 0 := fun i hi => by
  rw [List.getD_eq_getElem?_getD, List.getElem?_eq_getElem hi]
  have hm := List.getElem_mem hi
  unfold lnF at hm
  obtain ⟨z, hz, e1⟩ := List.mem_map.mp hm
  have := (c.mem z (List.mem_filter.mp hz).1).2.1
  show 1 ≤ (lnF ps)[i]
  unfold lnF
  rw [← e1]
  exact this
theorem lnF_nonneg {ps : List Pc} {s e : Int} (c : Chain s ps e) : ∀ i, 0 ≤ (lnF ps).getD i 0 := fun i => by
  by_cases hi : i < (lnF ps).length
  · have := lnF_pos c i hi; omega
  · rw [List.getD_eq_getElem?_getD, List.getElem?_eq_none (by omega)]; exact Int.le_refl _
theorem gapF_len (ps : List Pc) (n : Int) : (gapF ps n).length = (lnF ps).length + 1 := by
  have := (gaps_of ps.length ps rfl).k1
  unfold gapF
  rw [List.length_append, List.length_singleton, this]
theorem gapF_pre {ps : List Pc} {n : Int} {i : Nat} (h : i ≤ (lnF ps).length) : pre (gapF ps n) i = pre (gpF ps).1 i := pre_app (by rw [(gaps_of ps.length ps rfl).k1]; exact h)
theorem gapF_all (ps : List Pc) (n : Int) : pre (gapF ps n) ((lnF ps).length + 1) = n - pre (lnF ps) (lnF ps).length := by
  obtain ⟨k1, k2, k3, ss, ts, en, hl⟩ := gaps_of ps.length ps rfl
  have := pre_end (gpF ps).1 (n - (gpF ps).2)
  rw [k1] at this
  unfold gapF
  rw [this]
  omega
/-- where the j-th live piece lies -/
theorem live_pos {ps : List Pc} {n : Int} {j : Nat} (h : j < (lnF ps).length) : ∃ z, (ps.filter (·.v))[j]? = some z ∧ z.a = pre (gapF ps n) (j + 1) + pre (lnF ps) j ∧ z.l = (lnF ps).getD j 0 := by
  rw [gapF_pre (by omega)]
  exact live_at_gap ps.length ps rfl j h
theorem fil_len (ps : List Pc) : (ps.filter (·.v)).length = (lnF ps).length := by unfold lnF; rw [List.length_map]
theorem mvS_range {L G O : List Int} {a b : Nat} (hab : a ≤ b) : ∀ n, (∀ j, j < n → (pre G (j + 1) = pre O (j + 1) ↔ ¬ (a ≤ j ∧ j < b))) → mvS L G O n = pre L (min n b) - pre L (min n a)
  | 0, _ => by simp [mvS, pre]
  | n + 1, h => by
    have ih := mvS_range (L := L) hab n fun j hj => h j (by omega)
    show mvS L G O n + _ = _
    rw [ih]
    by_cases hin : a ≤ n ∧ n < b
    · rw [if_neg (fun z => (h n (by omega)).mp z hin), show min n b = n by omega, show min n a = a by omega, show min (n + 1) b = n + 1 by omega, show min (n + 1) a = a by omega]
      show _ = pre L n + L.getD n 0 - _
      omega
    · rw [if_pos ((h n (by omega)).mpr hin)]
      by_cases h1 : n < a
      · rw [show min n b = n by omega, show min n a = n by omega, show min (n + 1) b = n + 1 by omega, show min (n + 1) a = n + 1 by omega]
        omega
      · rw [show min n b = b by omega, show min (n + 1) b = b by omega, show min n a = a by omega, show min (n + 1) a = a by omega]
        omega
theorem edge_a {A X : List Pc} {S n : Int} {a' : Nat} (c : Chain 0 (A ++ X) n) (cA : Chain 0 A S) (ha' : a' ≤ (lnF (A ++ X)).length) (hS : S = pre (gapF (A ++ X) n) a' + pre (lnF (A ++ X)) a') : a' = (lnF A).length := by
  have hG := gapF_nonneg c
  have hL := lnF_nonneg c
  have hLp := lnF_pos c
  obtain ⟨mm, k1, k2⟩ := chain_pre c
  have emm := chain_end k1 cA
  subst emm
  have hlen : (lnF (A ++ X)).length = (lnF A).length + (lnF X).length := by rw [lnF_app, List.length_append]
  rcases Nat.lt_trichotomy a' (lnF A).length with h | h | h
  · exfalso
    obtain ⟨z, z1, z2, _⟩ := live_pos (ps := A ++ X) (n := n) (j := a') (by omega)
    rw [List.filter_append, List.getElem?_append_left (by rw [fil_len]; omega)] at z1
    have hz := c.mem z (List.mem_append.mpr (.inl (List.mem_filter.mp (List.mem_of_getElem? z1)).1))
    have hz2 := cA.mem z (List.mem_filter.mp (List.mem_of_getElem? z1)).1
    have := pre_mono hG (show a' ≤ a' + 1 by omega)
    omega
  · exact h
  · exfalso
    obtain ⟨j, rfl⟩ : ∃ j, a' = j + 1 := ⟨a' - 1, by omega⟩
    obtain ⟨z, z1, z2, z3⟩ := live_pos (ps := A ++ X) (n := n) (j := j) (by omega)
    rw [List.filter_append, List.getElem?_append_right (by rw [fil_len]; omega)] at z1
    have hz := k2.mem z (List.mem_filter.mp (List.mem_of_getElem? z1)).1
    have hp : pre (lnF (A ++ X)) (j + 1) = pre (lnF (A ++ X)) j + (lnF (A ++ X)).getD j 0 := rfl
    omega
theorem edge_b {A X : List Pc} {T n : Int} {b' : Nat} (c : Chain 0 (A ++ X) n) (cA : Chain 0 A T) (hb' : b' ≤ (lnF (A ++ X)).length) (hT : T = pre (gapF (A ++ X) n) (b' + 1) + pre (lnF (A ++ X)) b') : b' = (lnF A).length := by
  have hG := gapF_nonneg c
  have hL := lnF_nonneg c
  have hLp := lnF_pos c
  obtain ⟨mm, k1, k2⟩ := chain_pre c
  have emm := chain_end k1 cA
  subst emm
  have hlen : (lnF (A ++ X)).length = (lnF A).length + (lnF X).length := by rw [lnF_app, List.length_append]
  rcases Nat.lt_trichotomy b' (lnF A).length with h | h | h
  · exfalso
    obtain ⟨z, z1, z2, _⟩ := live_pos (ps := A ++ X) (n := n) (j := b') (by omega)
    rw [List.filter_append, List.getElem?_append_left (by rw [fil_len]; omega)] at z1
    have hz2 := cA.mem z (List.mem_filter.mp (List.mem_of_getElem? z1)).1
    omega
  · exact h
  · exfalso
    obtain ⟨j, rfl⟩ : ∃ j, b' = j + 1 := ⟨b' - 1, by omega⟩
    obtain ⟨z, z1, z2, z3⟩ := live_pos (ps := A ++ X) (n := n) (j := j) (by omega)
    rw [List.filter_append, List.getElem?_append_right (by rw [fil_len]; omega)] at z1
    have hz := k2.mem z (List.mem_filter.mp (List.mem_of_getElem? z1)).1
    have hp : pre (lnF (A ++ X)) (j + 1) = pre (lnF (A ++ X)) j + (lnF (A ++ X)).getD j 0 := rfl
    have := pre_mono hG (show j + 1 ≤ j + 1 + 1 by omega)
    omega
theorem pre_one (xs : List Int) (n : Nat) : pre xs (n + 1) = pre xs n + xs.getD n 0 := rfl
/-- all that the law asks of what is moved: told is A, the pieces of M from S on, the free rest, B -/
theorem told_moves {A M B : List Pc} {S T n g nd m : Int} (c1 : Chain 0 A S) (c2 : Chain S M T) (c3 : Chain T B n) (hnd : 1 ≤ nd) (hin : [m, S, T] ∈ plans nd (A ++ M ++ B) n)
    (hmin : ∀ x y z : Int, [x, y, z] ∈ plans nd (A ++ M ++ B) n → m ≤ x) (hq : Chain 0 (A ++ plc S M ++ [⟨g, T - g, false⟩] ++ B) n) :
    lnF (A ++ plc S M ++ [⟨g, T - g, false⟩] ++ B) = lnF (A ++ M ++ B) ∧ mvS (lnF (A ++ M ++ B)) (gapF (A ++ M ++ B) n) (gapF (A ++ plc S M ++ [⟨g, T - g, false⟩] ++ B) n) (lnF (A ++ M ++ B)).length = m ∧
      ∃ i, i < (gapF (A ++ plc S M ++ [⟨g, T - g, false⟩] ++ B) n).length ∧ nd ≤ (gapF (A ++ plc S M ++ [⟨g, T - g, false⟩] ++ B) n).getD i 0 := by
  have c : Chain 0 (A ++ M ++ B) n := (c1.app c2).app c3
  obtain ⟨a, b, ha, hb, em, eS, eT, hST, hfr⟩ := plan_at hin
  have ea : a = (lnF A).length := by
    have h1 : A ++ M ++ B = A ++ (M ++ B) := List.append_assoc _ _ _
    rw [h1] at c ha eS
    exact edge_a c c1 ha eS
  have eb : b = (lnF (A ++ M)).length := edge_b c (c1.app c2) hb eT
  obtain ⟨l1, l2⟩ := plc_ln M S
  have hln : lnF (A ++ plc S M ++ [⟨g, T - g, false⟩] ++ B) = lnF (A ++ M ++ B) := by
    rw [lnF_app, lnF_app, lnF_app, lnF_app, lnF_app, l1]
    have : lnF [(⟨g, T - g, false⟩ : Pc)] = [] := rfl
    rw [this, List.append_nil]
  have hG := gapF_nonneg c
  have hL := lnF_nonneg c
  have hLp := lnF_pos c
  have hab : a ≤ b := by rw [ea, eb, lnF_app, List.length_append]; omega
  have hbl : (lnF (A ++ M)).length = (lnF A).length + (lnF M).length := by rw [lnF_app, List.length_append]
  have hkl : (lnF (A ++ M ++ B)).length = (lnF A).length + (lnF M).length + (lnF B).length := by rw [lnF_app, List.length_append, hbl]
  -- the first gap moved over holds a cell
  have hga : a < b → pre (gapF (A ++ M ++ B) n) a < pre (gapF (A ++ M ++ B) n) (a + 1) := fun hlt => by
    rcases Int.lt_or_le (pre (gapF (A ++ M ++ B) n) a) (pre (gapF (A ++ M ++ B) n) (a + 1)) with h | h
    · exact h
    · exfalso
      have hm1 := pre_mono hG (show a ≤ a + 1 by omega)
      have hp := plan_in (ps := A ++ M ++ B) (n := n) (nd := nd) (a := a + 1) (b := b) hlt hb (by omega) hnd hL
      have := hmin _ _ _ hp
      have h1 := hLp a (by omega)
      have h2 := pre_one (lnF (A ++ M ++ B)) a
      omega
  -- where the live pieces of both lie
  have hf1 : (A ++ M ++ B).filter (·.v) = A.filter (·.v) ++ M.filter (·.v) ++ B.filter (·.v) := by rw [List.filter_append, List.filter_append]
  have hf2 : (A ++ plc S M ++ [(⟨g, T - g, false⟩ : Pc)] ++ B).filter (·.v) = A.filter (·.v) ++ plc S M ++ B.filter (·.v) := by
    rw [List.filter_append, List.filter_append, List.filter_append, l2]
    have : [(⟨g, T - g, false⟩ : Pc)].filter (·.v) = [] := rfl
    rw [this, List.append_nil]
  have fA := fil_len A
  have fM := fil_len M
  have fP : (plc S M).length = (lnF M).length := by rw [← l2, fil_len, l1]
  have key : ∀ j, j < (lnF (A ++ M ++ B)).length → (pre (gapF (A ++ M ++ B) n) (j + 1) = pre (gapF (A ++ plc S M ++ [⟨g, T - g, false⟩] ++ B) n) (j + 1) ↔ ¬ (a ≤ j ∧ j < b)) ∧
      (a ≤ j → j < b → pre (gapF (A ++ plc S M ++ [⟨g, T - g, false⟩] ++ B) n) (j + 1) = pre (gapF (A ++ M ++ B) n) a) := fun j hj => by
    obtain ⟨z, z1, z2, z3⟩ := live_pos (ps := A ++ M ++ B) (n := n) hj
    obtain ⟨y, y1, y2, y3⟩ := live_pos (ps := A ++ plc S M ++ [⟨g, T - g, false⟩] ++ B) (n := n) (j := j) (by rw [hln]; exact hj)
    rw [hln] at y2
    rw [hf1] at z1
    rw [hf2] at y1
    by_cases h1 : j < a
    · have e1 : z = y := by
        rw [List.append_assoc, List.getElem?_append_left (by omega)] at z1 y1
        exact Option.some.inj (z1.symm.trans y1)
      subst e1
      exact ⟨⟨fun _ => by omega, fun _ => by omega⟩, fun h => by omega⟩
    · by_cases h2 : j < b
      · rw [List.append_assoc, List.getElem?_append_right (by omega), List.getElem?_append_left (by omega)] at y1
        obtain ⟨w, w1, w2⟩ := plc_get M S (j - (A.filter (·.v)).length) (by omega)
        have ew : y = w := Option.some.inj (y1.symm.trans w1)
        subst ew
        have hpj : pre (lnF (A ++ M ++ B)) j = pre (lnF (A ++ M ++ B)) a + pre (lnF M) (j - a) := by
          have e1 : lnF (A ++ M ++ B) = lnF A ++ (lnF M ++ lnF B) := by rw [lnF_app, lnF_app, List.append_assoc]
          have p1 := pre_two (lnF A) (lnF M ++ lnF B) (j - a)
          have p2 : pre (lnF M ++ lnF B) (j - a) = pre (lnF M) (j - a) := pre_fst (by omega)
          have p3 : pre (lnF A ++ (lnF M ++ lnF B)) (lnF A).length = pre (lnF A) (lnF A).length := pre_fst (Nat.le_refl _)
          rw [e1]
          rw [show (lnF A).length + (j - a) = j by omega, p2] at p1
          rw [p1, ← p3, ← ea]
        rw [fA, ← ea] at w2
        have e0 : pre (gapF (A ++ plc S M ++ [⟨g, T - g, false⟩] ++ B) n) (j + 1) = pre (gapF (A ++ M ++ B) n) a := by omega
        have hm1 := pre_mono hG (show a + 1 ≤ j + 1 by omega)
        have := hga (by omega)
        exact ⟨⟨fun h => by omega, fun h => by omega⟩, fun _ _ => e0⟩
      · have e1 : z = y := by
          rw [List.getElem?_append_right (by rw [List.length_append]; omega)] at z1 y1
          rw [List.length_append] at z1 y1
          rw [show (A.filter (·.v)).length + (plc S M).length = (A.filter (·.v)).length + (M.filter (·.v)).length by omega] at y1
          exact Option.some.inj (z1.symm.trans y1)
        subst e1
        exact ⟨⟨fun _ => by omega, fun _ => by omega⟩, fun _ h => by omega⟩
  refine ⟨hln, ?_, b, by rw [gapF_len, hln]; omega, ?_⟩
  · rw [mvS_range hab _ fun j hj => (key j hj).1, show min (lnF (A ++ M ++ B)).length b = b by omega, show min (lnF (A ++ M ++ B)).length a = a by omega]
    exact em.symm
  · have e1 : pre (gapF (A ++ plc S M ++ [⟨g, T - g, false⟩] ++ B) n) (b + 1) = pre (gapF (A ++ M ++ B) n) (b + 1) := by
      by_cases hbk : b < (lnF (A ++ M ++ B)).length
      · exact ((key b hbk).1.mpr (by omega)).symm
      · have hbe : b = (lnF (A ++ M ++ B)).length := by omega
        have h1 := gapF_all (A ++ M ++ B) n
        have h2 := gapF_all (A ++ plc S M ++ [⟨g, T - g, false⟩] ++ B) n
        rw [hln] at h2
        rw [hbe, h1, h2]
    have e2 : pre (gapF (A ++ plc S M ++ [⟨g, T - g, false⟩] ++ B) n) b = pre (gapF (A ++ M ++ B) n) a := by
      by_cases hlt : a < b
      · obtain ⟨d, rfl⟩ : ∃ d, b = d + 1 := ⟨b - 1, by omega⟩
        exact (key d (by omega)).2 (by omega) (by omega)
      · have hbe : b = a := by omega
        rw [hbe]
        cases a with
        | zero => rfl
        | succ d => exact ((key d (by omega)).1.mpr (by omega)).symm
    have h3 := pre_one (gapF (A ++ plc S M ++ [⟨g, T - g, false⟩] ++ B) n) b
    omega
/-- no other moving moves fewer -/
theorem no_fewer {ps : List Pc} {n nd m : Int} {O : List Int} {h : Nat} (c : Chain 0 ps n) (hnd : 1 ≤ nd) (hmin : ∀ x y z : Int, [x, y, z] ∈ plans nd ps n → m ≤ x) (hO : ∀ i, 0 ≤ O.getD i 0) (hs : pre O ((lnF ps).length + 1) = pre (gapF ps n) ((lnF ps).length + 1)) (hh : h ≤ (lnF ps).length) (hn : nd ≤ O.getD h 0) :
    m ≤ mvS (lnF ps) (gapF ps n) O (lnF ps).length := by
  obtain ⟨a, b, h1, h2, h3, h4⟩ := some_plan (L := lnF ps) (G := gapF ps n) (O := O) (k := (lnF ps).length) (h := h) (nd := nd) (lnF_nonneg c) hO hs.symm hh hn
  have := hmin _ _ _ (plan_in h1 h2 h3 hnd (lnF_nonneg c))
  omega
theorem plan_ex {ps : List Pc} {n nd : Int} (c : Chain 0 ps n) (hnd : 1 ≤ nd) (h : nd ≤ pre (gapF ps n) ((lnF ps).length + 1)) : 0 < (plans nd ps n).length := by
  have := plan_in (ps := ps) (n := n) (nd := nd) (a := 0) (b := (lnF ps).length) (Nat.zero_le _) (Nat.le_refl _) (by show nd ≤ _ - (0 : Int); omega) hnd (lnF_nonneg c)
  exact List.length_pos_of_mem this
/-- max(a list of whole numbers): none of them is above it -/
theorem call_maxI {X : Cx} (hc : X.calm = true) : CallR X (.builtin "max") (fun vs H Q => ∃ p, ∃ ns : List Int, vs = [.ref p] ∧ H p = some (.lst (ns.map V.int)) ∧ 0 < ns.length ∧ ∀ m : Int, (∀ i, i < ns.length → ns.getD i 0 ≤ m) → Q (.int m) H) := by
  intro pins s σ H vs us' Q I r h
  obtain ⟨p, ns, rfl, hp, hn, q⟩ := h
  obtain ⟨u, rfl, rx⟩ : ∃ u, us' = [u] ∧ RelV (.ref p) u := by
    cases r with
    | cons a b => cases b; exact ⟨_, rfl, a⟩
  cases rx
  obtain ⟨its, r1, p1, _⟩ := I.list (SqL.of hp)
  have l1 := r1.length
  rw [List.length_map] at l1
  have lt : p < s.heap.objs.size := by obtain ⟨_, e, _⟩ := p1.isList; exact Heap.lt_size e
  have hval : ∀ (i : Nat) (v : Value), its.toArray[i]? = some v → ∃ t, v = .int (ns.getD i 0) t := fun i v hv => by
    rw [List.getElem?_toArray] at hv
    have hi : i < ns.length := by have := (List.getElem?_eq_some_iff.mp hv).1; omega
    obtain ⟨u1, e1, q1⟩ := r1.get (i := i) (x := V.int (ns[i])) (by simp [hi])
    have ev : v = u1 := Option.some.inj (hv.symm.trans e1)
    subst ev
    have ex : ns.getD i 0 = ns[i] := by simp [hi]
    rw [ex]
    obtain ⟨tk, e2⟩ := q1
    exact ⟨tk, e2⟩
  refine call_max_walk (wpAny_pyIter_list p1.isList ?_)
  refine ⟨s.heap.objs.size, [s.heap.objs.size, p], [s.heap.objs.size], its.toArray.size, fun i v => its.toArray[i]? = some v, _, _, rfl, Walks.list (A := X.A.in1) (I.ok.hd hc) _ p (Nat.ne_of_lt lt) its.toArray,
    ⟨⟨_, Heap.get?_push_size _ rfl, rfl, rfl⟩, p1.isList.push _⟩, ?_, by rw [List.size_toArray]; omega, CmpOf.ints_gt (fun i => ns.getD i 0) hval, ?_⟩
  · intro b hb
    show b < (s.heap.push _).objs.size
    rw [Heap.size_push]
    rcases List.mem_cons.mp hb with z | z
    · rw [z]; exact Nat.lt_succ_self _
    · have : b = p := by simpa using z
      rw [this]; exact Nat.lt_succ_of_lt lt
  · intro v h' tk pv kk
    obtain ⟨t, rfl⟩ := hval _ v pv
    obtain ⟨b1, b2⟩ := argBest_gt (fun i => ns.getD i 0) (its.toArray.size - 1)
    refine ⟨.int _, H, ?_, ⟨t, rfl⟩, q _ fun i hi => b2 i (by rw [List.size_toArray]; omega)⟩
    refine I.kept (t' := tk) fun b o e => kk b o (fun z => ?_) (Heap.get?_push_of_some _ e)
    have := Heap.lt_size e
    have z' : b = s.heap.objs.size := by simpa using z
    rw [z'] at this
    exact Nat.lt_irrefl _ this
theorem bestOf_least {xs : List (List Int)} {y : List Int} (h3 : ∀ x ∈ xs, x.length = 3) (h : bestOf xs = some y) {x : List Int} (hx : x ∈ xs) : y.getD 0 0 ≤ x.getD 0 0 := by
  have h0 : 0 < xs.length := List.length_pos_of_mem hx
  rw [bestOf_all h0] at h
  have h := Option.some.inj h
  obtain ⟨k, hk, rfl⟩ := List.mem_iff_getElem.mp hx
  have := minAt_first (xs := xs) (fun k hk => by
    have ex : xs.getD k [] = xs[k] := by simp [hk]
    rw [ex]
    have h1 := h3 _ (List.getElem_mem hk)
    generalize xs[k] = w at h1
    match w, h1 with
    | [a, b, c], _ => exact ⟨a, b, c, rfl⟩) (xs.length - 1) (by omega) k (by omega)
  have ex : xs.getD k [] = xs[k] := by simp [hk]
  rw [h, ex] at this
  exact this
theorem sumI_pre (xs : List Int) : sumI xs = pre xs xs.length := by
  have key : ∀ n, n ≤ xs.length → sumI (xs.take n) = pre xs n := by
    intro n
    induction n with
    | zero => intro _; rfl
    | succ n ih =>
      intro hn
      have e : xs.take (n + 1) = xs.take n ++ [xs[n]] := by rw [List.take_add_one, List.getElem?_eq_getElem (by omega)]; rfl
      have ex : xs.getD n 0 = xs[n] := by simp [show n < xs.length by omega]
      show _ = pre xs n + xs.getD n 0
      rw [← ih (by omega), e, ex]
      unfold sumI
      rw [List.foldl_append]
      rfl
  have := key xs.length (Nat.le_refl _)
  rwa [List.take_of_length_le (Nat.le_refl _)] at this
end Stow

local macro_rules
  | `(tactic| walk_at "set") => `(tactic| first
    | exact Stow.set0_c
    | exact Stow.set0_1
    | exact Stow.set0_0
    | ((refine Stow.setS_c (r := ?r) ?h); (case h => walk_at "set"))
    | ((refine Stow.setS_1 (r := ?r) ?h); (case h => walk_at "set"))
    | ((refine Stow.setS_0 (r := ?r) ?h); (case h => walk_at "set")))
local macro_rules
  | `(tactic| walk_at "look") => `(tactic| first
    | with_reducible assumption
    | exact L2.upd_same
    | ((with_reducible refine Stow.look_ne ?a ?b); (case a => (first | assumption | exact Ne.symm (by assumption))); (case b => walk_at "look"))
    | ((with_reducible refine Stow.look_put ?a ?b); (case a => (first | assumption | walk_at "look")); (case b => walk_at "look"))
    | ((with_reducible refine Stow.look_tup (ys := ?ys) ?a ?b); (case a => walk_at "look"); (case b => walk_at "look"))
    | assumption)
local macro_rules
  | `(tactic| walk_at "seq") => `(tactic| first
    | with_reducible assumption
    | exact L2.SqL.of (by walk_at "look")
    | ((with_reducible refine Stow.seq_put ?a ?b); (case a => assumption); (case b => walk_at "seq"))
    | assumption)
local macro_rules
  | `(tactic| walk_at "num") => `(tactic| first | assumption | omega | (simp only [List.length_map, List.length_set, List.length_append, List.length_cons, List.length_nil] <;> omega))
local macro_rules
  | `(tactic| walk_at "size") => `(tactic| first | exact Stow.small4000 (by first | omega | (simp only [List.length_map, List.length_set, List.length_append, List.length_cons, List.length_nil] <;> omega)))
local macro_rules
  | `(tactic| walk_at "side") => `(tactic| first
    | (show (0 : Int) < _; first | decide | omega)
    | (show (0 : Int) ≤ _; first | decide | omega)
    | exact Or.inr ⟨by decide, by decide⟩
    | exact Or.inl ⟨by decide, by decide⟩
    | exact ⟨by decide, by decide⟩
    | exact ⟨by decide, by decide, by decide⟩
    | exact ⟨by decide, by decide, by assumption⟩
    | exact ⟨by decide, by decide, by omega⟩
    | exact ⟨by omega, by omega, by decide⟩
    | exact Or.inr ⟨by omega, by omega⟩
    | exact Or.inl ⟨by omega, by omega⟩
    | exact ⟨by omega, by omega⟩)
local macro_rules
  | `(tactic| walk_at "ty") => `(tactic| first | exact L2.TyOf.int _ | exact L2.TyOf.bl _ | exact L2.TyOf.non | ((refine L2.TyOf.lst (xs := ?xs) ?h); (case h => walk_at "look")) | ((refine L2.TyOf.tup (xs := ?xs) ?h); (case h => walk_at "look")) | exact L2.TyOf.str _)
local macro_rules
  | `(tactic| walk_at "kit") => `(tactic| first | exact Stow.kit_ii | exact Stow.kit_ib | exact Stow.kit_bb | exact Stow.kit_ll | exact Stow.kit_tt)
local macro_rules
  | `(tactic| walk_at "sp") => `(tactic| fail "no promise")
local macro_rules
  | `(tactic| walk_at "st") => `(tactic| first
    | ((with_reducible refine Stow.r_var (v := ?v) ?e ?_); (case e => exact rfl))
    | (with_reducible refine Stow.r_seq ?_)
    | (with_reducible refine Stow.r_nx ?_)
    | (with_reducible refine Stow.r_asg ?_)
    | ((with_reducible refine Stow.r_gnameN (σ' := ?s) ?e ?_); (case e => with_reducible (walk_at "set")))
    | (with_reducible refine Stow.r_gname ?_)
    | (with_reducible refine Stow.r_op ?_)
    | (with_reducible refine Stow.r_cons ?_)
    | (with_reducible refine Stow.r_nil ?_)
    | (with_reducible refine Stow.r_c ?_)
    | (with_reducible refine Stow.r_rI0 ?_)
    | (with_reducible refine Stow.r_call ?_)
    | (with_reducible refine Stow.r_cb ?_)
    | (with_reducible refine Stow.r_test ?_)
    | (with_reducible refine Stow.r_tB ?_)
    | (with_reducible refine Stow.r_bl ?_)
    | (with_reducible refine Stow.r_ifS ?_)
    | (with_reducible refine Stow.r_ret ?_)
    | (with_reducible refine Stow.r_rt ?_)
    | (with_reducible refine Stow.r_drop ?_)
    | (with_reducible refine Stow.r_next ?_)
    | (with_reducible refine Stow.r_not ?_)
    | (with_reducible refine Stow.r_and ?_)
    | (with_reducible refine Stow.r_or ?_)
    | (with_reducible refine Stow.r_andV ?_)
    | (with_reducible refine Stow.r_orV ?_)
    | (with_reducible refine Stow.r_notV ?_)
    | (with_reducible refine Stow.r_ifE ?_)
    | (with_reducible refine Stow.r_ifN ?_)
    | (with_reducible refine Stow.r_eqI ?_)
    | (with_reducible refine Stow.r_neI ?_)
    | (with_reducible refine Stow.r_isN ?_)
    | (with_reducible refine Stow.r_int ?_)
    | (with_reducible refine Stow.r_eqB ?_)
    | (with_reducible refine Stow.r_neB ?_)
    | (with_reducible refine Stow.r_tup ?_)
    | (with_reducible refine Stow.r_lst ?_)
    | (with_reducible refine Stow.r_bm ?_)
    | (with_reducible refine Stow.r_bm0 ?_)
    | (with_reducible refine Stow.r_sl ?_)
    | (with_reducible refine Stow.r_part ?_)
    | (with_reducible refine Stow.r_nopart ?_)
    | (with_reducible refine Stow.r_un ?_)
    | (with_reducible refine Stow.r_rU ?_)
    | (with_reducible refine Stow.r_intB ?_)
    | (with_reducible refine Stow.r_intI ?_)
    | (with_reducible refine Stow.r_truB ?_)
    | (with_reducible refine Stow.r_gsub ?_)
    | (with_reducible refine Stow.r_retN ?_)
    | (with_reducible refine Stow.r_ct ?_)
    | (with_reducible refine Stow.r_bk ?_)
    | (with_reducible refine Stow.r_break ?_)
    | (with_reducible refine Stow.r_cont ?_)
    | (with_reducible refine L2.iteT ?_)
    | (with_reducible refine L2.iteF ?_)
    | ((with_reducible refine Stow.r_rI ?c ?_); (case c => walk_at "side"))
    | ((with_reducible refine Stow.r_tyL (xs := ?xs) ?h ?_); (case h => walk_at "look"))
    | ((with_reducible refine Stow.r_appendI (ns := ?ns) ?h ?z ?_); (case h => walk_at "look"); (case z => walk_at "size"))
    | ((with_reducible refine Stow.r_append (xs := ?xs) ?h ?z ?_); (case h => walk_at "look"); (case z => walk_at "size"))
    | ((with_reducible refine Stow.r_gtup (xs := ?xs) ?h ?l ?_); (case h => walk_at "look"); (case l => exact rfl))
    | (with_reducible refine Stow.r_gcons ?_)
    | (with_reducible refine Stow.r_gnil ?_)
    | ((with_reducible refine Stow.r_ixI (ns := ?ns) ?h ?a ?b ?_); (case h => walk_at "seq"); (case a => walk_at "num"); (case b => walk_at "num"))
    | ((with_reducible refine Stow.r_ixT (xs := ?xs) (v := ?v) ?h ?e ?_); (case h => walk_at "look"); (case e => exact rfl))
    | ((with_reducible refine Stow.r_setI (ns := ?ns) ?h ?a ?b ?_); (case h => walk_at "look"); (case a => walk_at "num"); (case b => walk_at "num"))
    | ((with_reducible refine Stow.r_sllG (ns := ?ns) ?h ?_); (case h => walk_at "seq"))
    | ((with_reducible refine Stow.r_sll (xs := ?xs) ?h ?_); (case h => walk_at "seq"))
    | ((with_reducible refine Stow.r_lenI (ns := ?ns) ?h ?_); (case h => walk_at "seq"); (try rw [List.length_map]))
    | ((with_reducible refine Stow.r_lenL (xs := ?xs) ?h ?_); (case h => walk_at "look"))
    | ((with_reducible refine Stow.r_lenT (xs := ?xs) ?h ?_); (case h => walk_at "look"))
    | ((with_reducible refine Stow.r_listI (xs := ?xs) ?h ?_); (case h => walk_at "seq"))
    | ((with_reducible refine Stow.r_isi (t := ?t) (b := ?b) ?y ?e ?_); (case y => walk_at "ty"); (case e => walk_at "kit"))
    | ((with_reducible refine Stow.r_new ?h ?_); (case h => (first | exact Nat.zero_le _ | simp)))
    | ((with_reducible refine Stow.r_truL (xs := ?xs) ?h ?_); (case h => walk_at "seq"))
    | ((with_reducible refine Stow.r_ifdT ?c ?_); (case c => (first | omega | exact rfl)))
    | ((with_reducible refine Stow.r_ifdF ?c ?_); (case c => (first | omega | (intro h; cases h; done))))
    | (with_reducible refine Stow.r_raise ?_)
    | (with_reducible refine Stow.r_raiseI ?_)
    | (with_reducible refine Stow.r_tryAs ?_)
    | (with_reducible refine Stow.r_try ?_)
    | (with_reducible refine Stow.r_fldX ?_)
    | (with_reducible refine Stow.r_for ?_)
    | (with_reducible refine Stow.r_iL ?_)
    | (with_reducible refine Stow.r_iR1 ?_)
    | (with_reducible refine Stow.r_iR2 ?_)
    | (with_reducible refine Stow.r_comp ?_)
    | ((with_reducible refine Stow.r_isiX (C := ?C) (od := ?od) (b := ?b) ?h ?z ?e ?_); (case h => walk_at "look"); (case z => assumption); (case e => assumption))
    | ((with_reducible refine Stow.r_isiN (C := ?C) (od := ?od) (b := ?b) ?h ?z ?n ?e ?_); (case h => walk_at "look"); (case z => assumption); (case n => exact fun z => nomatch z); (case e => assumption))
    | (with_reducible refine Stow.r_makeX ?_)
    | (with_reducible refine Stow.r_makeI ?_)
    | (with_reducible refine Stow.r_fldN ?_)
    | ((with_reducible refine Stow.r_catG (xs := ?xs) (zs := ?zs) ?h ?g ?z ?_); (case h => walk_at "look"); (case g => walk_at "look"); (case z => walk_at "num"))
    | ((with_reducible refine Stow.r_cat (xs := ?xs) (zs := ?zs) ?h ?g ?z ?_); (case h => walk_at "look"); (case g => walk_at "look"); (case z => (refine Nat.le_of_lt (L2.small1000 ?_); first | omega | simp)))
    | ((with_reducible refine Stow.r_slS ?h ?_); (case h => decide))
    | (with_reducible refine Stow.r_max ?_)
    | (with_reducible refine Stow.r_fld ?_)
    | ((with_reducible refine Stow.r_at (C := ?C) (dx := ?dx) (fs := ?fs) (v := ?v) ?h ?c ?n ?l ?_); (case h => walk_at "look"); (case c => assumption); (case n => assumption); (case l => exact rfl))
    | (with_reducible refine Stow.r_sfld ?_)
    | ((with_reducible refine Stow.r_sat (C := ?C) (dx := ?dx) (fs := ?fs) ?h ?c ?n ?l ?_); (case h => walk_at "look"); (case c => assumption); (case n => assumption); (case l => (first | decide | simp)))
    | (with_reducible refine Stow.r_meth ?_)
    | ((with_reducible refine Stow.r_mat (dx := ?dx) (fs := ?fs) ?h ?l ?_); (case h => walk_at "look"); (case l => exact rfl))
    | (with_reducible refine Stow.r_make ?_)
    | (with_reducible refine Stow.r_compG ?_)
    | ((with_reducible refine Stow.r_isiO (C := ?C) (dx := ?dx) (fs := ?fs) (b := ?b) ?h ?z ?e ?_); (case h => walk_at "look"); (case z => assumption); (case e => assumption))
    | (with_reducible refine Stow.r_tryE ?_)
    | (with_reducible refine Stow.r_tryA ?_)
    | (with_reducible refine Stow.r_xCall ?_)
    | (with_reducible refine Stow.r_tryS ?_)
    | (with_reducible refine Stow.r_xSet ?_)
    | (with_reducible refine Stow.r_xIf ?_)
    | (with_reducible refine Stow.r_xMeth ?_)
    | (with_reducible refine Stow.r_xMethD ?_)
    | (with_reducible refine Stow.r_xMake ?_)
    | (with_reducible refine Stow.r_methD ?_)
    | (with_reducible refine Stow.r_isB ?_)
    | ((with_reducible refine Stow.r_notIn (xs := ?xs) ?h ?f ?g ?_); (case h => walk_at "look"); (case f => exact rfl); (case g => exact rfl))
    | walk_at "sp")
local macro_rules
  | `(tactic| walk_at "go") => `(tactic| repeat walk_at "st")
local macro_rules
  | `(tactic| walk_at "len") => `(tactic| first
    | (rintro ⟨e, _⟩; exact congrArg List.length e)
    | (rintro ⟨_, e, _⟩; exact congrArg List.length e)
    | (rintro ⟨_, _, e, _⟩; exact congrArg List.length e)
    | (rintro ⟨_, _, _, e, _⟩; exact congrArg List.length e)
    | (rintro ⟨_, _, _, _, e, _⟩; exact congrArg List.length e)
    | (rintro ⟨_, _, _, _, _, e, _⟩; exact congrArg List.length e)
    | (rintro ⟨_, _, _, _, _, _, e, _⟩; exact congrArg List.length e)
    | (rintro ⟨_, _, _, _, _, _, _, e, _⟩; exact congrArg List.length e)
    | (rintro ⟨_, _, _, _, _, _, _, _, e, _⟩; exact congrArg List.length e)
    | (rintro ⟨_, _, _, _, _, _, _, _, _, e, _⟩; exact congrArg List.length e)
    | (rintro ⟨_, _, _, _, _, _, _, _, _, _, e, _⟩; exact congrArg List.length e)
    | (rintro ⟨_, _, _, _, _, _, _, _, _, _, _, e, _⟩; exact congrArg List.length e)
    | (rintro ⟨_, _, _, _, _, _, _, _, _, _, _, _, e, _⟩; exact congrArg List.length e)
    | (rintro ⟨_, _, _, _, _, _, _, _, _, _, _, _, _, e, _⟩; exact congrArg List.length e)
    | (rintro ⟨_, _, _, _, _, _, _, _, _, _, _, _, _, _, e, _⟩; exact congrArg List.length e)
    | (rintro ⟨_, _, _, _, _, _, _, _, _, _, _, _, _, _, _, e, _⟩; exact congrArg List.length e)
    | (rintro ⟨_, _, _, _, _, _, _, _, _, _, _, _, _, _, _, _, e, _⟩; exact congrArg List.length e)
    | (rintro ⟨_, _, _, _, _, _, _, _, _, _, _, _, _, _, _, _, _, e, _⟩; exact congrArg List.length e))
local macro_rules
  | `(tactic| walk_at "gs") => `(tactic| repeat (first | (with_reducible refine Stow.r_nx ?_) | ((fail_if_success (with_reducible refine Stow.r_isIf ?_)); walk_at "st")))
local macro_rules
  | `(tactic| walk_at "ga") => `(tactic| repeat ((fail_if_success (with_reducible refine Stow.r_isAnd ?_)); (fail_if_success (with_reducible refine Stow.r_isOr ?_)); walk_at "st"))
local macro_rules
  | `(tactic| walk_at "ge") => `(tactic| repeat (first | (with_reducible refine Stow.r_nx ?_) | ((fail_if_success (with_reducible refine Stow.r_isSeq ?_)); walk_at "st")))
local macro_rules
  | `(tactic| walk_at "g1") => `(tactic| ((with_reducible refine Stow.r_seq ?_); walk_at "ge"))

local macro_rules
  | `(tactic| walk_at "sp") => `(tactic| first
    | (with_reducible refine Stow.i_long ?_)
    | (with_reducible refine Stow.i_live ?_)
    | (with_reducible refine Stow.i_whole ?_)
    | ((with_reducible refine Stow.i_cell (ns := ?ns) ?h ?a ?_); (case h => walk_at "seq"); (case a => walk_at "nn"))
    | ((with_reducible refine Stow.i_can (ns := ?ns) ?h ?a ?b ?_); (case h => walk_at "seq"); (case a => walk_at "num"); (case b => walk_at "num"))
    | ((with_reducible refine Stow.i_bad (ns := ?ns) ?h ?a ?b ?_); (case h => walk_at "seq"); (case a => walk_at "num"); (case b => walk_at "num")))
local macro_rules
  | `(tactic| walk_at "nn") => `(tactic| first | decide | omega | exact Int.emod_nonneg _ (by decide) | exact Int.emod_nonneg _ (by omega))

namespace Stow
open PySem L2 PyProof.Rows
def top (i : Nat) : Stmt := PySem.Challenge.pw_stow_k42_whole_no_moving_moves_fewer.main.body.getD i (.Pass ⟨0, 0, 0, 0⟩)
abbrev s_mark_of : Stmt := top 6
theorem sc_mark_of : FnScope ["long", "live"] ["long", "live"] (defScope s_mark_of) := ⟨rfl, rfl, rfl, by decide +kernel, rfl, by decide +kernel, by decide +kernel⟩
theorem bi_mark_of (kV doc pm : Value) (an : Option Addr) (cdv ct : Value) (us : List Value) (hl : us.length = ["long", "live"].length) : bindArgs (PySem.W.fnOf "mark_of" "mark_of" (defArgs s_mark_of) (defBody s_mark_of) (defScope s_mark_of) .none kV doc pm an cdv ct) ⟨us, []⟩ = pure ((["long", "live"] : List Str).zip us) := match us, hl with | [_, _], _ => rfl
abbrev s_long_of : Stmt := top 7
theorem sc_long_of : FnScope ["number"] ["number"] (defScope s_long_of) := ⟨rfl, rfl, rfl, by decide +kernel, rfl, by decide +kernel, by decide +kernel⟩
theorem bi_long_of (kV doc pm : Value) (an : Option Addr) (cdv ct : Value) (us : List Value) (hl : us.length = ["number"].length) : bindArgs (PySem.W.fnOf "long_of" "long_of" (defArgs s_long_of) (defBody s_long_of) (defScope s_long_of) .none kV doc pm an cdv ct) ⟨us, []⟩ = pure ((["number"] : List Str).zip us) := match us, hl with | [_], _ => rfl
abbrev s_live_of : Stmt := top 8
theorem sc_live_of : FnScope ["number"] ["number"] (defScope s_live_of) := ⟨rfl, rfl, rfl, by decide +kernel, rfl, by decide +kernel, by decide +kernel⟩
theorem bi_live_of (kV doc pm : Value) (an : Option Addr) (cdv ct : Value) (us : List Value) (hl : us.length = ["number"].length) : bindArgs (PySem.W.fnOf "live_of" "live_of" (defArgs s_live_of) (defBody s_live_of) (defScope s_live_of) .none kV doc pm an cdv ct) ⟨us, []⟩ = pure ((["number"] : List Str).zip us) := match us, hl with | [_], _ => rfl
abbrev s_can_begin : Stmt := top 11
theorem sc_can_begin : FnScope ["cells", "at", "long"] ["cells", "at"] (defScope s_can_begin) := ⟨rfl, rfl, rfl, by decide +kernel, rfl, by decide +kernel, by decide +kernel⟩
theorem bi_can_begin (kV doc pm : Value) (an : Option Addr) (cdv ct : Value) (us : List Value) (hl : us.length = ["cells", "at"].length) : bindArgs (PySem.W.fnOf "can_begin" "can_begin" (defArgs s_can_begin) (defBody s_can_begin) (defScope s_can_begin) .none kV doc pm an cdv ct) ⟨us, []⟩ = pure ((["cells", "at"] : List Str).zip us) := match us, hl with | [_, _], _ => rfl
abbrev s_bad_of_piece : Stmt := top 12
theorem sc_bad_of_piece : FnScope ["cells", "at", "last"] ["cells", "at"] (defScope s_bad_of_piece) := ⟨rfl, rfl, rfl, by decide +kernel, rfl, by decide +kernel, by decide +kernel⟩
theorem bi_bad_of_piece (kV doc pm : Value) (an : Option Addr) (cdv ct : Value) (us : List Value) (hl : us.length = ["cells", "at"].length) : bindArgs (PySem.W.fnOf "bad_of_piece" "bad_of_piece" (defArgs s_bad_of_piece) (defBody s_bad_of_piece) (defScope s_bad_of_piece) .none kV doc pm an cdv ct) ⟨us, []⟩ = pure ((["cells", "at"] : List Str).zip us) := match us, hl with | [_, _], _ => rfl
abbrev s_looked : Stmt := top 13
theorem sc_looked : FnScope ["cells", "pieces", "at", "bad", "long"] ["cells"] (defScope s_looked) := ⟨rfl, rfl, rfl, by decide +kernel, rfl, by decide +kernel, by decide +kernel⟩
theorem bi_looked (kV doc pm : Value) (an : Option Addr) (cdv ct : Value) (us : List Value) (hl : us.length = ["cells"].length) : bindArgs (PySem.W.fnOf "looked" "looked" (defArgs s_looked) (defBody s_looked) (defScope s_looked) .none kV doc pm an cdv ct) ⟨us, []⟩ = pure ((["cells"] : List Str).zip us) := match us, hl with | [_], _ => rfl
abbrev s_laid : Stmt := top 15
theorem sc_laid : FnScope ["cells", "at", "long", "live", "row"] ["cells", "at", "long", "live"] (defScope s_laid) := ⟨rfl, rfl, rfl, by decide +kernel, rfl, by decide +kernel, by decide +kernel⟩
theorem bi_laid (kV doc pm : Value) (an : Option Addr) (cdv ct : Value) (us : List Value) (hl : us.length = ["cells", "at", "long", "live"].length) : bindArgs (PySem.W.fnOf "laid" "laid" (defArgs s_laid) (defBody s_laid) (defScope s_laid) .none kV doc pm an cdv ct) ⟨us, []⟩ = pure ((["cells", "at", "long", "live"] : List Str).zip us) := match us, hl with | [_, _, _, _], _ => rfl
abbrev s_carried : Stmt := top 16
theorem sc_carried : FnScope ["cells", "source", "goal", "count", "row"] ["cells", "source", "goal", "count"] (defScope s_carried) := ⟨rfl, rfl, rfl, by decide +kernel, rfl, by decide +kernel, by decide +kernel⟩
theorem bi_carried (kV doc pm : Value) (an : Option Addr) (cdv ct : Value) (us : List Value) (hl : us.length = ["cells", "source", "goal", "count"].length) : bindArgs (PySem.W.fnOf "carried" "carried" (defArgs s_carried) (defBody s_carried) (defScope s_carried) .none kV doc pm an cdv ct) ⟨us, []⟩ = pure ((["cells", "source", "goal", "count"] : List Str).zip us) := match us, hl with | [_, _, _, _], _ => rfl
abbrev s_starts_of : Stmt := top 18
theorem sc_starts_of : FnScope ["pieces", "starts", "at", "long", "live"] ["pieces"] (defScope s_starts_of) := ⟨rfl, rfl, rfl, by decide +kernel, rfl, by decide +kernel, by decide +kernel⟩
theorem bi_starts_of (kV doc pm : Value) (an : Option Addr) (cdv ct : Value) (us : List Value) (hl : us.length = ["pieces"].length) : bindArgs (PySem.W.fnOf "starts_of" "starts_of" (defArgs s_starts_of) (defBody s_starts_of) (defScope s_starts_of) .none kV doc pm an cdv ct) ⟨us, []⟩ = pure ((["pieces"] : List Str).zip us) := match us, hl with | [_], _ => rfl
abbrev s_stops_of : Stmt := top 19
theorem sc_stops_of : FnScope ["pieces", "count", "stops", "ahead", "at", "long", "live"] ["pieces", "count"] (defScope s_stops_of) := ⟨rfl, rfl, rfl, by decide +kernel, rfl, by decide +kernel, by decide +kernel⟩
theorem bi_stops_of (kV doc pm : Value) (an : Option Addr) (cdv ct : Value) (us : List Value) (hl : us.length = ["pieces", "count"].length) : bindArgs (PySem.W.fnOf "stops_of" "stops_of" (defArgs s_stops_of) (defBody s_stops_of) (defScope s_stops_of) .none kV doc pm an cdv ct) ⟨us, []⟩ = pure ((["pieces", "count"] : List Str).zip us) := match us, hl with | [_, _], _ => rfl
abbrev s_best_plan : Stmt := top 20
theorem sc_best_plan : FnScope ["cells", "need", "pieces", "stops", "plans", "start", "ahead", "stop", "ahead_of_stop", "moved"] ["cells", "need"] (defScope s_best_plan) := ⟨rfl, rfl, rfl, by decide +kernel, rfl, by decide +kernel, by decide +kernel⟩
theorem bi_best_plan (kV doc pm : Value) (an : Option Addr) (cdv ct : Value) (us : List Value) (hl : us.length = ["cells", "need"].length) : bindArgs (PySem.W.fnOf "best_plan" "best_plan" (defArgs s_best_plan) (defBody s_best_plan) (defScope s_best_plan) .none kV doc pm an cdv ct) ⟨us, []⟩ = pure ((["cells", "need"] : List Str).zip us) := match us, hl with | [_, _], _ => rfl
abbrev s_moved_down : Stmt := top 21
theorem sc_moved_down : FnScope ["cells", "start", "stop", "row", "goal", "at", "long", "live"] ["cells", "start", "stop"] (defScope s_moved_down) := ⟨rfl, rfl, rfl, by decide +kernel, rfl, by decide +kernel, by decide +kernel⟩
theorem bi_moved_down (kV doc pm : Value) (an : Option Addr) (cdv ct : Value) (us : List Value) (hl : us.length = ["cells", "start", "stop"].length) : bindArgs (PySem.W.fnOf "moved_down" "moved_down" (defArgs s_moved_down) (defBody s_moved_down) (defScope s_moved_down) .none kV doc pm an cdv ct) ⟨us, []⟩ = pure ((["cells", "start", "stop"] : List Str).zip us) := match us, hl with | [_, _, _], _ => rfl
abbrev s_gathered : Stmt := top 22
theorem sc_gathered : FnScope ["cells", "need", "plan", "moved", "start", "stop"] ["cells", "need"] (defScope s_gathered) := ⟨rfl, rfl, rfl, by decide +kernel, rfl, by decide +kernel, by decide +kernel⟩
theorem bi_gathered (kV doc pm : Value) (an : Option Addr) (cdv ct : Value) (us : List Value) (hl : us.length = ["cells", "need"].length) : bindArgs (PySem.W.fnOf "gathered" "gathered" (defArgs s_gathered) (defBody s_gathered) (defScope s_gathered) .none kV doc pm an cdv ct) ⟨us, []⟩ = pure ((["cells", "need"] : List Str).zip us) := match us, hl with | [_, _], _ => rfl
abbrev s_L_cell_at : Stmt := top 24
theorem sc_L_cell_at : FnScope ["_law_script", "_law_k"] ["_law_script", "_law_k"] (defScope s_L_cell_at) := ⟨rfl, rfl, rfl, by decide +kernel, rfl, by decide +kernel, by decide +kernel⟩
theorem bi_L_cell_at (kV doc pm : Value) (an : Option Addr) (cdv ct : Value) (us : List Value) (hl : us.length = ["_law_script", "_law_k"].length) : bindArgs (PySem.W.fnOf "_law_cell_at" "_law_cell_at" (defArgs s_L_cell_at) (defBody s_L_cell_at) (defScope s_L_cell_at) .none kV doc pm an cdv ct) ⟨us, []⟩ = pure ((["_law_script", "_law_k"] : List Str).zip us) := match us, hl with | [_, _], _ => rfl
abbrev s_L_whole : Stmt := top 25
theorem sc_L_whole : FnScope ["_law_found"] ["_law_found"] (defScope s_L_whole) := ⟨rfl, rfl, rfl, by decide +kernel, rfl, by decide +kernel, by decide +kernel⟩
theorem bi_L_whole (kV doc pm : Value) (an : Option Addr) (cdv ct : Value) (us : List Value) (hl : us.length = ["_law_found"].length) : bindArgs (PySem.W.fnOf "_law_whole" "_law_whole" (defArgs s_L_whole) (defBody s_L_whole) (defScope s_L_whole) .none kV doc pm an cdv ct) ⟨us, []⟩ = pure ((["_law_found"] : List Str).zip us) := match us, hl with | [_], _ => rfl
abbrev s_L_walk : Stmt := top 26
theorem sc_L_walk : FnScope ["_law_cells", "_law_told", "_law_at", "_law_long", "_law_live"] ["_law_cells"] (defScope s_L_walk) := ⟨rfl, rfl, rfl, by decide +kernel, rfl, by decide +kernel, by decide +kernel⟩
theorem bi_L_walk (kV doc pm : Value) (an : Option Addr) (cdv ct : Value) (us : List Value) (hl : us.length = ["_law_cells"].length) : bindArgs (PySem.W.fnOf "_law_walk" "_law_walk" (defArgs s_L_walk) (defBody s_L_walk) (defScope s_L_walk) .none kV doc pm an cdv ct) ⟨us, []⟩ = pure ((["_law_cells"] : List Str).zip us) := match us, hl with | [_], _ => rfl
abbrev s_L_drawn : Stmt := top 27
theorem sc_L_drawn : FnScope ["_law_script", "_law_pieces", "_law_at", "_law_far", "_law_upto", "_law_k", "_law_cell", "_law_long"] ["_law_script"] (defScope s_L_drawn) := ⟨rfl, rfl, rfl, by decide +kernel, rfl, by decide +kernel, by decide +kernel⟩
theorem bi_L_drawn (kV doc pm : Value) (an : Option Addr) (cdv ct : Value) (us : List Value) (hl : us.length = ["_law_script"].length) : bindArgs (PySem.W.fnOf "_law_drawn" "_law_drawn" (defArgs s_L_drawn) (defBody s_L_drawn) (defScope s_L_drawn) .none kV doc pm an cdv ct) ⟨us, []⟩ = pure ((["_law_script"] : List Str).zip us) := match us, hl with | [_], _ => rfl
abbrev s_L_room : Stmt := top 28
theorem sc_L_room : FnScope ["_law_pieces", "_law_seed", "_law_size", "_law_cells", "_law_at", "_law_long", "_law_live"] ["_law_pieces", "_law_seed"] (defScope s_L_room) := ⟨rfl, rfl, rfl, by decide +kernel, rfl, by decide +kernel, by decide +kernel⟩
theorem bi_L_room (kV doc pm : Value) (an : Option Addr) (cdv ct : Value) (us : List Value) (hl : us.length = ["_law_pieces", "_law_seed"].length) : bindArgs (PySem.W.fnOf "_law_room" "_law_room" (defArgs s_L_room) (defBody s_L_room) (defScope s_L_room) .none kV doc pm an cdv ct) ⟨us, []⟩ = pure ((["_law_pieces", "_law_seed"] : List Str).zip us) := match us, hl with | [_, _], _ => rfl
abbrev s_L_gaps : Stmt := top 29
theorem sc_L_gaps : FnScope ["_law_pieces", "_law_size", "_law_gaps_here", "_law_at", "_law_piece"] ["_law_pieces", "_law_size"] (defScope s_L_gaps) := ⟨rfl, rfl, rfl, by decide +kernel, rfl, by decide +kernel, by decide +kernel⟩
theorem bi_L_gaps (kV doc pm : Value) (an : Option Addr) (cdv ct : Value) (us : List Value) (hl : us.length = ["_law_pieces", "_law_size"].length) : bindArgs (PySem.W.fnOf "_law_gaps" "_law_gaps" (defArgs s_L_gaps) (defBody s_L_gaps) (defScope s_L_gaps) .none kV doc pm an cdv ct) ⟨us, []⟩ = pure ((["_law_pieces", "_law_size"] : List Str).zip us) := match us, hl with | [_, _], _ => rfl
abbrev s_L_moved : Stmt := top 30
theorem sc_L_moved : FnScope ["_law_longs", "_law_gaps_here", "_law_others", "_law_moved_here", "_law_spot", "_law_other_here", "_law_k"] ["_law_longs", "_law_gaps_here", "_law_others"] (defScope s_L_moved) := ⟨rfl, rfl, rfl, by decide +kernel, rfl, by decide +kernel, by decide +kernel⟩
theorem bi_L_moved (kV doc pm : Value) (an : Option Addr) (cdv ct : Value) (us : List Value) (hl : us.length = ["_law_longs", "_law_gaps_here", "_law_others"].length) : bindArgs (PySem.W.fnOf "_law_moved" "_law_moved" (defArgs s_L_moved) (defBody s_L_moved) (defScope s_L_moved) .none kV doc pm an cdv ct) ⟨us, []⟩ = pure ((["_law_longs", "_law_gaps_here", "_law_others"] : List Str).zip us) := match us, hl with | [_, _, _], _ => rfl
abbrev s_L_other : Stmt := top 31
theorem sc_L_other : FnScope ["_law_gaps_here", "_law_need", "_law_cell", "_law_hole", "_law_others", "_law_left", "_law_right", "_law_bits", "_law_take"] ["_law_gaps_here", "_law_need", "_law_cell"] (defScope s_L_other) := ⟨rfl, rfl, rfl, by decide +kernel, rfl, by decide +kernel, by decide +kernel⟩
theorem bi_L_other (kV doc pm : Value) (an : Option Addr) (cdv ct : Value) (us : List Value) (hl : us.length = ["_law_gaps_here", "_law_need", "_law_cell"].length) : bindArgs (PySem.W.fnOf "_law_other" "_law_other" (defArgs s_L_other) (defBody s_L_other) (defScope s_L_other) .none kV doc pm an cdv ct) ⟨us, []⟩ = pure ((["_law_gaps_here", "_law_need", "_law_cell"] : List Str).zip us) := match us, hl with | [_, _, _], _ => rfl
abbrev s_law : Stmt := top 32
theorem sc_law : FnScope ["_law_script", "_law_pieces", "_law_cells", "_law_size", "_law_gaps_here", "_law_need", "_law_longs", "_law_found", "_law_behind", "_law_told", "_law_cell"] ["_law_script"] (defScope s_law) := ⟨rfl, rfl, rfl, by decide +kernel, rfl, by decide +kernel, by decide +kernel⟩
abbrev s_Broken_init : Stmt := inClass (top 2) 0
theorem sc_Broken_init : FnScope ["self", "cell"] ["self", "cell"] (defScope s_Broken_init) := ⟨rfl, rfl, rfl, by decide +kernel, rfl, by decide +kernel, by decide +kernel⟩
theorem bi_Broken_init (kV doc pm : Value) (an : Option Addr) (cdv ct : Value) (us : List Value) (hl : us.length = ["self", "cell"].length) : bindArgs (PySem.W.fnOf "__init__" "Broken.__init__" (defArgs s_Broken_init) (defBody s_Broken_init) (defScope s_Broken_init) .none kV doc pm an cdv ct) ⟨us, []⟩ = pure ((["self", "cell"] : List Str).zip us) := match us, hl with | [_, _], _ => rfl
structure Txt (K : PySem.W.Frag) (mg : Str → Option Value) (C_StowError C_Broken C_NoAsk C_NoRoom : Addr) (tk_LEAST_LIVE : Tok) : Prop where
  n_bool : mg "bool" = none
  n_int : mg "int" = none
  n_isinstance : mg "isinstance" = none
  n_len : mg "len" = none
  n_list : mg "list" = none
  n_max : mg "max" = none
  n_min : mg "min" = none
  n_range : mg "range" = none
  n_sum : mg "sum" = none
  n_tuple : mg "tuple" = none
  g_LEAST_LIVE : mg "LEAST_LIVE" = some (.int 3 tk_LEAST_LIVE)
  c_StowError : mg "StowError" = some (.ref C_StowError)
  c_Broken : mg "Broken" = some (.ref C_Broken)
  c_NoAsk : mg "NoAsk" = some (.ref C_NoAsk)
  c_NoRoom : mg "NoRoom" = some (.ref C_NoRoom)
  s_Broken : XSet K C_Broken "cell"
  x_NoAsk : XCls K mg "NoAsk" C_NoAsk
  x_NoRoom : XCls K mg "NoRoom" C_NoRoom
def spMark : Sp := fun vs H Q _ => ∃ (n : Int) (v : Bool), vs = [.int n, .bl v] ∧ n.natAbs < 2 ^ 220 ∧ Q (.int (n * 2 + if v then 1 else 0)) H
theorem d_mark_of {P : Program} {w : World} {base : Heap} {K : PySem.W.Frag} {mg : Str → Option Value} {C_StowError C_Broken C_NoAsk C_NoRoom : Addr} {tk_LEAST_LIVE : Tok} (S : Src K mg "mark_of" s_mark_of) (T : Txt K mg C_StowError C_Broken C_NoAsk C_NoRoom tk_LEAST_LIVE)  : Defx P w K mg base "mark_of" 1 ["long", "live"] (spMark) := by
  refine S.okx sc_mark_of bi_mark_of (fun vs H Q E h => by revert h; walk_at "len") (fun f cdv A outer s H vs Q E hr h => ?_)
  refine ⟨_, PSs.nox (pss_cons (ps_if (pt_truth (pv 1) (fun _ => rfl)) (pss_one (ps_ret (pe_op op_or (pe_op op_shlB (pv 0) pe_int) pe_int))) pss_nil) (pss_one (ps_ret (pe_op op_shlB (pv 0) pe_int)))), ?_⟩
  obtain ⟨n, v, rfl, hn, q⟩ := h
  walk_at "go"
  refine r_ifb (fun hv => ?_) (fun hv => ?_)
  · walk_at "go"
    rw [two1, bitOr_one]
    subst hv
    exact q
  · walk_at "go"
    rw [two1]
    subst hv
    rw [if_neg Bool.false_ne_true, Int.add_zero] at q
    exact q
theorem d_long_of {P : Program} {w : World} {base : Heap} {K : PySem.W.Frag} {mg : Str → Option Value} {C_StowError C_Broken C_NoAsk C_NoRoom : Addr} {tk_LEAST_LIVE : Tok} (S : Src K mg "long_of" s_long_of) (T : Txt K mg C_StowError C_Broken C_NoAsk C_NoRoom tk_LEAST_LIVE)  : Defx P w K mg base "long_of" 1 ["number"] (spLong) := by
  refine S.okx sc_long_of bi_long_of (fun vs H Q E h => by revert h; walk_at "len") (fun f cdv A outer s H vs Q E hr h => ?_)
  refine ⟨_, PSs.nox (pss_one (ps_ret (pe_op op_shr (pv 0) pe_int))), ?_⟩
  obtain ⟨n, rfl, q⟩ := h
  walk_at "go"
  rw [two1]
  exact q
theorem d_live_of {P : Program} {w : World} {base : Heap} {K : PySem.W.Frag} {mg : Str → Option Value} {C_StowError C_Broken C_NoAsk C_NoRoom : Addr} {tk_LEAST_LIVE : Tok} (S : Src K mg "live_of" s_live_of) (T : Txt K mg C_StowError C_Broken C_NoAsk C_NoRoom tk_LEAST_LIVE)  : Defx P w K mg base "live_of" 1 ["number"] (spLive) := by
  refine S.okx sc_live_of bi_live_of (fun vs H Q E h => by revert h; walk_at "len") (fun f cdv A outer s H vs Q E hr h => ?_)
  refine ⟨_, PSs.nox (pss_one (ps_ret (pe_cmpR op_eq (pe_op op_and (pv 0) pe_int) pe_int (nomark _)))), ?_⟩
  obtain ⟨n, rfl, q⟩ := h
  walk_at "go"
  rw [live_eq2]
  exact q
theorem d_can_begin {P : Program} {w : World} {base : Heap} {K : PySem.W.Frag} {mg : Str → Option Value} {C_StowError C_Broken C_NoAsk C_NoRoom : Addr} {tk_LEAST_LIVE : Tok} (S : Src K mg "can_begin" s_can_begin) (T : Txt K mg C_StowError C_Broken C_NoAsk C_NoRoom tk_LEAST_LIVE) (D_long_of : Defx P w K mg base "long_of" 1 ["number"] (spLong)) (D_live_of : Defx P w K mg base "live_of" 1 ["number"] (spLive)) : Defx P w K mg base "can_begin" 2 ["cells", "at"] (spCan K) := by
  refine S.okx sc_can_begin bi_can_begin (fun vs H Q E h => by revert h; walk_at "len") (fun f cdv A outer s H vs Q E hr h => ?_)
  refine ⟨_, PSs.nox (pss_cons (ps_set (i := 2) sc_can_begin.nd rfl (Or.inl rfl) (pe_defq D_long_of hr (by rfl) (pa_cons (pe_ix ix_list (pv 0) (pv 1) (fun _ _ => rfl)) pa_nil))) (pss_cons (ps_if (PW.pt (pw_or (pt_cmpR op_lt (pv 2) pe_int (nomark _)) (pw_or1 (pt_cmpR op_gt (pe_op op_add (pv 1) (pv 2)) (pe_callB call_len_seq (by rfl) T.n_len PySem.boot_len (pa_cons (pv 0) pa_nil)) (nomark _))))) (pss_one (ps_ret pe_bl)) pss_nil) (pss_one (ps_ret (pe_or (pe_cmpR op_ge (pv 2) (pe_glob (v := .int 3) (by rfl) T.g_LEAST_LIVE ⟨_, rfl⟩) (nomark _)) (pe_one (pe_not (pe_defq D_live_of hr (by rfl) (pa_cons (pe_ix ix_list (pv 0) (pv 1) (fun _ _ => rfl)) pa_nil))))))))), ?_⟩
  obtain ⟨a, ns, k, rfl, hS, h0, h1, q⟩ := h
  have q' : ∀ c, canBegin ns k = c → Q (.bl c) H := fun c e => e ▸ q
  walk_at "go"
  refine r_ifd (fun hc => ?_) (fun hc => ?_)
  · walk_at "go"
    exact q' false (by unfold canBegin; rw [if_pos (Or.inl hc)])
  · walk_at "go"
    refine r_ifd (fun hd => ?_) (fun hd => ?_)
    · walk_at "go"
      exact q' false (by unfold canBegin; rw [if_pos (Or.inr hd)])
    · walk_at "go"
      have ec : canBegin ns k = (decide (3 ≤ ns.getD k.toNat 0 / 2) || !decide (ns.getD k.toNat 0 % 2 = 1)) := by
        unfold canBegin
        rw [if_neg (by omega)]
      refine r_ifb (fun he => ?_) (fun he => ?_)
      · walk_at "go"
        exact q' true (by rw [ec, he, Bool.true_or])
      · walk_at "go"
        exact q' _ (by rw [ec, he, Bool.false_or])
theorem d_bad_of_piece {P : Program} {w : World} {base : Heap} {K : PySem.W.Frag} {mg : Str → Option Value} {C_StowError C_Broken C_NoAsk C_NoRoom : Addr} {tk_LEAST_LIVE : Tok} (S : Src K mg "bad_of_piece" s_bad_of_piece) (T : Txt K mg C_StowError C_Broken C_NoAsk C_NoRoom tk_LEAST_LIVE) (D_long_of : Defx P w K mg base "long_of" 1 ["number"] (spLong)) (D_can_begin : Defx P w K mg base "can_begin" 2 ["cells", "at"] (spCan K)) : Defx P w K mg base "bad_of_piece" 3 ["cells", "at"] (spBad K) := by
  refine S.okx sc_bad_of_piece bi_bad_of_piece (fun vs H Q E h => by revert h; walk_at "len") (fun f cdv A outer s H vs Q E hr h => ?_)
  refine ⟨_, PSs.nox (pss_cons (ps_if (pt_not (pt_val (pe_defq D_can_begin hr (by rfl) (pa_cons (pv 0) (pa_cons (pv 1) pa_nil))))) (pss_one (ps_ret (pv 1))) pss_nil) (pss_cons (ps_set (i := 2) sc_bad_of_piece.nd rfl (Or.inl rfl) (pe_op op_sub (pe_op op_add (pv 1) (pe_defq D_long_of hr (by rfl) (pa_cons (pe_ix ix_list (pv 0) (pv 1) (fun _ _ => rfl)) pa_nil))) pe_int)) (pss_cons (ps_if (pt_cmpR op_ne (pe_ix ix_list (pv 0) (pv 2) (fun _ _ => rfl)) (pe_ix ix_list (pv 0) (pv 1) (fun _ _ => rfl)) (nomark _)) (pss_one (ps_ret (pv 2))) pss_nil) (pss_one (ps_ret pe_non))))), ?_⟩
  obtain ⟨a, ns, k, rfl, hS, h0, h1, q⟩ := h
  have q' : ∀ c, badOf ns k = c → Q (optV c) H := fun c e => e ▸ q
  walk_at "go"
  refine r_ifb (fun hc => ?_) (fun hc => ?_)
  · obtain ⟨b1, b2, _⟩ := (canBegin_iff ns k).mp hc
    walk_at "go"
    refine r_ifd (fun hd => ?_) (fun hd => ?_)
    · walk_at "go"
      exact q' none (bad_well hc hd)
    · walk_at "go"
      exact q' (some _) (bad_last hc hd)
  · walk_at "go"
    exact q' (some k) (bad_no hc)
theorem d_Broken {P : Program} {w : World} {base : Heap} {K : PySem.W.Frag} {mg : Str → Option Value} {C_Broken C_StowError : Addr} {fI : Addr} {fd : FuncData} (F : Fun K "__init__" "Broken.__init__" s_Broken_init fI fd) (XI : XIni K mg "Broken" C_Broken C_StowError fI) (Z : XSet K C_Broken "cell") : DefI P w K mg base "Broken" C_Broken C_StowError 1 ["self", "cell"] (spInit C_Broken "cell") := by
  refine ⟨fI, fd, XI, fun_okx F sc_Broken_init (fun vs H Q E h => ?_) (fun cdv A outer s H vs Q E hr h => ?_), F.binds bi_Broken_init⟩
  · obtain ⟨y, v, rfl, _⟩ := h
    rfl
  · obtain ⟨y, v, rfl, hy, q⟩ := h
    exact ⟨_, PSs.nox (pss_one (ps_fldX (pv 0) (pv 1))), _, rfl, _, rfl, y, _, rfl, hy, Z, fun dx hd => q dx hd⟩
/-- the looker's loop -/
def LkW (H : Hp) (a p : Addr) (ns : List Int) (m : Nat) (σ : L2.St) (H' : Hp) : Prop :=
  ∃ (ds : List Pc) (us : List V) (k : Int) (x y : Option V), σ = [some (.ref a), some (.ref p), some (.int k), x, y] ∧ m = (ns.length - k).toNat ∧ 0 ≤ k ∧ k ≤ ns.length ∧ (ds.length : Int) ≤ k ∧ WPre ns ds k ∧ Same H H' ∧ H' p = some (.lst us) ∧ PcsAt H' us ds
theorem d_looked {P : Program} {w : World} {base : Heap} {K : PySem.W.Frag} {mg : Str → Option Value} {C_StowError C_Broken C_NoAsk C_NoRoom : Addr} {tk_LEAST_LIVE : Tok} (S : Src K mg "looked" s_looked) (T : Txt K mg C_StowError C_Broken C_NoAsk C_NoRoom tk_LEAST_LIVE) (D_long_of : Defx P w K mg base "long_of" 1 ["number"] (spLong)) (D_live_of : Defx P w K mg base "live_of" 1 ["number"] (spLive)) (D_bad_of_piece : Defx P w K mg base "bad_of_piece" 3 ["cells", "at"] (spBad K)) (D_Broken : DefI P w K mg base "Broken" C_Broken C_StowError 1 ["self", "cell"] (spInit C_Broken "cell")) : Defx P w K mg base "looked" 4 ["cells"] (spLooked K C_Broken) := by
  refine S.okx sc_looked bi_looked (fun vs H Q E h => by revert h; walk_at "len") (fun f cdv A outer s H vs Q E hr h => ?_)
  refine ⟨_, (pss_cons (ps_set (i := 1) sc_looked.nd rfl (Or.inl rfl) (pe_lst pa_nil)) (pss_cons (ps_set (i := 2) sc_looked.nd rfl (Or.inl rfl) pe_int) (pss_cons (ps_while PassesOwn.leaving (pt_cmpR op_lt (pv 2) (pe_callB call_len_seq (by rfl) T.n_len PySem.boot_len (pa_cons (pv 0) pa_nil)) (nomark _)) (pss_cons (ps_set (i := 3) sc_looked.nd rfl (Or.inl rfl) (pe_defq D_bad_of_piece hr (by rfl) (pa_cons (pv 0) (pa_cons (pv 2) pa_nil)))) (pss_cons (ps_if (pt_cmpR op_notN (pv 3) pe_non (nomark _)) (pss_one (ps_raiseD D_Broken hr rfl (pa_cons (pv 3) pa_nil))) pss_nil) (pss_cons (ps_set (i := 4) sc_looked.nd rfl (Or.inl rfl) (pe_defq D_long_of hr (by rfl) (pa_cons (pe_ix ix_list (pv 0) (pv 2) (fun _ _ => rfl)) pa_nil))) (pss_cons (ps_expr (pe_bm PySem.F.plainAttrs_list PySem.F.slot_list_append PySem.F.type_list_append mt_append (pv 1) (pa_cons (pe_tup (pa_cons (pv 2) (pa_cons (pv 4) (pa_cons (pe_defq D_live_of hr (by rfl) (pa_cons (pe_ix ix_list (pv 0) (pv 2) (fun _ _ => rfl)) pa_nil)) pa_nil)))) pa_nil))) (pss_one (ps_set (i := 2) sc_looked.nd rfl (Or.inl rfl) (pe_op op_add (pv 2) (pv 4))))))))) (pss_one (ps_ret (pv 1)))))), ?_⟩
  obtain ⟨a, ns, rfl, hS, hz, qe, q⟩ := h
  walk_at "go"
  intro p hp
  walk_at "go"
  refine ⟨LkW H a p ns, ⟨_, [], [], 0, none, none, rfl, rfl, by omega, by omega, by decide, WPre.nil ns, Same.new hp, upd_same, PcsAt.nil⟩, ?_⟩
  rintro m σ H' ⟨ds, us, k, x, y, rfl, rfl, h0, hkl, hdl, w, s1, hp', pa⟩
  have hul := pa.1
  have hS' : SqL K H' a (ns.map V.int) := s1.seq hS
  walk_at "go"
  refine r_ifd (fun hlt => ?_) (fun hlt => ?_)
  · refine ⟨fun σ' H'' => ∃ m', m' < (ns.length - k).toNat ∧ LkW H a p ns m' σ' H'', fun σ' H'' hw => hw, ?_⟩
    walk_at "go"
    cases hb : badOf ns k with
    | some b =>
      walk_at "go"
      refine r_made (fun dx hd => ?_)
      exact qe b (by rw [w.bad hlt hb]) dx _ (s1.put (s1.free hd)) upd_same
    | none =>
      obtain ⟨b1, b2, b3⟩ := bad_pos hb
      walk_at "go"
      intro t ht
      have hpt : p ≠ t := ne_of_none hp' ht
      walk_at "go"
      obtain ⟨g1, g2⟩ := PcsAt.push (z := pcAt ns k) pa hp' ht
      dsimp only [pcAt] at g1 g2
      refine ⟨_, ?_, ds ++ [pcAt ns k], us ++ [.ref t], k + ns.getD k.toNat 0 / 2, _, _, rfl, rfl, by omega, by omega, ?_, w.step hlt hb, (s1.put (s1.free ht)).put hp, g1, g2⟩
      · omega
      · rw [List.length_append, List.length_singleton]
        omega
  · walk_at "go"
    exact q (by rw [w.fin hlt]) p us H' hp s1 hp' (by rw [w.fin hlt]; exact pa)
def spLaid (K : PySem.W.Frag) : Sp := fun vs H Q _ => ∃ (a : Addr) (cs : List Int) (k l : Int) (v : Bool), vs = [.ref a, .int k, .int l, .bl v] ∧ SqL K H a (cs.map V.int) ∧ cs.length ≤ 4000 ∧ 0 ≤ k ∧ 1 ≤ l ∧ k + l ≤ cs.length ∧
  ∀ (p : Addr) (H' : Hp), H p = none → Same H H' → H' p = some (.lst ((laidI cs k l v).map V.int)) → Q (.ref p) H'
theorem d_laid {P : Program} {w : World} {base : Heap} {K : PySem.W.Frag} {mg : Str → Option Value} {C_StowError C_Broken C_NoAsk C_NoRoom : Addr} {tk_LEAST_LIVE : Tok} (S : Src K mg "laid" s_laid) (T : Txt K mg C_StowError C_Broken C_NoAsk C_NoRoom tk_LEAST_LIVE) (D_mark_of : Defx P w K mg base "mark_of" 1 ["long", "live"] (spMark)) : Defx P w K mg base "laid" 2 ["cells", "at", "long", "live"] (spLaid K) := by
  refine S.okx sc_laid bi_laid (fun vs H Q E h => by revert h; walk_at "len") (fun f cdv A outer s H vs Q E hr h => ?_)
  refine ⟨_, PSs.nox (pss_cons (ps_set (i := 4) sc_laid.nd rfl (Or.inl rfl) (pe_callTy call_list_of (by rfl) T.n_list PyProof.Rows.boot_list (pa_cons (pv 0) pa_nil))) (pss_cons (ps_asg (pe_defq D_mark_of hr (by rfl) (pa_cons (pv 2) (pa_cons (pv 3) pa_nil))) (pg_sub (pv 4) (pv 1) set_list)) (pss_cons (ps_asg (pe_defq D_mark_of hr (by rfl) (pa_cons (pv 2) (pa_cons (pv 3) pa_nil))) (pg_sub (pv 4) (pe_op op_sub (pe_op op_add (pv 1) (pv 2)) pe_int) set_list)) (pss_one (ps_ret (pv 4)))))), ?_⟩
  obtain ⟨a, cs, k, l, v, rfl, hS, hz, h0, h1, hl, q⟩ := h
  have hn : l.natAbs < 2 ^ 220 := Nat.lt_of_le_of_lt (show l.natAbs ≤ 4000 by omega) (by decide)
  walk_at "go"
  intro p hp
  walk_at "go"
  refine ⟨l, v, rfl, hn, ?_⟩
  walk_at "go"
  refine ⟨l, v, rfl, hn, ?_⟩
  walk_at "go"
  refine q p _ hp (((Same.new hp).put hp).put hp) upd_same
def spCarry (K : PySem.W.Frag) : Sp := fun vs H Q _ => ∃ (a : Addr) (cs : List Int) (s g c : Int), vs = [.ref a, .int s, .int g, .int c] ∧ SqL K H a (cs.map V.int) ∧ cs.length ≤ 1200 ∧ 0 ≤ s ∧ 0 ≤ g ∧ 0 ≤ c ∧ s + c ≤ cs.length ∧ g + c ≤ cs.length ∧
  ∀ (p : Addr) (H' : Hp), H p = none → Same H H' → H' p = some (.lst ((carI cs s.toNat g.toNat c.toNat).map V.int)) → Q (.ref p) H'
theorem d_carried {P : Program} {w : World} {base : Heap} {K : PySem.W.Frag} {mg : Str → Option Value} {C_StowError C_Broken C_NoAsk C_NoRoom : Addr} {tk_LEAST_LIVE : Tok} (S : Src K mg "carried" s_carried) (T : Txt K mg C_StowError C_Broken C_NoAsk C_NoRoom tk_LEAST_LIVE)  : Defx P w K mg base "carried" 1 ["cells", "source", "goal", "count"] (spCarry K) := by
  refine S.okx sc_carried bi_carried (fun vs H Q E h => by revert h; walk_at "len") (fun f cdv A outer s H vs Q E hr h => ?_)
  refine ⟨_, PSs.nox (pss_cons (ps_set (i := 4) sc_carried.nd rfl (Or.inl rfl) (pe_callTy call_list_of (by rfl) T.n_list PyProof.Rows.boot_list (pa_cons (pv 0) pa_nil))) (pss_one (ps_ret (pe_op op_cat (pe_op op_cat (pe_slice sl_list (pv 4) po_none (po_some (pv 2))) (pe_slice sl_list (pv 4) (po_some (pv 1)) (po_some (pe_op op_add (pv 1) (pv 3))))) (pe_slice sl_list (pv 4) (po_some (pe_op op_add (pv 2) (pv 3))) po_none))))), ?_⟩
  obtain ⟨a, cs, s, g, c, rfl, hS, hz, h0, h1, h2, h3, h4, q⟩ := h
  have n1 := cutI_len cs none (some g)
  have n2 := cutI_len cs (some s) (some (s + c))
  have n3 := cutI_len cs (some (g + c)) none
  walk_at "go"
  intro p0 m0
  have s0 : Same H (upd H p0 (.lst (cs.map V.int))) := Same.new m0
  have e0 : upd H p0 (.lst (cs.map V.int)) p0 = some (.lst (cs.map V.int)) := upd_same
  generalize upd H p0 (.lst (cs.map V.int)) = H0 at s0 e0 ⊢
  have hS0 : SqL K H0 p0 (cs.map V.int) := SqL.of e0
  clear hS
  walk_at "go"
  intro p1 H1 m1 s1 hh1
  have hS1 := s1.seq hS0
  walk_at "go"
  intro p2 H2 m2 s2 hh2
  have h1' := s2 p1 _ hh1
  have hS2 := s2.seq hS1
  walk_at "go"
  intro p3 H3 m3 s3 hh3
  have hS3 := s3.seq hS2
  walk_at "go"
  intro p4 H4 m4 s4 hh4
  have h3' := s4 p3 _ hh3
  have n4 : (cutI cs none (some g) ++ cutI cs (some s) (some (s + c))).length + (cutI cs (some (g + c)) none).length ≤ 4000 := by rw [List.length_append]; omega
  walk_at "go"
  intro p5 H5 m5 s5 h5
  walk_at "go"
  have s14 := (((s0.trans s1).trans s2).trans s3).trans s4
  refine q p5 H5 (s14.free m5) (s14.trans s5) ?_
  rw [h5, cutI_to h1 (by omega), cutI_mid h0 h2 h3, cutI_from (by omega) h4]
  unfold carI
  rw [show (g + c).toNat = g.toNat + c.toNat by omega]
def spStarts : Sp := fun vs H Q _ => ∃ (b : Addr) (us : List V) (ps : List Pc), vs = [.ref b] ∧ H b = some (.lst us) ∧ PcsAt H us ps ∧ ps.length ≤ 3000 ∧
  ∀ (p : Addr) (ws : List V) (H' : Hp), H p = none → Same H H' → H' p = some (.lst ws) → TupsAt H' ws ((plF ps).1.map pr) → Q (.ref p) H'
def StW (b p : Addr) (ps : List Pc) (H : Hp) (i : Nat) (σ : L2.St) (H' : Hp) : Prop :=
  ∃ (ws : List V) (x2 x3 x4 : Option V), σ = [some (.ref b), some (.ref p), x2, x3, x4] ∧ Same H H' ∧ H' p = some (.lst ws) ∧ TupsAt H' ws ((plF (ps.take i)).1.map pr)
theorem d_starts_of {P : Program} {w : World} {base : Heap} {K : PySem.W.Frag} {mg : Str → Option Value} {C_StowError C_Broken C_NoAsk C_NoRoom : Addr} {tk_LEAST_LIVE : Tok} (S : Src K mg "starts_of" s_starts_of) (T : Txt K mg C_StowError C_Broken C_NoAsk C_NoRoom tk_LEAST_LIVE)  : Defx P w K mg base "starts_of" 1 ["pieces"] (spStarts) := by
  refine S.okx sc_starts_of bi_starts_of (fun vs H Q E h => by revert h; walk_at "len") (fun f cdv A outer s H vs Q E hr h => ?_)
  refine ⟨_, PSs.nox (pss_cons (ps_set (i := 1) sc_starts_of.nd rfl (Or.inl rfl) (pe_lst (pa_cons (pe_tup (pa_cons pe_int (pa_cons pe_int pa_nil))) pa_nil))) (pss_cons (ps_for PassesOwn.never rfl (pi_list (pv 0)) (pg_tup rfl (pgs_cons (pg_name (i := 2) sc_starts_of.nd rfl (Or.inl rfl)) (pgs_cons (pg_name (i := 3) sc_starts_of.nd rfl (Or.inl rfl)) (pgs_cons (pg_name (i := 4) sc_starts_of.nd rfl (Or.inl rfl)) pgs_nil)))) (pss_one (ps_if (pt_truth (pv 4) (fun _ => rfl)) (pss_one (ps_expr (pe_bm PySem.F.plainAttrs_list PySem.F.slot_list_append PySem.F.type_list_append mt_append (pv 1) (pa_cons (pe_tup (pa_cons (pe_op op_add (pv 2) (pv 3)) (pa_cons (pe_op op_add (pe_ix ix_tup (pe_ix ix_list (pv 1) (pe_un un_neg pe_int) (fun _ _ => rfl)) pe_int (fun _ _ => rfl)) (pv 3)) pa_nil))) pa_nil)))) pss_nil))) (pss_one (ps_ret (pv 1))))), ?_⟩
  obtain ⟨b, us, ps, rfl, hb, pa, hz, q⟩ := h
  have hul := pa.1
  walk_at "go"
  intro t0 ht0
  walk_at "go"
  intro p hp1
  have s1 : Same H (upd (upd H t0 (.tup [.int 0, .int 0])) p (.lst [.ref t0])) := (Same.new ht0).put ((Same.new ht0).free hp1)
  have hp : H p = none := (Same.new ht0).free hp1
  have hT0 : upd (upd H t0 (.tup [.int 0, .int 0])) p (.lst [.ref t0]) t0 = some (.tup [.int 0, .int 0]) := look_put hp1 upd_same
  have hp0 : upd (upd H t0 (.tup [.int 0, .int 0])) p (.lst [.ref t0]) p = some (.lst [.ref t0]) := upd_same
  generalize upd (upd H t0 (.tup [.int 0, .int 0])) p (.lst [.ref t0]) = H1 at s1 hT0 hp0 ⊢
  walk_at "go"
  refine ⟨b, rfl, ⟨_, SqL.of (s1 b _ hb)⟩, for_list (K := K) (a := b) (xs := us) (StW b p ps H) ⟨[.ref t0], none, none, none, rfl, s1, hp0, tups_snoc (us := []) (xs := []) TupsAt.nil hT0⟩ (fun i σ H2 _ ⟨_, _, _, _, _, s2, _⟩ => SqL.of (s2 b _ hb)) ?_ ?_⟩
  · rintro i y σ H2 hi ⟨ws, x2, x3, x4, rfl, s2, hp2, ta⟩
    obtain ⟨t, z, rfl, hz1, hT⟩ := pcs_get (pa.same s2) hi
    have hst := plF_take hz1
    have hwl := ta.1
    rw [List.length_map] at hwl
    have hpl := (plF_len (ps.take i)).1
    rw [List.length_take] at hpl
    cases hv : z.v with
    | false =>
      rw [hv] at hT
      walk_at "go"
      refine ⟨ws, _, _, _, rfl, s2, hp2, ?_⟩
      rw [hst]
      unfold stp
      rw [hv, if_neg Bool.false_ne_true]
      exact ta
    | true =>
      rw [hv] at hT
      obtain ⟨D, a0, eD⟩ := plF_last (ps.take i)
      have ta' := ta
      rw [eD, List.map_append] at ta'
      obtain ⟨ui, tl, rfl, hTl⟩ := tups_unsnoc (xs := D.map pr) (x := pr (a0, (plF (ps.take i)).2.2)) ta'
      unfold pr at hTl
      dsimp only at hTl
      walk_at "go"
      refine r_ixLast (SqL.of hp2) ?_
      walk_at "go"
      intro t2 ht2
      walk_at "go"
      refine ⟨_, _, _, _, rfl, (s2.put (s2.free ht2)).put hp, upd_same, ?_⟩
      rw [hst]
      unfold stp
      rw [hv, if_pos rfl]
      dsimp only
      rw [List.map_append]
      exact ta.push hp2 ht2
  · rintro σ H2 ⟨ws, x2, x3, x4, rfl, s2, hp2, ta⟩
    rw [List.take_of_length_le (by omega)] at ta
    walk_at "go"
    exact q p ws H2 hp s2 hp2 ta
def spStops : Sp := fun vs H Q _ => ∃ (b : Addr) (us : List V) (ps : List Pc) (n : Int), vs = [.ref b, .int n] ∧ H b = some (.lst us) ∧ PcsAt H us ps ∧ ps.length ≤ 900 ∧
  ∀ (p : Addr) (ws : List V) (H' : Hp), H p = none → Same H H' → H' p = some (.lst ws) → TupsAt H' ws (((plF ps).2.1 ++ [(n, (plF ps).2.2)]).map pr) → Q (.ref p) H'
def SoW (b p : Addr) (n : Int) (ps : List Pc) (H : Hp) (i : Nat) (σ : L2.St) (H' : Hp) : Prop :=
  ∃ (ws : List V) (x4 x5 x6 : Option V), σ = [some (.ref b), some (.int n), some (.ref p), some (.int (plF (ps.take i)).2.2), x4, x5, x6] ∧ Same H H' ∧ H' p = some (.lst ws) ∧ TupsAt H' ws ((plF (ps.take i)).2.1.map pr)
theorem d_stops_of {P : Program} {w : World} {base : Heap} {K : PySem.W.Frag} {mg : Str → Option Value} {C_StowError C_Broken C_NoAsk C_NoRoom : Addr} {tk_LEAST_LIVE : Tok} (S : Src K mg "stops_of" s_stops_of) (T : Txt K mg C_StowError C_Broken C_NoAsk C_NoRoom tk_LEAST_LIVE)  : Defx P w K mg base "stops_of" 1 ["pieces", "count"] (spStops) := by
  refine S.okx sc_stops_of bi_stops_of (fun vs H Q E h => by revert h; walk_at "len") (fun f cdv A outer s H vs Q E hr h => ?_)
  refine ⟨_, PSs.nox (pss_cons (ps_set (i := 2) sc_stops_of.nd rfl (Or.inl rfl) (pe_lst pa_nil)) (pss_cons (ps_set (i := 3) sc_stops_of.nd rfl (Or.inl rfl) pe_int) (pss_cons (ps_for PassesOwn.never rfl (pi_list (pv 0)) (pg_tup rfl (pgs_cons (pg_name (i := 4) sc_stops_of.nd rfl (Or.inl rfl)) (pgs_cons (pg_name (i := 5) sc_stops_of.nd rfl (Or.inl rfl)) (pgs_cons (pg_name (i := 6) sc_stops_of.nd rfl (Or.inl rfl)) pgs_nil)))) (pss_one (ps_if (pt_truth (pv 6) (fun _ => rfl)) (pss_cons (ps_expr (pe_bm PySem.F.plainAttrs_list PySem.F.slot_list_append PySem.F.type_list_append mt_append (pv 2) (pa_cons (pe_tup (pa_cons (pv 4) (pa_cons (pv 3) pa_nil))) pa_nil))) (pss_one (ps_set (i := 3) sc_stops_of.nd rfl (Or.inl rfl) (pe_op op_add (pv 3) (pv 5))))) pss_nil))) (pss_one (ps_ret (pe_op op_cat (pv 2) (pe_lst (pa_cons (pe_tup (pa_cons (pv 1) (pa_cons (pv 3) pa_nil))) pa_nil)))))))), ?_⟩
  obtain ⟨b, us, ps, n, rfl, hb, pa, hz, q⟩ := h
  have hul := pa.1
  walk_at "go"
  intro p hp
  walk_at "go"
  refine ⟨b, rfl, ⟨_, SqL.of ((Same.new hp) b _ hb)⟩, for_list (K := K) (a := b) (xs := us) (SoW b p n ps H) ⟨[], none, none, none, rfl, Same.new hp, upd_same, TupsAt.nil⟩ (fun i σ H2 _ ⟨_, _, _, _, _, s2, _⟩ => SqL.of (s2 b _ hb)) ?_ ?_⟩
  · rintro i y σ H2 hi ⟨ws, x2, x3, x4, rfl, s2, hp2, ta⟩
    obtain ⟨t, z, rfl, hz1, hT⟩ := pcs_get (pa.same s2) hi
    have hst := plF_take hz1
    have hwl := ta.1
    rw [List.length_map] at hwl
    have hpl := (plF_len (ps.take i)).2
    rw [List.length_take] at hpl
    cases hv : z.v with
    | false =>
      rw [hv] at hT
      unfold stp at hst
      rw [hv, if_neg Bool.false_ne_true] at hst
      walk_at "go"
      exact ⟨ws, _, _, _, by rw [hst], s2, hp2, by rw [hst]; exact ta⟩
    | true =>
      rw [hv] at hT
      unfold stp at hst
      rw [hv, if_pos rfl] at hst
      walk_at "go"
      intro t2 ht2
      walk_at "go"
      refine ⟨_, _, _, _, by rw [hst], (s2.put (s2.free ht2)).put hp, upd_same, ?_⟩
      rw [hst]
      dsimp only
      rw [List.map_append]
      exact ta.push hp2 ht2
  · rintro σ H2 ⟨ws, x2, x3, x4, rfl, s2, hp2, ta⟩
    rw [List.take_of_length_le (by omega)] at ta ⊢
    have hwl := ta.1
    rw [List.length_map] at hwl
    have hpl := (plF_len ps).2
    walk_at "go"
    intro t ht
    walk_at "go"
    intro l hl
    have s3 : Same H2 (upd (upd H2 t (.tup [.int n, .int (plF ps).2.2])) l (.lst [.ref t])) := (Same.new ht).put ((Same.new ht).free hl)
    have hT3 : upd (upd H2 t (.tup [.int n, .int (plF ps).2.2])) l (.lst [.ref t]) t = some (.tup [.int n, .int (plF ps).2.2]) := look_put hl upd_same
    have hl3 : upd (upd H2 t (.tup [.int n, .int (plF ps).2.2])) l (.lst [.ref t]) l = some (.lst [.ref t]) := upd_same
    generalize upd (upd H2 t (.tup [.int n, .int (plF ps).2.2])) l (.lst [.ref t]) = H3 at s3 hT3 hl3 ⊢
    refine r_cat (s3 p _ hp2) hl3 (Nat.le_of_lt (small1000 (by rw [List.length_singleton]; omega))) (fun o ho => ?_)
    walk_at "go"
    have s4 : Same H (upd H3 o (.lst (ws ++ [.ref t]))) := (s2.trans s3).put ((s2.trans s3).free ho)
    refine q o _ _ ((s2.trans s3).free ho) s4 upd_same ?_
    rw [List.map_append]
    exact tups_snoc (ta.same (s3.put (s3.free ho))) (look_put ho hT3)
def spBestP (K : PySem.W.Frag) : Sp := fun vs H Q _ => ∃ (a : Addr) (cs : List Int) (ps : List Pc) (nd : Int), vs = [.ref a, .int nd] ∧ SqL K H a (cs.map V.int) ∧ cs.length ≤ 4000 ∧ walkF cs 0 = (ps, none) ∧ ps.length ≤ 60 ∧
  ∀ (v : V) (H' : Hp), Same H H' → planV H' v (bestOf (plans nd ps cs.length)) → Q v H'
def BoW (f0 f1 f2 f3 : Option V) (p : Addr) (nd : Int) (ss ts : List (Int × Int)) (H0 H : Hp) (i : Nat) (σ : L2.St) (H' : Hp) : Prop :=
  ∃ (ws : List V) (x5 x6 x7 x8 x9 : Option V), σ = [f0, f1, f2, f3, some (.ref p), x5, x6, x7, x8, x9] ∧ Same H0 H' ∧ KeepX p H H' ∧ H' p = some (.lst ws) ∧ TupsAt H' ws ((plansOf nd (ss.take i) ts).map fun x => x.map V.int)
def BiW (f0 f1 f2 f3 f5 f6 : Option V) (p : Addr) (nd : Int) (s : Int × Int) (pre : List (List Int)) (ts : List (Int × Int)) (H0 H : Hp) (j : Nat) (σ : L2.St) (H' : Hp) : Prop :=
  ∃ (ws : List V) (x7 x8 x9 : Option V), σ = [f0, f1, f2, f3, some (.ref p), f5, f6, x7, x8, x9] ∧ Same H0 H' ∧ KeepX p H H' ∧ H' p = some (.lst ws) ∧ TupsAt H' ws ((pre ++ rowP nd s (ts.take j)).map fun x => x.map V.int)
theorem d_best_plan {P : Program} {w : World} {base : Heap} {K : PySem.W.Frag} {mg : Str → Option Value} {C_StowError C_Broken C_NoAsk C_NoRoom : Addr} {tk_LEAST_LIVE : Tok} (S : Src K mg "best_plan" s_best_plan) (T : Txt K mg C_StowError C_Broken C_NoAsk C_NoRoom tk_LEAST_LIVE) (D_looked : Defx P w K mg base "looked" 4 ["cells"] (spLooked K C_Broken)) (D_starts_of : Defx P w K mg base "starts_of" 1 ["pieces"] (spStarts)) (D_stops_of : Defx P w K mg base "stops_of" 1 ["pieces", "count"] (spStops)) : Defx P w K mg base "best_plan" 5 ["cells", "need"] (spBestP K) := by
  refine S.okx sc_best_plan bi_best_plan (fun vs H Q E h => by revert h; walk_at "len") (fun f cdv A outer s H vs Q E hr h => ?_)
  refine ⟨_, PSs.nox (pss_cons (ps_set (i := 2) sc_best_plan.nd rfl (Or.inl rfl) (pe_defq D_looked hr (by rfl) (pa_cons (pv 0) pa_nil))) (pss_cons (ps_set (i := 3) sc_best_plan.nd rfl (Or.inl rfl) (pe_defq D_stops_of hr (by rfl) (pa_cons (pv 2) (pa_cons (pe_callB call_len_seq (by rfl) T.n_len PySem.boot_len (pa_cons (pv 0) pa_nil)) pa_nil)))) (pss_cons (ps_set (i := 4) sc_best_plan.nd rfl (Or.inl rfl) (pe_lst pa_nil)) (pss_cons (ps_for PassesOwn.never rfl (pi_list (pe_defq D_starts_of hr (by rfl) (pa_cons (pv 2) pa_nil))) (pg_tup rfl (pgs_cons (pg_name (i := 5) sc_best_plan.nd rfl (Or.inl rfl)) (pgs_cons (pg_name (i := 6) sc_best_plan.nd rfl (Or.inl rfl)) pgs_nil))) (pss_one (ps_for PassesOwn.never rfl (pi_list (pv 3)) (pg_tup rfl (pgs_cons (pg_name (i := 7) sc_best_plan.nd rfl (Or.inl rfl)) (pgs_cons (pg_name (i := 8) sc_best_plan.nd rfl (Or.inl rfl)) pgs_nil))) (pss_cons (ps_set (i := 9) sc_best_plan.nd rfl (Or.inl rfl) (pe_op op_sub (pv 8) (pv 6))) (pss_one (ps_if (PW.pt (pw_and (pt_cmpR op_le (pv 5) (pv 7) (nomark _)) (pw_and1 (pt_cmpR op_ge (pe_op op_sub (pe_op op_sub (pv 7) (pv 5)) (pv 9)) (pv 1) (nomark _))))) (pss_one (ps_expr (pe_bm PySem.F.plainAttrs_list PySem.F.slot_list_append PySem.F.type_list_append mt_append (pv 4) (pa_cons (pe_tup (pa_cons (pv 9) (pa_cons (pv 5) (pa_cons (pv 7) pa_nil)))) pa_nil)))) pss_nil)))))) (pss_one (ps_ret (pe_callBK (call_minTD rfl hr.units) (by rfl) T.n_min PyProof.Rows.boot_min (pa_cons (pv 4) pa_nil) (pk_cons pe_non pk_nil)))))))), ?_⟩
  obtain ⟨a, cs, ps, nd, rfl, hS, hcz, hw, hps, q⟩ := h
  walk_at "go"
  refine ⟨a, cs, rfl, hS, hcz, (fun b hb => by rw [hw] at hb; cases hb), fun _ b us H1 nb s1 hb pa => ?_⟩
  rw [hw] at pa
  have hS1 := s1.seq hS
  walk_at "go"
  refine ⟨b, us, ps, _, rfl, hb, pa, by omega, fun l ts H2 nl s2 hl ta => ?_⟩
  have hb2 := s2 b _ hb
  have pa2 := pa.same s2
  walk_at "go"
  intro p hp
  have s3 := Same.new (H := H2) (o := .lst []) hp
  have hp3 : upd H2 p (.lst []) p = some (.lst []) := upd_same
  generalize upd H2 p (.lst []) = H3 at s3 hp3 ⊢
  walk_at "go"
  refine ⟨b, us, ps, rfl, s3 b _ hb2, pa2.same s3, by omega, fun k ss H4 nk s4 hk sa => ?_⟩
  have hl4 := s4 l _ (s3 l _ hl)
  have ta4 := (ta.same s3).same s4
  have hp4 := s4 p _ hp3
  have np : H p = none := (s1.trans s2).free hp
  have s14 : Same H H4 := ((s1.trans s2).trans s3).trans s4
  have hlp : l ≠ p := fun z => by rw [z, hp] at hl; cases hl
  have hkp : k ≠ p := fun z => by rw [z, hp3] at nk; cases nk
  have hsl := (plF_len ps).1
  have htl := (plF_len ps).2
  have q2 : ∀ (v : V) (H' : Hp), Same H H' → planV H' v (bestOf (plansOf nd (plF ps).1 ((plF ps).2.1 ++ [(((cs.length : Nat) : Int), (plF ps).2.2)]))) → Q v H' := q
  have htl2 : ((plF ps).2.1 ++ [(((cs.length : Nat) : Int), (plF ps).2.2)]).length ≤ 61 := by rw [List.length_append, List.length_singleton]; omega
  generalize (plF ps).2.1 ++ [(((cs.length : Nat) : Int), (plF ps).2.2)] = tt at q2 ta4 htl2
  generalize (plF ps).1 = st at q2 sa hsl
  have sal := sa.1
  have tal := ta4.1
  rw [List.length_map] at sal tal
  clear q ta pa pa2 hb hb2 s1 s2 s3 s4 hS hS1 hl nb nl nk hp hp3
  walk_at "go"
  refine ⟨k, rfl, ⟨_, SqL.of hk⟩, for_list (K := K) (a := k) (xs := ss) (BoW (some (.ref a)) (some (.int nd)) (some (.ref b)) (some (.ref l)) p nd st tt H H4) ⟨[], none, none, none, none, none, rfl, s14, KeepX.refl, hp4, TupsAt.nil⟩ (fun i σ H2 _ ⟨_, _, _, _, _, _, _, _, s5, _⟩ => SqL.of (s5 k _ hkp hk)) ?_ ?_⟩
  · rintro i y σ H5 hi ⟨ws, x5, x6, x7, x8, x9, rfl, s5, k5, hp5, wa⟩
    obtain ⟨t, x, rfl, hx, hT⟩ := tups_get (k5.tups hp4 sa) hi
    rw [List.getElem?_map] at hx
    obtain ⟨s0, hs0, rfl⟩ := Option.map_eq_some_iff.mp hx
    unfold pr at hT
    have hil : i < st.length := (List.getElem?_eq_some_iff.mp hs0).1
    have hpt := plansOf_take (nd := nd) (ts := tt) hs0
    have hp1 : (plansOf nd (st.take i) tt).length ≤ 3660 := by
      refine Nat.le_trans (plansOf_len nd tt (st.take i)) (Nat.le_trans (Nat.mul_le_mul (show (st.take i).length ≤ 60 by rw [List.length_take]; omega) htl2) (by decide))
    generalize plansOf nd (st.take i) tt = pre at hpt hp1 wa
    walk_at "go"
    refine ⟨l, rfl, ⟨_, SqL.of (k5 l _ hlp hl4)⟩, for_list (K := K) (a := l) (xs := ts) (BiW (some (.ref a)) (some (.int nd)) (some (.ref b)) (some (.ref l)) (some (.int s0.1)) (some (.int s0.2)) p nd s0 pre tt H H4) ⟨ws, x7, x8, x9, rfl, s5, k5, hp5, by simpa [rowP] using wa⟩ (fun i σ H2 _ ⟨_, _, _, _, _, _, s6, _⟩ => SqL.of (s6 l _ hlp hl4)) ?_ ?_⟩
    · rintro j y σ H6 hj ⟨ws, x7, x8, x9, rfl, s6, k6, hp6, wa⟩
      obtain ⟨t2, x, rfl, hx, hT2⟩ := tups_get (k6.tups hp4 ta4) hj
      rw [List.getElem?_map] at hx
      obtain ⟨t0, ht0, rfl⟩ := Option.map_eq_some_iff.mp hx
      unfold pr at hT2
      have hjl : j < tt.length := (List.getElem?_eq_some_iff.mp ht0).1
      have hrt := rowP_take (nd := nd) (s := s0) ht0
      have hwl := wa.1
      have hrl := rowP_len nd s0 (tt.take j)
      rw [List.length_take] at hrl
      rw [List.length_map, List.length_append] at hwl
      walk_at "go"
      refine r_ifd (fun c1 => ?_) (fun c1 => ?_)
      · walk_at "go"
        refine r_ifd (fun c2 => ?_) (fun c2 => ?_)
        · walk_at "go"
          intro t3 ht3
          walk_at "go"
          refine ⟨_, _, _, _, rfl, (s6.put (s6.free ht3)).put np, (k6.new ht3).put, upd_same, ?_⟩
          rw [hrt]
          unfold pl1
          rw [if_pos ⟨c1, c2⟩, ← List.append_assoc, List.map_append]
          exact wa.push hp6 ht3
        · walk_at "go"
          refine ⟨ws, _, _, _, rfl, s6, k6, hp6, ?_⟩
          rw [hrt]
          unfold pl1
          rw [if_neg (fun z => c2 z.2)]
          simpa using wa
      · walk_at "go"
        refine ⟨ws, _, _, _, rfl, s6, k6, hp6, ?_⟩
        rw [hrt]
        unfold pl1
        rw [if_neg (fun z => c1 z.1)]
        simpa using wa
    · rintro σ H6 ⟨ws, x7, x8, x9, rfl, s6, k6, hp6, wa⟩
      rw [List.take_of_length_le (by omega), ← hpt] at wa
      exact ⟨ws, _, _, _, _, _, rfl, s6, k6, hp6, wa⟩
  · rintro σ H5 ⟨ws, x5, x6, x7, x8, x9, rfl, s5, k5, hp5, wa⟩
    rw [List.take_of_length_le (by omega)] at wa
    walk_at "go"
    refine r_cbk ?_
    walk_at "go"
    refine ⟨p, ws, .non, _, rfl, rfl, hp5, wa, fun h0 => ?_, fun hn t _ ht => ?_⟩
    · walk_at "go"
      refine q2 _ _ s5 ?_
      rw [List.length_eq_zero_iff.mp h0]
      rfl
    · walk_at "go"
      exact q2 _ _ s5 (planV_of (us := []) hn ht)
def spDown (K : PySem.W.Frag) : Sp := fun vs H Q _ => ∃ (a : Addr) (cs : List Int) (ps : List Pc) (S T : Int), vs = [.ref a, .int S, .int T] ∧ SqL K H a (cs.map V.int) ∧ cs.length ≤ 1200 ∧ walkF cs 0 = (ps, none) ∧ Chain 0 ps cs.length ∧ 0 ≤ S ∧ T ≤ cs.length ∧ (uF S T cs ps).g < T ∧ S ≤ (uF S T cs ps).g ∧
  ∀ (p : Addr) (H' : Hp), H p = none → Same H H' → H' p = some (.lst ((laidI (uF S T cs ps).R (uF S T cs ps).g (T - (uF S T cs ps).g) false).map V.int)) → Q (.ref p) H'
def DnW (a : Addr) (S T : Int) (cs : List Int) (ps : List Pc) (H : Hp) (i : Nat) (σ : L2.St) (H' : Hp) : Prop :=
  ∃ (r : Addr) (e : Int) (x5 x6 x7 : Option V), σ = [some (.ref a), some (.int S), some (.int T), some (.ref r), some (.int (uF S T cs (ps.take i)).g), x5, x6, x7] ∧ Same H H' ∧ H' r = some (.lst ((uF S T cs (ps.take i)).R.map V.int)) ∧
    Chain 0 (ps.take i) e ∧ (uF S T cs (ps.take i)).R.length = cs.length ∧ S ≤ (uF S T cs (ps.take i)).g ∧ ((uF S T cs (ps.take i)).g ≤ S ∨ (uF S T cs (ps.take i)).g ≤ e)
theorem d_moved_down {P : Program} {w : World} {base : Heap} {K : PySem.W.Frag} {mg : Str → Option Value} {C_StowError C_Broken C_NoAsk C_NoRoom : Addr} {tk_LEAST_LIVE : Tok} (S : Src K mg "moved_down" s_moved_down) (T : Txt K mg C_StowError C_Broken C_NoAsk C_NoRoom tk_LEAST_LIVE) (D_looked : Defx P w K mg base "looked" 4 ["cells"] (spLooked K C_Broken)) (D_carried : Defx P w K mg base "carried" 1 ["cells", "source", "goal", "count"] (spCarry K)) (D_laid : Defx P w K mg base "laid" 2 ["cells", "at", "long", "live"] (spLaid K)) : Defx P w K mg base "moved_down" 5 ["cells", "start", "stop"] (spDown K) := by
  refine S.okx sc_moved_down bi_moved_down (fun vs H Q E h => by revert h; walk_at "len") (fun f cdv A outer s H vs Q E hr h => ?_)
  refine ⟨_, PSs.nox (pss_cons (ps_set (i := 3) sc_moved_down.nd rfl (Or.inl rfl) (pe_callTy call_list_of (by rfl) T.n_list PyProof.Rows.boot_list (pa_cons (pv 0) pa_nil))) (pss_cons (ps_set (i := 4) sc_moved_down.nd rfl (Or.inl rfl) (pv 1)) (pss_cons (ps_for PassesOwn.never rfl (pi_list (pe_defq D_looked hr (by rfl) (pa_cons (pv 0) pa_nil))) (pg_tup rfl (pgs_cons (pg_name (i := 5) sc_moved_down.nd rfl (Or.inl rfl)) (pgs_cons (pg_name (i := 6) sc_moved_down.nd rfl (Or.inl rfl)) (pgs_cons (pg_name (i := 7) sc_moved_down.nd rfl (Or.inl rfl)) pgs_nil)))) (pss_one (ps_if (PW.pt (pw_and (pt_truth (pv 7) (fun _ => rfl)) (pw_and (pt_cmpR op_le (pv 1) (pv 5) (nomark _)) (pw_and1 (pt_cmpR op_lt (pv 5) (pv 2) (nomark _)))))) (pss_cons (ps_set (i := 3) sc_moved_down.nd rfl (Or.inl rfl) (pe_defq D_carried hr (by rfl) (pa_cons (pv 3) (pa_cons (pv 5) (pa_cons (pv 4) (pa_cons (pv 6) pa_nil)))))) (pss_one (ps_set (i := 4) sc_moved_down.nd rfl (Or.inl rfl) (pe_op op_add (pv 4) (pv 6))))) pss_nil))) (pss_one (ps_ret (pe_defq D_laid hr (by rfl) (pa_cons (pv 3) (pa_cons (pv 4) (pa_cons (pe_op op_sub (pv 2) (pv 4)) (pa_cons pe_bl pa_nil)))))))))), ?_⟩
  obtain ⟨a, cs, ps, S, T, rfl, hS, hcz, hw, hch, hS0, hTn, hgT, hSg, q⟩ := h
  walk_at "go"
  intro r hr
  have s1 := Same.new (o := .lst (cs.map V.int)) hr
  have hr1 : upd H r (.lst (cs.map V.int)) r = some (.lst (cs.map V.int)) := upd_same
  generalize upd H r (.lst (cs.map V.int)) = H1 at s1 hr1 ⊢
  have hS1 := s1.seq hS
  walk_at "go"
  refine ⟨a, cs, rfl, hS1, by omega, (fun b hb => by rw [hw] at hb; cases hb), fun _ b us H2 nb s2 hb pa => ?_⟩
  rw [hw] at pa
  have pa : PcsAt H2 us ps := pa
  have hul := pa.1
  have hr2 := s2 r _ hr1
  have s12 := s1.trans s2
  walk_at "go"
  refine ⟨b, rfl, ⟨_, SqL.of hb⟩, for_list (K := K) (a := b) (xs := us) (DnW a S T cs ps H2) ⟨r, 0, none, none, none, rfl, Same.refl _, hr2, rfl, rfl, Int.le_refl _, .inl (Int.le_refl _)⟩ (fun i σ H3 _ ⟨_, _, _, _, _, _, s3, _⟩ => SqL.of (s3 b _ hb)) ?_ ?_⟩
  · rintro i y σ H3 hi ⟨r, e, x5, x6, x7, rfl, s3, hr3, hce, hRl, hSg2, hge⟩
    obtain ⟨t, z, rfl, hz1, hT⟩ := pcs_get (pa.same s3) hi
    obtain ⟨z0, z1, z3, z4⟩ := hch.mem z (List.mem_of_getElem? hz1)
    obtain ⟨ds, rs, e1, e2, c1, c2⟩ := chain_split hch hz1
    have eds : ps.take i = ds := by rw [e1, ← e2, List.take_left']; rfl
    have eza : e = z.a := chain_end hce (by rw [eds]; exact c1)
    subst eza
    have hut := uF_take (S := S) (T := T) (cs := cs) hz1
    have htk : ps.take (i + 1) = ps.take i ++ [z] := by rw [List.take_add_one, hz1]; rfl
    have hce2 : Chain 0 (ps.take (i + 1)) (z.a + z.l) := by rw [htk]; exact Chain.snoc hce z1 z3
    have stay : ∀ (h : ¬ (z.v = true ∧ S ≤ z.a ∧ z.a < T)), (uStep S T (uF S T cs (ps.take i)) z).R = (uF S T cs (ps.take i)).R ∧ (uStep S T (uF S T cs (ps.take i)) z).g = (uF S T cs (ps.take i)).g := fun h => by
      unfold uStep
      split
      · exact ⟨rfl, rfl⟩
      · rw [if_neg (fun g => h ⟨g.2, by omega, g.1⟩)]
        exact ⟨rfl, rfl⟩
    walk_at "go"
    refine r_ifb (fun hv => ?_) (fun hv => ?_)
    · walk_at "go"
      refine r_ifd (fun h1 => ?_) (fun h1 => ?_)
      · walk_at "go"
        refine r_ifd (fun h2 => ?_) (fun h2 => ?_)
        · have eu : uStep S T (uF S T cs (ps.take i)) z = ⟨carI (uF S T cs (ps.take i)).R z.a.toNat (uF S T cs (ps.take i)).g.toNat z.l.toNat, (uF S T cs (ps.take i)).g + z.l, (uF S T cs (ps.take i)).tl ++ [(⟨(uF S T cs (ps.take i)).g, z.l, z.v⟩, z.a)]⟩ := by
            unfold uStep
            rw [if_neg (by omega), if_pos ⟨h2, hv⟩]
          rw [← hut] at eu
          generalize uF S T cs (ps.take i) = A at hr3 hRl hSg2 hge eu
          walk_at "go"
          refine ⟨r, A.R, z.a, A.g, z.l, rfl, SqL.of hr3, by omega, by omega, by omega, by omega, by omega, by omega, fun p H4 np s4 hp => ?_⟩
          walk_at "go"
          refine ⟨p, z.a + z.l, _, _, _, by rw [eu], s3.trans s4, ?_, hce2, ?_, ?_, ?_⟩
          · rw [eu]
            exact hp
          · rw [eu]
            show (carI _ _ _ _).length = _
            rw [carI_len (by omega) (by omega)]
            exact hRl
          · rw [eu]
            show S ≤ A.g + z.l
            omega
          · rw [eu]
            right
            show A.g + z.l ≤ z.a + z.l
            omega
        · walk_at "go"
          obtain ⟨k1, k2⟩ := stay (fun h => by omega)
          rw [← hut] at k1 k2
          exact ⟨r, z.a + z.l, _, _, _, by rw [k2], s3, by rw [k1]; exact hr3, hce2, by rw [k1]; exact hRl, by rw [k2]; exact hSg2, by rw [k2]; omega⟩
      · walk_at "go"
        obtain ⟨k1, k2⟩ := stay (fun h => by omega)
        rw [← hut] at k1 k2
        exact ⟨r, z.a + z.l, _, _, _, by rw [k2], s3, by rw [k1]; exact hr3, hce2, by rw [k1]; exact hRl, by rw [k2]; exact hSg2, by rw [k2]; omega⟩
    · walk_at "go"
      obtain ⟨k1, k2⟩ := stay (fun h => by rw [hv] at h; cases h.1)
      rw [← hut] at k1 k2
      exact ⟨r, z.a + z.l, _, _, _, by rw [k2], s3, by rw [k1]; exact hr3, hce2, by rw [k1]; exact hRl, by rw [k2]; exact hSg2, by rw [k2]; omega⟩
  · rintro σ H3 ⟨r, e, x5, x6, x7, rfl, s3, hr3, hce, hRl, hSg2, hge⟩
    rw [List.take_of_length_le (by omega)] at hr3 hRl ⊢
    walk_at "go"
    refine ⟨r, _, _, _, false, rfl, SqL.of hr3, by omega, by omega, by omega, by omega, fun p H4 np s4 hp => ?_⟩
    walk_at "go"
    exact q p H4 ((s12.trans s3).free np) ((s12.trans s3).trans s4) hp
def spGath (K : PySem.W.Frag) (CA CR : Addr) : Sp := fun vs H Q E => ∃ (a : Addr) (cs : List Int) (ps : List Pc) (nd : Int), vs = [.ref a, .int nd] ∧ SqL K H a (cs.map V.int) ∧ cs.length ≤ 1200 ∧ Chain 0 ps cs.length ∧ Marks cs ps ∧ ps.length ≤ 60 ∧
  (nd < 1 → ∀ (H' : Hp), Same H H' → E (.ref CA) none H') ∧
  (1 ≤ nd → bestOf (plans nd ps cs.length) = none → ∀ (H' : Hp), Same H H' → E (.ref CR) none H') ∧
  (1 ≤ nd → ∀ (m S T : Int), bestOf (plans nd ps cs.length) = some [m, S, T] → ∀ (t p : Addr) (H' : Hp), H p = none → Same H H' → H' p = some (.lst ((laidI (uF S T cs ps).R (uF S T cs ps).g (T - (uF S T cs ps).g) false).map V.int)) → H' t = some (.tup [.int m, .ref p]) → Q (.ref t) H')
theorem d_gathered {P : Program} {w : World} {base : Heap} {K : PySem.W.Frag} {mg : Str → Option Value} {C_StowError C_Broken C_NoAsk C_NoRoom : Addr} {tk_LEAST_LIVE : Tok} (S : Src K mg "gathered" s_gathered) (T : Txt K mg C_StowError C_Broken C_NoAsk C_NoRoom tk_LEAST_LIVE) (D_best_plan : Defx P w K mg base "best_plan" 5 ["cells", "need"] (spBestP K)) (D_moved_down : Defx P w K mg base "moved_down" 5 ["cells", "start", "stop"] (spDown K)) : Defx P w K mg base "gathered" 6 ["cells", "need"] (spGath K C_NoAsk C_NoRoom) := by
  refine S.okx sc_gathered bi_gathered (fun vs H Q E h => by revert h; walk_at "len") (fun f cdv A outer s H vs Q E hr h => ?_)
  refine ⟨_, (pss_cons (ps_if (pt_cmpR op_lt (pv 1) pe_int (nomark _)) (pss_one (ps_raise T.x_NoAsk hr.hd rfl (pa_cons pe_str pa_nil))) pss_nil) (pss_cons (ps_set (i := 2) sc_gathered.nd rfl (Or.inl rfl) (pe_defq D_best_plan hr (by rfl) (pa_cons (pv 0) (pa_cons (pv 1) pa_nil)))) (pss_cons (ps_if (pt_cmpR op_isN (pv 2) pe_non (nomark _)) (pss_one (ps_raise T.x_NoRoom hr.hd rfl (pa_cons pe_str pa_nil))) pss_nil) (pss_cons (ps_asg (pv 2) (pg_tup rfl (pgs_cons (pg_name (i := 3) sc_gathered.nd rfl (Or.inl rfl)) (pgs_cons (pg_name (i := 4) sc_gathered.nd rfl (Or.inl rfl)) (pgs_cons (pg_name (i := 5) sc_gathered.nd rfl (Or.inl rfl)) pgs_nil))))) (pss_one (ps_ret (pe_tup (pa_cons (pv 3) (pa_cons (pe_defq D_moved_down hr (by rfl) (pa_cons (pv 0) (pa_cons (pv 4) (pa_cons (pv 5) pa_nil)))) pa_nil))))))))), ?_⟩
  obtain ⟨a, cs, ps, nd, rfl, hS, hcz, hch, hmk, hps, qa, qr, q⟩ := h
  have hw := walk_of_marks hch hmk
  walk_at "go"
  refine r_ifd (fun h1 => ?_) (fun h1 => ?_)
  · walk_at "go"
    exact qa h1 _ (Same.refl _)
  · walk_at "go"
    refine ⟨a, cs, ps, nd, rfl, hS, by omega, hw, hps, fun v H1 s1 pv => ?_⟩
    have hS1 := s1.seq hS
    cases hb : bestOf (plans nd ps cs.length) with
    | none =>
      rw [hb] at pv
      have pv : v = .non := pv
      subst pv
      walk_at "go"
      exact qr (by omega) hb _ s1
    | some x =>
      rw [hb] at pv
      obtain ⟨t, rfl, ht⟩ := pv
      have hx3 := plansOf_three (bestOf_mem hb)
      match x, hx3 with
      | [m, S, T], _ =>
        obtain ⟨A, M, B, eps, c1, c2, c3, hnd, hST, hm⟩ := plan_parts hch (bestOf_mem hb)
        have hg : (uF S T cs ps).g = S + m := by rw [eps, u_whole c1 c2 c3, hm]
        have l1 := c1.le
        have l3 := c3.le
        have hm0 : 0 ≤ m := by
          have hl2 := c2.le
          rw [← hm]
          have key : ∀ (M : List Pc) (k : Int), 0 ≤ k → (∀ z ∈ M, 1 ≤ z.l) → 0 ≤ M.foldl (fun h z => if z.v = true then h + z.l else h) k := by
            intro M
            induction M with
            | nil => intro k hk _; exact hk
            | cons y r ih =>
              intro k hk hy
              have := hy y List.mem_cons_self
              refine ih _ ?_ fun z hz => hy z (List.mem_cons_of_mem _ hz)
              show 0 ≤ if y.v = true then k + y.l else k
              split <;> omega
          exact key M 0 (Int.le_refl _) fun z hz => (c2.mem z hz).2.1
        have ht : H1 t = some (.tup [.int m, .int S, .int T]) := ht
        walk_at "go"
        refine ⟨a, cs, ps, S, T, rfl, hS1, hcz, hw, hch, by omega, by omega, by omega, by omega, fun p H2 np s2 hp => ?_⟩
        walk_at "go"
        intro t2 ht2
        walk_at "go"
        have s12 := s1.trans s2
        exact q (by omega) m S T hb t2 p _ (s1.free np) (s12.trans (Same.new ht2)) (look_put ht2 hp) upd_same
theorem d_L_cell_at {P : Program} {w : World} {base : Heap} {K : PySem.W.Frag} {mg : Str → Option Value} {C_StowError C_Broken C_NoAsk C_NoRoom : Addr} {tk_LEAST_LIVE : Tok} (S : Src K mg "_law_cell_at" s_L_cell_at) (T : Txt K mg C_StowError C_Broken C_NoAsk C_NoRoom tk_LEAST_LIVE)  : Defx P w K mg base "_law_cell_at" 1 ["_law_script", "_law_k"] (spCell K) := by
  refine S.okx sc_L_cell_at bi_L_cell_at (fun vs H Q E h => by revert h; walk_at "len") (fun f cdv A outer s H vs Q E hr h => ?_)
  refine ⟨_, PSs.nox (pss_cons (ps_if (pt_cmpR op_lt (pv 1) (pe_callB call_len_seq (by rfl) T.n_len PySem.boot_len (pa_cons (pv 0) pa_nil)) (nomark _)) (pss_one (ps_ret (pe_ix ix_list (pv 0) (pv 1) (fun _ _ => rfl)))) pss_nil) (pss_one (ps_ret pe_int))), ?_⟩
  obtain ⟨a, ns, k, rfl, hS, h0, q⟩ := h
  walk_at "go"
  refine r_ifd (fun hc => ?_) (fun hc => ?_)
  · walk_at "go"
    exact q
  · walk_at "go"
    have e : ns.getD k.toNat 0 = 0 := by
      rw [List.getD_eq_getElem?_getD, List.getElem?_eq_none (by omega)]
      rfl
    rw [e] at q
    exact q
theorem d_L_whole {P : Program} {w : World} {base : Heap} {K : PySem.W.Frag} {mg : Str → Option Value} {C_StowError C_Broken C_NoAsk C_NoRoom : Addr} {tk_LEAST_LIVE : Tok} (S : Src K mg "_law_whole" s_L_whole) (T : Txt K mg C_StowError C_Broken C_NoAsk C_NoRoom tk_LEAST_LIVE)  : Defx P w K mg base "_law_whole" 1 ["_law_found"] (spWhole) := by
  refine S.okx sc_L_whole bi_L_whole (fun vs H Q E h => by revert h; walk_at "len") (fun f cdv A outer s H vs Q E hr h => ?_)
  refine ⟨_, PSs.nox (pss_one (ps_ret (pe_and (pe_callB call_isi (by rfl) T.n_isinstance PyProof.Rows.boot_isinstance (pa_cons (pv 0) (pa_cons (pe_bltn (v := .ty "int") (by rfl) T.n_int PyProof.Rows.boot_int rfl) pa_nil))) (pe_one (pe_not (pe_callB call_isi (by rfl) T.n_isinstance PyProof.Rows.boot_isinstance (pa_cons (pv 0) (pa_cons (pe_bltn (v := .ty "bool") (by rfl) T.n_bool PyProof.Rows.boot_bool rfl) pa_nil)))))))), ?_⟩
  obtain ⟨n, rfl, q⟩ := h
  walk_at "go"
  exact q
def spDrawn (K : PySem.W.Frag) : Sp := fun vs H Q _ => ∃ (a : Addr) (ns : List Int), vs = [.ref a] ∧ SqL K H a (ns.map V.int) ∧ ns.length ≤ 63 ∧
  ∀ (p : Addr) (us : List V) (ps : List Pc) (e : Int) (H' : Hp), H p = none → Same H H' → H' p = some (.lst us) → PcsAt H' us ps → Chain 0 ps e → e ≤ 1200 → ps.length ≤ 31 → 0 < ps.length → Q (.ref p) H'
def DrW (a p : Addr) (far : Int) (f4 : Option V) (H : Hp) (i : Nat) (σ : L2.St) (H' : Hp) : Prop :=
  ∃ (k : Int) (us : List V) (ps : List Pc) (x5 x6 x7 : Option V), σ = [some (.ref a), some (.ref p), some (.int k), some (.int far), f4, x5, x6, x7] ∧ Same H H' ∧ H' p = some (.lst us) ∧ PcsAt H' us ps ∧ Chain 0 ps k ∧ k ≤ 30 * (i : Int) ∧ ps.length = i
theorem d_L_drawn {P : Program} {w : World} {base : Heap} {K : PySem.W.Frag} {mg : Str → Option Value} {C_StowError C_Broken C_NoAsk C_NoRoom : Addr} {tk_LEAST_LIVE : Tok} (S : Src K mg "_law_drawn" s_L_drawn) (T : Txt K mg C_StowError C_Broken C_NoAsk C_NoRoom tk_LEAST_LIVE) (D_L_cell_at : Defx P w K mg base "_law_cell_at" 1 ["_law_script", "_law_k"] (spCell K)) : Defx P w K mg base "_law_drawn" 2 ["_law_script"] (spDrawn K) := by
  refine S.okx sc_L_drawn bi_L_drawn (fun vs H Q E h => by revert h; walk_at "len") (fun f cdv A outer s H vs Q E hr h => ?_)
  refine ⟨_, PSs.nox (pss_cons (ps_set (i := 1) sc_L_drawn.nd rfl (Or.inl rfl) (pe_lst pa_nil)) (pss_cons (ps_set (i := 2) sc_L_drawn.nd rfl (Or.inl rfl) pe_int) (pss_cons (ps_set (i := 3) sc_L_drawn.nd rfl (Or.inl rfl) pe_int) (pss_cons (ps_set (i := 4) sc_L_drawn.nd rfl (Or.inl rfl) (pe_callB (call_min2 rfl) (by rfl) T.n_min PyProof.Rows.boot_min (pa_cons (pe_callB call_len_seq (by rfl) T.n_len PySem.boot_len (pa_cons (pv 0) pa_nil)) (pa_cons pe_int pa_nil)))) (pss_cons (ps_if (PW.pt (pw_or (pt_cmpR op_lt (pe_callB call_len_seq (by rfl) T.n_len PySem.boot_len (pa_cons (pv 0) pa_nil)) pe_int (nomark _)) (pw_or1 (pt_cmpR op_eq (pe_op op_mod (pe_op op_fdiv (pe_defq D_L_cell_at hr (by rfl) (pa_cons (pv 0) (pa_cons pe_int pa_nil))) pe_int) pe_int) pe_int (nomark _))))) (pss_cons (ps_set (i := 3) sc_L_drawn.nd rfl (Or.inl rfl) pe_int) (pss_one (ps_set (i := 4) sc_L_drawn.nd rfl (Or.inl rfl) (pe_callB (call_min2 rfl) (by rfl) T.n_min PyProof.Rows.boot_min (pa_cons (pe_callB call_len_seq (by rfl) T.n_len PySem.boot_len (pa_cons (pv 0) pa_nil)) (pa_cons pe_int pa_nil)))))) pss_nil) (pss_cons (ps_for PassesOwn.never rfl (pi_range2 (by rfl) T.n_range (pa_cons pe_int (pa_cons (pe_callB (call_max2 rfl) (by rfl) T.n_max PyProof.Rows.boot_max (pa_cons pe_int (pa_cons (pv 4) pa_nil))) pa_nil))) (pg_name (i := 5) sc_L_drawn.nd rfl (Or.inl rfl)) (pss_cons (ps_set (i := 6) sc_L_drawn.nd rfl (Or.inl rfl) (pe_defq D_L_cell_at hr (by rfl) (pa_cons (pv 0) (pa_cons (pv 5) pa_nil)))) (pss_cons (ps_set (i := 7) sc_L_drawn.nd rfl (Or.inl rfl) (pe_op op_mul (pv 3) (pe_op op_add pe_int (pe_op op_mod (pe_op op_fdiv (pv 6) pe_int) pe_int)))) (pss_cons (ps_if (pt_cmpR op_lt (pe_op op_mod (pv 6) pe_int) pe_int (nomark _)) (pss_one (ps_set (i := 7) sc_L_drawn.nd rfl (Or.inl rfl) (pe_op op_add pe_int (pe_op op_mul (pv 3) (pe_op op_mod (pe_op op_fdiv (pv 6) pe_int) pe_int))))) pss_nil) (pss_cons (ps_expr (pe_bm PySem.F.plainAttrs_list PySem.F.slot_list_append PySem.F.type_list_append mt_append (pv 1) (pa_cons (pe_tup (pa_cons (pv 2) (pa_cons (pv 7) (pa_cons (pe_cmpR op_lt (pe_op op_mod (pv 6) pe_int) pe_int (nomark _)) pa_nil)))) pa_nil))) (pss_one (ps_set (i := 2) sc_L_drawn.nd rfl (Or.inl rfl) (pe_op op_add (pv 2) (pv 7))))))))) (pss_one (ps_ret (pv 1))))))))), ?_⟩
  obtain ⟨a, ns, rfl, hS, hz, q⟩ := h
  walk_at "go"
  intro p hp
  have s1 := Same.new (H := H) (o := .lst []) hp
  have hp1 : upd H p (.lst []) p = some (.lst []) := upd_same
  generalize upd H p (.lst []) = H1 at s1 hp1 ⊢
  have hS1 := s1.seq hS
  walk_at "gs"
  refine r_seqM (M := fun σ' H' => H1 = H' ∧ ∃ far up : Int, (far = 1 ∨ far = 5) ∧ up ≤ 33 ∧ σ' = [some (.ref a), some (.ref p), some (.int 0), some (.int far), some (.int up), none, none, none]) ?_ (fun nx hM => ?_)
  · rintro σ' H' ⟨rfl, far, up, hf, hu, rfl⟩
    walk_at "go"
    refine ⟨⟨by omega, by omega, by first | omega | (split <;> omega), by first | omega | (split <;> omega)⟩, for_range (DrW a p far (some (.int up)) H) ⟨0, [], [], none, none, none, rfl, s1, hp1, PcsAt.nil, rfl, by decide, rfl⟩ ?_ ?_⟩
    · rintro i σ H2 hi ⟨k, us, ps, x5, x6, x7, rfl, s2, hp2, pa, ch, hk, hu2⟩
      have hS2 := s2.seq hS
      have hul := pa.1
      walk_at "gs"
      generalize ns.getD (2 + (i : Int)).toNat 0 = c
      have b1 := Int.emod_nonneg (c / 5) (show (5 : Int) ≠ 0 by decide)
      have b2 := Int.emod_lt_of_pos (c / 5) (show (0 : Int) < 5 by decide)
      have b3 := Int.emod_nonneg (c / 5) (show (6 : Int) ≠ 0 by decide)
      have b4 := Int.emod_lt_of_pos (c / 5) (show (0 : Int) < 6 by decide)
      have m1 : 1 ≤ far * (1 + c / 5 % 5) ∧ far * (1 + c / 5 % 5) ≤ 30 := by rcases hf with rfl | rfl <;> omega
      have m2 : 0 ≤ far * (c / 5 % 6) ∧ far * (c / 5 % 6) ≤ 25 := by rcases hf with rfl | rfl <;> omega
      refine r_seqM (M := fun σ' H' => H2 = H' ∧ ∃ L : Int, 1 ≤ L ∧ (decide (c % 5 < 3) = true → 3 ≤ L) ∧ L ≤ 30 ∧ σ' = [some (.ref a), some (.ref p), some (.int k), some (.int far), some (.int up), some (.int (2 + (i : Int))), some (.int c), some (.int L)]) ?_ (fun nx2 hM2 => ?_)
      · rintro σ' H' ⟨rfl, L, l1, l3, l8, rfl⟩
        walk_at "go"
        intro t ht
        walk_at "go"
        obtain ⟨g1, g2⟩ := PcsAt.push (z := ⟨k, L, decide (c % 5 < 3)⟩) pa hp2 ht
        exact ⟨k + L, us ++ [.ref t], ps ++ [⟨k, L, decide (c % 5 < 3)⟩], _, _, _, rfl, (s2.put (s2.free ht)).put hp, g1, g2, Chain.snoc (p := ⟨k, L, decide (c % 5 < 3)⟩) ch l1 l3, by omega, by rw [List.length_append, List.length_singleton]; omega⟩
      · walk_at "go"
        refine r_ifd (fun hc => ?_) (fun hc => ?_)
        · walk_at "go"
          exact hM2 _ _ ⟨rfl, _, by omega, fun _ => by omega, by omega, rfl⟩
        · walk_at "go"
          exact hM2 _ _ ⟨rfl, _, m1.1, fun z => absurd (of_decide_eq_true z) hc, m1.2, rfl⟩
    · rintro σ H2 ⟨k, us, ps, x5, x6, x7, rfl, s2, hp2, pa, ch, hk, hu2⟩
      walk_at "go"
      exact q p us ps k H2 hp s2 hp2 pa ch (by omega) (by omega) (by omega)
  · walk_at "go"
    refine r_ifd (fun h9 => ?_) (fun h9 => ?_)
    · walk_at "go"
      exact hM _ _ ⟨rfl, 5, _, .inr rfl, by split <;> omega, rfl⟩
    · walk_at "go"
      refine r_ifd (fun h1 => ?_) (fun h1 => ?_)
      · walk_at "go"
        exact hM _ _ ⟨rfl, 5, _, .inr rfl, by split <;> omega, rfl⟩
      · walk_at "go"
        exact hM _ _ ⟨rfl, 1, _, .inl rfl, by split <;> omega, rfl⟩
def spRoom : Sp := fun vs H Q _ => ∃ (b : Addr) (us : List V) (ps : List Pc) (e sd : Int), vs = [.ref b, .int sd] ∧ H b = some (.lst us) ∧ PcsAt H us ps ∧ Chain 0 ps e ∧ e ≤ 3900 ∧ 0 < ps.length ∧
  ∀ (p : Addr) (cs : List Int) (H' : Hp), H p = none → Same H H' → H' p = some (.lst (cs.map V.int)) → (cs.length : Int) = e → Marks cs ps → Q (.ref p) H'
def InW (H1 : Hp) (D : Addr) (i : Nat) (ys : List V) (H2 : Hp) : Prop := Same H1 H2 ∧ H2 D = some (.lst ys) ∧ ∃ ms : List Int, ys = ms.map V.int ∧ ms.length = i
def RmW (b p : Addr) (f1 f2 : Option V) (ps : List Pc) (n : Int) (H : Hp) (i : Nat) (σ : L2.St) (H' : Hp) : Prop :=
  ∃ (cs : List Int) (x4 x5 x6 : Option V), σ = [some (.ref b), f1, f2, some (.ref p), x4, x5, x6] ∧ Same H H' ∧ H' p = some (.lst (cs.map V.int)) ∧ (cs.length : Int) = n ∧ Marks cs (ps.take i)
theorem d_L_room {P : Program} {w : World} {base : Heap} {K : PySem.W.Frag} {mg : Str → Option Value} {C_StowError C_Broken C_NoAsk C_NoRoom : Addr} {tk_LEAST_LIVE : Tok} (S : Src K mg "_law_room" s_L_room) (T : Txt K mg C_StowError C_Broken C_NoAsk C_NoRoom tk_LEAST_LIVE)  : Defx P w K mg base "_law_room" 1 ["_law_pieces", "_law_seed"] (spRoom) := by
  refine S.okx sc_L_room bi_L_room (fun vs H Q E h => by revert h; walk_at "len") (fun f cdv A outer s H vs Q E hr h => ?_)
  refine ⟨_, PSs.nox (pss_cons (ps_set (i := 2) sc_L_room.nd rfl (Or.inl rfl) (pe_op op_add (pe_ix ix_tup (pe_ix ix_list (pv 0) (pe_op op_sub (pe_callB call_len_seq (by rfl) T.n_len PySem.boot_len (pa_cons (pv 0) pa_nil)) pe_int) (fun _ _ => rfl)) pe_int (fun _ _ => rfl)) (pe_ix ix_tup (pe_ix ix_list (pv 0) (pe_op op_sub (pe_callB call_len_seq (by rfl) T.n_len PySem.boot_len (pa_cons (pv 0) pa_nil)) pe_int) (fun _ _ => rfl)) pe_int (fun _ _ => rfl)))) (pss_cons (ps_setCompG (i := 3) ["_law_k"] ["_law_seed"] [1] sc_L_room.nd rfl (Or.inl rfl) rfl (pi_range1 (by rfl) T.n_range (pa_cons (pv 2) pa_nil)) (fun cl C s₀ H₀ ex => (pg_name (i := 0) (show ((["_law_k"] : List Str) ++ (["_law_seed"] : List Str)).Nodup by decide +kernel) rfl (Or.inl rfl))) (fun cl C s₀ H₀ ex => pts_nil) (fun cl C s₀ H₀ ex => (pe_op op_mod (pe_op op_mod (pe_op op_add (pe_op op_mul (pv 1) pe_int) (pe_op op_mul (pe_op op_mul pe_int (pv 0)) (pv 0))) pe_int) pe_int)) (caught_one rfl rfl rfl) (free_one (n := "_law_seed") (by decide +kernel) rfl) (fun y h => relabel_free (by decide +kernel) h)) (pss_cons (ps_if (pt_cmpR op_eq (pe_op op_mod (pv 1) pe_int) pe_int (nomark _)) (pss_one (ps_setCompG (i := 3) ["_law_k"] ["_law_seed"] [1] sc_L_room.nd rfl (Or.inl rfl) rfl (pi_range1 (by rfl) T.n_range (pa_cons (pv 2) pa_nil)) (fun cl C s₀ H₀ ex => (pg_name (i := 0) (show ((["_law_k"] : List Str) ++ (["_law_seed"] : List Str)).Nodup by decide +kernel) rfl (Or.inl rfl))) (fun cl C s₀ H₀ ex => pts_nil) (fun cl C s₀ H₀ ex => (pe_op op_sub (pe_op op_mod (pe_op op_mul (pe_op op_mul (pv 1) (pe_op op_add (pv 0) pe_int)) pe_int) (pe_op op_pow pe_int pe_int)) (pe_op op_mul (pe_op op_pow pe_int pe_int) (pe_op op_mod (pv 0) pe_int)))) (caught_one rfl rfl rfl) (free_one (n := "_law_seed") (by decide +kernel) rfl) (fun y h => relabel_free (by decide +kernel) h))) pss_nil) (pss_cons (ps_for PassesOwn.never rfl (pi_list (pv 0)) (pg_tup rfl (pgs_cons (pg_name (i := 4) sc_L_room.nd rfl (Or.inl rfl)) (pgs_cons (pg_name (i := 5) sc_L_room.nd rfl (Or.inl rfl)) (pgs_cons (pg_name (i := 6) sc_L_room.nd rfl (Or.inl rfl)) pgs_nil)))) (pss_cons (ps_asg (pe_op op_add (pe_op op_mul pe_int (pv 5)) (pe_callTy call_int1 (by rfl) T.n_int PyProof.Rows.boot_int (pa_cons (pv 6) pa_nil))) (pg_sub (pv 3) (pv 4) set_list)) (pss_one (ps_asg (pe_op op_add (pe_op op_mul pe_int (pv 5)) (pe_callTy call_int1 (by rfl) T.n_int PyProof.Rows.boot_int (pa_cons (pv 6) pa_nil))) (pg_sub (pv 3) (pe_op op_sub (pe_op op_add (pv 4) (pv 5)) pe_int) set_list))))) (pss_one (ps_ret (pv 3))))))), ?_⟩
  obtain ⟨b, us, ps, e, sd, rfl, hb, pa, hc, he, hpos, q⟩ := h
  have hul := pa.1
  have hle := hc.le
  obtain ⟨z, hz⟩ : ∃ z, ps[ps.length - 1]? = some z := ⟨_, List.getElem?_eq_getElem (by omega)⟩
  have ez := chain_last hc hz (by omega)
  obtain ⟨t, et, hT⟩ := pa.2 _ z hz
  rw [← hul] at et
  walk_at "go"
  refine r_ixEnd (SqL.of hb) et rfl ?_
  walk_at "go"
  refine r_ixEnd (SqL.of hb) et rfl ?_
  walk_at "go"
  rw [ez]
  refine ⟨_, rfl, by omega, by omega, compH_range (fs := [some (.int sd)]) (InW H) (fun D hD => ⟨Same.new hD, upd_same, [], rfl, rfl⟩) ?_ ?_⟩
  · rintro D i ys H2 hD hi ⟨s2, hD2, ms, rfl, hm⟩ τ hτ
    match τ, hτ with
    | [τ0], _ =>
      walk_at "go"
      refine ⟨⟨[_], rfl, rfl⟩, ?_⟩
      walk_at "go"
      refine ⟨hD2, small4000 (by rw [List.length_map]; omega), nx_mk hi ⟨s2.put hD, upd_same, ms ++ [_], by rw [List.map_append]; rfl, by rw [List.length_append, List.length_singleton, hm]⟩⟩
  · rintro D ys H2 hD ⟨s2, hD2, ms, rfl, hm⟩
    walk_at "gs"
    refine r_seqM (M := fun σ' H' => ∃ (p : Addr) (cs : List Int), H p = none ∧ Same H H' ∧ H' p = some (.lst (cs.map V.int)) ∧ (cs.length : Int) = e ∧ σ' = [some (.ref b), some (.int sd), some (.int e), some (.ref p), none, none, none]) ?_ (fun nx hM => ?_)
    · rintro σ' H' ⟨p, cs, hp, s3, hp3, hcl, rfl⟩
      walk_at "go"
      refine ⟨b, rfl, ⟨_, SqL.of (s3 b _ hb)⟩, for_list (K := K) (a := b) (xs := us) (RmW b p (some (.int sd)) (some (.int e)) ps e H) ⟨cs, none, none, none, rfl, s3, hp3, hcl, Marks.nil _⟩ (fun i σ H2 _ ⟨_, _, _, _, _, s2, _⟩ => SqL.of (s2 b _ hb)) ?_ ?_⟩
      · rintro i y σ H4 hi ⟨cs, x4, x5, x6, rfl, s4, hp4, hcl, mk⟩
        obtain ⟨t, z, rfl, hz1, hT⟩ := pcs_get (pa.same s4) hi
        obtain ⟨z0, z1, z3, z4⟩ := hc.mem z (List.mem_of_getElem? hz1)
        obtain ⟨ds, rs, e1, e2, c1, c2⟩ := chain_split hc hz1
        have etk : ps.take (i + 1) = ps.take i ++ [z] := by rw [List.take_add_one, hz1]; rfl
        have eds : ps.take i = ds := by rw [e1, ← e2, List.take_left']; rfl
        have hpt : t ≠ p := fun z => by rw [z, hp4] at hT; cases hT
        walk_at "go"
        refine ⟨_, _, _, _, rfl, (s4.put hp).put hp, upd_same, by rw [List.length_set, List.length_set]; exact hcl, ?_⟩
        rw [etk]
        have mk2 : Marks (laidI cs z.a z.l z.v) (ps.take i ++ [z]) := Marks.lay (rs := []) z0 z1 (by omega) (by rw [eds]; exact c1.endBy (by omega)) (fun p hp => by cases hp) (by rw [List.append_nil]; exact mk)
        unfold laidI at mk2
        rw [Int.mul_comm] at mk2
        exact mk2
      · rintro σ H4 ⟨cs, x4, x5, x6, rfl, s4, hp4, hcl, mk⟩
        rw [List.take_of_length_le (by omega)] at mk
        walk_at "go"
        exact q p cs H4 hp s4 hp4 hcl mk
    · walk_at "go"
      refine r_ifd (fun h0 => ?_) (fun h0 => ?_)
      · walk_at "go"
        refine ⟨_, rfl, by omega, by omega, compH_range (fs := [some (.int sd)]) (InW H2) (fun D hD => ⟨Same.new hD, upd_same, [], rfl, rfl⟩) ?_ ?_⟩
        · rintro D i ys H3 hD hi ⟨s3, hD3, ms, rfl, hm⟩ τ hτ
          match τ, hτ with
          | [τ0], _ =>
            walk_at "go"
            refine ⟨⟨[_], rfl, rfl⟩, ?_⟩
            walk_at "go"
            refine ⟨hD3, small4000 (by rw [List.length_map]; omega), nx_mk hi ⟨s3.put hD, upd_same, ms ++ [_], by rw [List.map_append]; rfl, by rw [List.length_append, List.length_singleton, hm]⟩⟩
        · rintro D2 ys H3 hD2' ⟨s3, hD3, ms2, rfl, hm2⟩
          walk_at "go"
          exact hM _ _ ⟨D2, ms2, s2.free hD2', s2.trans s3, hD3, by omega, rfl⟩
      · walk_at "go"
        exact hM _ _ ⟨D, ms, hD, s2, hD2, by omega, rfl⟩
def spWalkC (K : PySem.W.Frag) : Sp := fun vs H Q _ => ∃ (r : Addr) (cs : List Int) (ps : List Pc), vs = [.ref r] ∧ H r = some (.lst (cs.map V.int)) ∧ Chain 0 ps cs.length ∧ Marks cs ps ∧ cs.length ≤ 1200 ∧ ∀ (p : Addr) (us : List V) (H' : Hp), H p = none → Same H H' → H' p = some (.lst us) → PcsAt H' us ps → Q (.ref p) H'
def WkW (r p : Addr) (n : Int) (ps : List Pc) (H : Hp) (m : Nat) (σ : L2.St) (H' : Hp) : Prop :=
  ∃ (ds rs : List Pc) (us : List V) (k : Int) (x3 x4 : Option V), σ = [some (.ref r), some (.ref p), some (.int k), x3, x4] ∧ m = (n - k).toNat ∧ ps = ds ++ rs ∧ Chain 0 ds k ∧ Chain k rs n ∧ Same H H' ∧ H' p = some (.lst us) ∧ PcsAt H' us ds
theorem d_L_walk {P : Program} {w : World} {base : Heap} {K : PySem.W.Frag} {mg : Str → Option Value} {C_StowError C_Broken C_NoAsk C_NoRoom : Addr} {tk_LEAST_LIVE : Tok} (S : Src K mg "_law_walk" s_L_walk) (T : Txt K mg C_StowError C_Broken C_NoAsk C_NoRoom tk_LEAST_LIVE) (D_L_whole : Defx P w K mg base "_law_whole" 1 ["_law_found"] (spWhole)) : Defx P w K mg base "_law_walk" 2 ["_law_cells"] (spWalkC K) := by
  refine S.okx sc_L_walk bi_L_walk (fun vs H Q E h => by revert h; walk_at "len") (fun f cdv A outer s H vs Q E hr h => ?_)
  refine ⟨_, PSs.nox (pss_cons (ps_if (pt_not (pt_val (pe_callB call_isi (by rfl) T.n_isinstance PyProof.Rows.boot_isinstance (pa_cons (pv 0) (pa_cons (pe_bltn (v := .ty "list") (by rfl) T.n_list PyProof.Rows.boot_list rfl) pa_nil))))) (pss_one (ps_ret pe_non)) pss_nil) (pss_cons (ps_set (i := 1) sc_L_walk.nd rfl (Or.inl rfl) (pe_lst pa_nil)) (pss_cons (ps_set (i := 2) sc_L_walk.nd rfl (Or.inl rfl) pe_int) (pss_cons (ps_while PassesOwn.never (pt_cmpR op_lt (pv 2) (pe_callB call_len_seq (by rfl) T.n_len PySem.boot_len (pa_cons (pv 0) pa_nil)) (nomark _)) (pss_cons (ps_if (pt_not (pt_val (pe_defq D_L_whole hr (by rfl) (pa_cons (pe_ix ix_list (pv 0) (pv 2) (fun _ _ => rfl)) pa_nil)))) (pss_one (ps_ret pe_non)) pss_nil) (pss_cons (ps_set (i := 3) sc_L_walk.nd rfl (Or.inl rfl) (pe_op op_fdiv (pe_ix ix_list (pv 0) (pv 2) (fun _ _ => rfl)) pe_int)) (pss_cons (ps_set (i := 4) sc_L_walk.nd rfl (Or.inl rfl) (pe_cmpR op_eq (pe_op op_mod (pe_ix ix_list (pv 0) (pv 2) (fun _ _ => rfl)) pe_int) pe_int (nomark _))) (pss_cons (ps_if (PW.pt (pw_or (pt_cmpR op_lt (pv 3) pe_int (nomark _)) (pw_or (pt_cmpR op_gt (pe_op op_add (pv 2) (pv 3)) (pe_callB call_len_seq (by rfl) T.n_len PySem.boot_len (pa_cons (pv 0) pa_nil)) (nomark _)) (pw_or1 (PW.pt (pw_and (pt_truth (pv 4) (fun _ => rfl)) (pw_and1 (pt_cmpR op_lt (pv 3) pe_int (nomark _))))))))) (pss_one (ps_ret pe_non)) pss_nil) (pss_cons (ps_if (PW.pt (pw_or (pt_not (pt_val (pe_defq D_L_whole hr (by rfl) (pa_cons (pe_ix ix_list (pv 0) (pe_op op_sub (pe_op op_add (pv 2) (pv 3)) pe_int) (fun _ _ => rfl)) pa_nil)))) (pw_or1 (pt_cmpR op_ne (pe_ix ix_list (pv 0) (pe_op op_sub (pe_op op_add (pv 2) (pv 3)) pe_int) (fun _ _ => rfl)) (pe_ix ix_list (pv 0) (pv 2) (fun _ _ => rfl)) (nomark _))))) (pss_one (ps_ret pe_non)) pss_nil) (pss_cons (ps_expr (pe_bm PySem.F.plainAttrs_list PySem.F.slot_list_append PySem.F.type_list_append mt_append (pv 1) (pa_cons (pe_tup (pa_cons (pv 2) (pa_cons (pv 3) (pa_cons (pv 4) pa_nil)))) pa_nil))) (pss_one (ps_set (i := 2) sc_L_walk.nd rfl (Or.inl rfl) (pe_op op_add (pv 2) (pv 3))))))))))) (pss_one (ps_ret (pv 1))))))), ?_⟩
  obtain ⟨r, cs, ps, rfl, hR, hc, mk, hz, q⟩ := h
  walk_at "go"
  intro p hp
  walk_at "go"
  refine ⟨WkW r p cs.length ps H, ⟨_, [], ps, [], 0, none, none, rfl, rfl, rfl, rfl, hc, Same.new hp, upd_same, PcsAt.nil⟩, ?_⟩
  rintro m σ H1 ⟨ds, rs, us, k, x3, x4, rfl, rfl, eps, c1, c2, s1, hp1, pu⟩
  have hul := pu.1
  have hS1 : SqL K H1 r (cs.map V.int) := SqL.of (s1 r _ hR)
  have k0 := c1.le
  walk_at "go"
  refine r_ifd (fun hlt => ?_) (fun hlt => ?_)
  · refine ⟨fun σ' H'' => ∃ m', m' < ((cs.length : Int) - k).toNat ∧ WkW r p cs.length ps H m' σ' H'', fun σ' H'' hw => hw, ?_⟩
    cases rs with
    | nil =>
      have : k = cs.length := c2
      omega
    | cons z r2 =>
      obtain ⟨ea, z1, z3, c3⟩ := c2
      have hle := c3.le
      obtain ⟨m1, m2⟩ := mk z (by rw [eps]; simp)
      have g1 := getD_of m1
      have g2 := getD_of m2
      rw [ea] at g1 g2
      have e1 : cs.getD k.toNat 0 = mkOf z.l z.v := g1
      have e2 : cs.getD (k + z.l - 1).toNat 0 = mkOf z.l z.v := g2
      walk_at "g1"
      walk_at "g1"
      rw [e1, mk_long]
      walk_at "g1"
      rw [e1, mk_live]
      have hkl : ds.length ≤ 1200 := by omega
      walk_at "gs"
      refine r_seqM (M := fun σ' H' => H1 = H' ∧ σ' = [some (.ref r), some (.ref p), some (.int k), some (.int z.l), some (.bl z.v)]) ?_ (fun nx hM => ?_)
      · rintro σ' H' ⟨rfl, rfl⟩
        walk_at "go"
        intro t ht
        walk_at "go"
        obtain ⟨g1, g2⟩ := PcsAt.push (z := z) pu hp1 ht
        rw [ea] at g2
        refine ⟨_, ?_, ds ++ [z], r2, _, k + z.l, _, _, rfl, rfl, by rw [eps]; simp, ?_, c3, (s1.put (s1.free ht)).put hp, upd_same, g2⟩
        · omega
        · have := Chain.snoc (p := z) (by rw [ea]; exact c1) z1 z3
          rwa [ea] at this
      · walk_at "go"
        refine r_ifb (fun hv => ?_) (fun hv => ?_)
        · have := z3 hv
          walk_at "go"
          exact hM _ _ ⟨rfl, rfl⟩
        · walk_at "go"
          exact hM _ _ ⟨rfl, rfl⟩
  · have er : rs = [] := by
      cases rs with
      | nil => rfl
      | cons z r2 =>
        have := c2.le
        rw [List.length_cons] at this
        omega
    rw [er, List.append_nil] at eps
    subst eps
    walk_at "go"
    exact q p us H1 hp s1 hp1 pu
def spGaps : Sp := fun vs H Q _ => ∃ (b : Addr) (us : List V) (ps : List Pc) (n : Int), vs = [.ref b, .int n] ∧ H b = some (.lst us) ∧ PcsAt H us ps ∧ ps.length ≤ 1300 ∧ ∀ (p : Addr) (H' : Hp), H p = none → Same H H' → H' p = some (.lst ((gapF ps n).map V.int)) → Q (.ref p) H'
def GaW (b p : Addr) (n : Int) (ps : List Pc) (H : Hp) (i : Nat) (σ : L2.St) (H' : Hp) : Prop :=
  ∃ x4 : Option V, σ = [some (.ref b), some (.int n), some (.ref p), some (.int (gpF (ps.take i)).2), x4] ∧ Same H H' ∧ H' p = some (.lst ((gpF (ps.take i)).1.map V.int)) ∧ (gpF (ps.take i)).1.length ≤ i
theorem d_L_gaps {P : Program} {w : World} {base : Heap} {K : PySem.W.Frag} {mg : Str → Option Value} {C_StowError C_Broken C_NoAsk C_NoRoom : Addr} {tk_LEAST_LIVE : Tok} (S : Src K mg "_law_gaps" s_L_gaps) (T : Txt K mg C_StowError C_Broken C_NoAsk C_NoRoom tk_LEAST_LIVE)  : Defx P w K mg base "_law_gaps" 1 ["_law_pieces", "_law_size"] (spGaps) := by
  refine S.okx sc_L_gaps bi_L_gaps (fun vs H Q E h => by revert h; walk_at "len") (fun f cdv A outer s H vs Q E hr h => ?_)
  refine ⟨_, PSs.nox (pss_cons (ps_set (i := 2) sc_L_gaps.nd rfl (Or.inl rfl) (pe_lst pa_nil)) (pss_cons (ps_set (i := 3) sc_L_gaps.nd rfl (Or.inl rfl) pe_int) (pss_cons (ps_for PassesOwn.never rfl (pi_list (pv 0)) (pg_name (i := 4) sc_L_gaps.nd rfl (Or.inl rfl)) (pss_one (ps_if (pt_truth (pe_ix ix_tup (pv 4) pe_int (fun _ _ => rfl)) (fun _ => rfl)) (pss_cons (ps_expr (pe_bm PySem.F.plainAttrs_list PySem.F.slot_list_append PySem.F.type_list_append mt_append (pv 2) (pa_cons (pe_op op_sub (pe_ix ix_tup (pv 4) pe_int (fun _ _ => rfl)) (pv 3)) pa_nil))) (pss_one (ps_set (i := 3) sc_L_gaps.nd rfl (Or.inl rfl) (pe_op op_add (pe_ix ix_tup (pv 4) pe_int (fun _ _ => rfl)) (pe_ix ix_tup (pv 4) pe_int (fun _ _ => rfl)))))) pss_nil))) (pss_cons (ps_expr (pe_bm PySem.F.plainAttrs_list PySem.F.slot_list_append PySem.F.type_list_append mt_append (pv 2) (pa_cons (pe_op op_sub (pv 1) (pv 3)) pa_nil))) (pss_one (ps_ret (pv 2))))))), ?_⟩
  obtain ⟨b, us, ps, n, rfl, hb, pa, hz, q⟩ := h
  have hul := pa.1
  walk_at "go"
  intro p hp
  walk_at "go"
  refine ⟨b, rfl, ⟨_, SqL.of ((Same.new hp) b _ hb)⟩, for_list (K := K) (a := b) (xs := us) (GaW b p n ps H) ⟨none, rfl, Same.new hp, upd_same, Nat.le_refl _⟩ (fun i σ H2 _ ⟨_, _, s2, _⟩ => SqL.of (s2 b _ hb)) ?_ ?_⟩
  · rintro i y σ H2 hi ⟨x4, rfl, s2, hp2, hgl⟩
    have hil : i < us.length := (List.getElem?_eq_some_iff.mp hi).1
    obtain ⟨t, z, rfl, hz1, hT⟩ := pcs_get (pa.same s2) hi
    have hst := gpF_take hz1
    unfold gp at hst
    cases hv : z.v with
    | false =>
      rw [hv, if_neg Bool.false_ne_true] at hst
      rw [hv] at hT
      walk_at "go"
      exact ⟨_, by rw [hst], s2, by rw [hst]; exact hp2, by rw [hst]; omega⟩
    | true =>
      rw [hv, if_pos rfl] at hst
      rw [hv] at hT
      generalize gpF (ps.take i) = A at hst hp2 hgl
      have hpt : t ≠ p := fun z => by rw [z, hp2] at hT; cases hT
      walk_at "go"
      refine ⟨_, by rw [hst], s2.put hp, by rw [hst]; exact upd_same, ?_⟩
      rw [hst]
      show (A.1 ++ [z.a - A.2]).length ≤ i + 1
      rw [List.length_append, List.length_singleton]
      omega
  · rintro σ H2 ⟨x4, rfl, s2, hp2, hgl⟩
    rw [List.take_of_length_le (by omega)] at hp2 hgl ⊢
    walk_at "go"
    exact q p _ hp (s2.put hp) upd_same
def spMoved (K : PySem.W.Frag) : Sp := fun vs H Q _ => ∃ (a b c : Addr) (L G O : List Int), vs = [.ref a, .ref b, .ref c] ∧ SqL K H a (L.map V.int) ∧ SqL K H b (G.map V.int) ∧ SqL K H c (O.map V.int) ∧ L.length ≤ G.length ∧ L.length ≤ O.length ∧ L.length ≤ 1300 ∧ Q (.int (mvS L G O L.length)) H
def MoW (f0 f1 f2 : Option V) (L G O : List Int) (H : Hp) (i : Nat) (σ : L2.St) (H' : Hp) : Prop :=
  H = H' ∧ ∃ (mv sp ot : Int) (x6 : Option V), σ = [f0, f1, f2, some (.int mv), some (.int sp), some (.int ot), x6] ∧ mv = mvS L G O i ∧ sp = pre G i + pre L i ∧ ot = pre O i + pre L i
theorem d_L_moved {P : Program} {w : World} {base : Heap} {K : PySem.W.Frag} {mg : Str → Option Value} {C_StowError C_Broken C_NoAsk C_NoRoom : Addr} {tk_LEAST_LIVE : Tok} (S : Src K mg "_law_moved" s_L_moved) (T : Txt K mg C_StowError C_Broken C_NoAsk C_NoRoom tk_LEAST_LIVE)  : Defx P w K mg base "_law_moved" 1 ["_law_longs", "_law_gaps_here", "_law_others"] (spMoved K) := by
  refine S.okx sc_L_moved bi_L_moved (fun vs H Q E h => by revert h; walk_at "len") (fun f cdv A outer s H vs Q E hr h => ?_)
  refine ⟨_, PSs.nox (pss_cons (ps_set (i := 3) sc_L_moved.nd rfl (Or.inl rfl) pe_int) (pss_cons (ps_set (i := 4) sc_L_moved.nd rfl (Or.inl rfl) pe_int) (pss_cons (ps_set (i := 5) sc_L_moved.nd rfl (Or.inl rfl) pe_int) (pss_cons (ps_for PassesOwn.never rfl (pi_range1 (by rfl) T.n_range (pa_cons (pe_callB call_len_seq (by rfl) T.n_len PySem.boot_len (pa_cons (pv 0) pa_nil)) pa_nil)) (pg_name (i := 6) sc_L_moved.nd rfl (Or.inl rfl)) (pss_cons (ps_set (i := 4) sc_L_moved.nd rfl (Or.inl rfl) (pe_op op_add (pv 4) (pe_ix ix_list (pv 1) (pv 6) (fun _ _ => rfl)))) (pss_cons (ps_set (i := 5) sc_L_moved.nd rfl (Or.inl rfl) (pe_op op_add (pv 5) (pe_ix ix_list (pv 2) (pv 6) (fun _ _ => rfl)))) (pss_cons (ps_if (pt_cmpR op_ne (pv 4) (pv 5) (nomark _)) (pss_one (ps_set (i := 3) sc_L_moved.nd rfl (Or.inl rfl) (pe_op op_add (pv 3) (pe_ix ix_list (pv 0) (pv 6) (fun _ _ => rfl))))) pss_nil) (pss_cons (ps_set (i := 4) sc_L_moved.nd rfl (Or.inl rfl) (pe_op op_add (pv 4) (pe_ix ix_list (pv 0) (pv 6) (fun _ _ => rfl)))) (pss_one (ps_set (i := 5) sc_L_moved.nd rfl (Or.inl rfl) (pe_op op_add (pv 5) (pe_ix ix_list (pv 0) (pv 6) (fun _ _ => rfl)))))))))) (pss_one (ps_ret (pv 3))))))), ?_⟩
  obtain ⟨a, b, c, L, G, O, rfl, hA, hB, hC, h1, h2, hz, q⟩ := h
  walk_at "go"
  refine ⟨_, rfl, by omega, by omega, for_range (MoW (some (.ref a)) (some (.ref b)) (some (.ref c)) L G O H) ⟨rfl, 0, 0, 0, none, rfl, rfl, rfl, rfl⟩ ?_ ?_⟩
  · rintro i σ H2 hi ⟨rfl, mv, sp, ot, x6, rfl, e1, e2, e3⟩
    have hil : i < L.length := by omega
    have p1 := pre_one G i
    have p2 := pre_one O i
    have p3 := pre_one L i
    have p4 : mvS L G O (i + 1) = mvS L G O i + (if pre G (i + 1) = pre O (i + 1) then 0 else L.getD i 0) := rfl
    rw [show (0 : Int) + (i : Int) = i by omega]
    walk_at "go"
    rw [Int.toNat_natCast]
    refine r_ifd (fun h3 => ?_) (fun h3 => ?_)
    · walk_at "go"
      rw [Int.toNat_natCast]
      refine ⟨rfl, _, _, _, _, rfl, ?_, by omega, by omega⟩
      rw [p4, if_pos (by omega)]
      omega
    · walk_at "go"
      rw [Int.toNat_natCast]
      refine ⟨rfl, _, _, _, _, rfl, ?_, by omega, by omega⟩
      rw [p4, if_neg (by omega)]
      omega
  · rintro σ H2 ⟨rfl, mv, sp, ot, x6, rfl, e1, e2, e3⟩
    subst e1
    walk_at "go"
    rw [Int.toNat_natCast]
    exact q
theorem getD_set (O : List Int) (i j : Nat) (x : Int) (hi : i < O.length) : (O.set i x).getD j 0 = if i = j then x else O.getD j 0 := by
  rw [List.getD_eq_getElem?_getD, List.getElem?_set, List.getD_eq_getElem?_getD]
  by_cases e : i = j
  · subst e
    rw [if_pos rfl, if_pos hi, if_pos rfl]
    rfl
  · rw [if_neg e, if_neg e]
theorem pre_set (O : List Int) (i : Nat) (x : Int) (hi : i < O.length) : ∀ n, pre (O.set i x) n = pre O n + (if i < n then x - O.getD i 0 else 0)
  | 0 => by simp [pre]
  | n + 1 => by
    rw [pre_one, pre_one, pre_set O i x hi n, getD_set O i n x hi]
    by_cases e : i = n
    · subst e
      rw [if_neg (by omega), if_pos rfl, if_pos (by omega)]
      omega
    · rw [if_neg e]
      by_cases h : i < n
      · rw [if_pos h, if_pos (by omega)]; omega
      · rw [if_neg h, if_neg (by omega)]; omega
theorem pre_single {O : List Int} {h : Nat} : ∀ n, (∀ i, i < n → i ≠ h → O.getD i 0 = 0) → pre O n = if h < n then O.getD h 0 else 0
  | 0, _ => by simp [pre]
  | n + 1, hz => by
    rw [pre_one, pre_single n fun i h1 h2 => hz i (by omega) h2]
    by_cases e : h = n
    · subst e
      rw [if_neg (by omega), if_pos (by omega)]
      omega
    · have := hz n (by omega) (fun z => e z.symm)
      by_cases hl : h < n
      · rw [if_pos hl, if_pos (by omega)]; omega
      · rw [if_neg hl, if_neg (by omega)]; omega
/-- cells taken of one gap for another -/
theorem taken {O : List Int} {h j : Nat} {t : Int} (hh : h < O.length) (hj : j < O.length) (hne : j ≠ h) (h0 : ∀ i, 0 ≤ O.getD i 0) (t0 : 0 ≤ t) (t1 : t ≤ O.getD j 0) :
    ((O.set j (O.getD j 0 - t)).set h ((O.set j (O.getD j 0 - t)).getD h 0 + t)).length = O.length ∧ (∀ i, ((O.set j (O.getD j 0 - t)).set h ((O.set j (O.getD j 0 - t)).getD h 0 + t)).getD i 0 = if h = i then O.getD h 0 + t else if j = i then O.getD j 0 - t else O.getD i 0) ∧
    (∀ i, 0 ≤ ((O.set j (O.getD j 0 - t)).set h ((O.set j (O.getD j 0 - t)).getD h 0 + t)).getD i 0) ∧ pre ((O.set j (O.getD j 0 - t)).set h ((O.set j (O.getD j 0 - t)).getD h 0 + t)) O.length = pre O O.length := by
  have l1 : (O.set j (O.getD j 0 - t)).length = O.length := List.length_set
  have e1 : (O.set j (O.getD j 0 - t)).getD h 0 = O.getD h 0 := by rw [getD_set _ _ _ _ hj, if_neg hne]
  have eg : ∀ i, ((O.set j (O.getD j 0 - t)).set h ((O.set j (O.getD j 0 - t)).getD h 0 + t)).getD i 0 = if h = i then O.getD h 0 + t else if j = i then O.getD j 0 - t else O.getD i 0 := fun i => by
    rw [getD_set _ _ _ _ (by omega), e1, getD_set _ _ _ _ hj]
  refine ⟨by rw [List.length_set, List.length_set], eg, fun i => ?_, ?_⟩
  · rw [eg i]
    have := h0 h
    have := h0 i
    split
    · omega
    · split <;> omega
  · rw [pre_set _ _ _ (by omega), pre_set _ _ _ hj, e1, if_pos hh, if_pos hj]
    omega
def spOther (K : PySem.W.Frag) : Sp := fun vs H Q _ => ∃ (g : Addr) (G : List Int) (nd c : Int), vs = [.ref g, .int nd, .int c] ∧ SqL K H g (G.map V.int) ∧ 0 < G.length ∧ G.length ≤ 1300 ∧ (∀ i, 0 ≤ G.getD i 0) ∧ nd ≤ pre G G.length ∧
  ∀ (p : Addr) (O : List Int) (h : Nat) (H' : Hp), H p = none → Same H H' → H' p = some (.lst (O.map V.int)) → O.length = G.length → (∀ i, 0 ≤ O.getD i 0) → pre O G.length = pre G G.length → h < G.length → nd ≤ O.getD h 0 → Q (.ref p) H'
def OtW (g p : Addr) (G : List Int) (nd c : Int) (h : Nat) (H : Hp) (m : Nat) (σ : L2.St) (H' : Hp) : Prop :=
  ∃ (O : List Int) (l r bt : Int) (x8 : Option V), σ = [some (.ref g), some (.int nd), some (.int c), some (.int h), some (.ref p), some (.int l), some (.int r), some (.int bt), x8] ∧ m = (l + 1 + (G.length - r)).toNat ∧ -1 ≤ l ∧ l < h ∧ (h : Int) < r ∧ r ≤ G.length ∧
    Same H H' ∧ H' p = some (.lst (O.map V.int)) ∧ O.length = G.length ∧ (∀ i, 0 ≤ O.getD i 0) ∧ pre O G.length = pre G G.length ∧ (nd ≤ O.getD h 0 ∨ ∀ i : Nat, l < i → (i : Int) < r → i ≠ h → O.getD i 0 = 0)
theorem d_L_other {P : Program} {w : World} {base : Heap} {K : PySem.W.Frag} {mg : Str → Option Value} {C_StowError C_Broken C_NoAsk C_NoRoom : Addr} {tk_LEAST_LIVE : Tok} (S : Src K mg "_law_other" s_L_other) (T : Txt K mg C_StowError C_Broken C_NoAsk C_NoRoom tk_LEAST_LIVE)  : Defx P w K mg base "_law_other" 1 ["_law_gaps_here", "_law_need", "_law_cell"] (spOther K) := by
  refine S.okx sc_L_other bi_L_other (fun vs H Q E h => by revert h; walk_at "len") (fun f cdv A outer s H vs Q E hr h => ?_)
  refine ⟨_, PSs.nox (pss_cons (ps_set (i := 3) sc_L_other.nd rfl (Or.inl rfl) (pe_op op_mod (pv 2) (pe_callB call_len_seq (by rfl) T.n_len PySem.boot_len (pa_cons (pv 0) pa_nil)))) (pss_cons (ps_set (i := 4) sc_L_other.nd rfl (Or.inl rfl) (pe_callTy call_list_of (by rfl) T.n_list PyProof.Rows.boot_list (pa_cons (pv 0) pa_nil))) (pss_cons (ps_set (i := 5) sc_L_other.nd rfl (Or.inl rfl) (pe_op op_sub (pv 3) pe_int)) (pss_cons (ps_set (i := 6) sc_L_other.nd rfl (Or.inl rfl) (pe_op op_add (pv 3) pe_int)) (pss_cons (ps_set (i := 7) sc_L_other.nd rfl (Or.inl rfl) (pe_op op_mod (pe_op op_mul (pv 2) pe_int) pe_int)) (pss_cons (ps_while PassesOwn.never (pt_cmpR op_lt (pe_ix ix_list (pv 4) (pv 3) (fun _ _ => rfl)) (pv 1) (nomark _)) (pss_cons (ps_set (i := 7) sc_L_other.nd rfl (Or.inl rfl) (pe_op op_add (pe_op op_mod (pe_op op_mul (pv 7) pe_int) pe_int) pe_int)) (pss_cons (ps_set (i := 8) sc_L_other.nd rfl (Or.inl rfl) pe_int) (pss_cons (ps_if (PW.pt (pw_and (pt_cmpR op_ge (pv 5) pe_int (nomark _)) (pw_and1 (PW.pt (pw_or (pt_cmpR op_eq (pe_op op_mod (pv 7) pe_int) pe_int (nomark _)) (pw_or1 (pt_cmpR op_eq (pv 6) (pe_callB call_len_seq (by rfl) T.n_len PySem.boot_len (pa_cons (pv 0) pa_nil)) (nomark _)))))))) (pss_cons (ps_set (i := 8) sc_L_other.nd rfl (Or.inl rfl) (pe_callB (call_min2 rfl) (by rfl) T.n_min PyProof.Rows.boot_min (pa_cons (pe_ix ix_list (pv 4) (pv 5) (fun _ _ => rfl)) (pa_cons (pe_op op_sub (pv 1) (pe_ix ix_list (pv 4) (pv 3) (fun _ _ => rfl))) pa_nil)))) (pss_cons (ps_asg (pe_op op_sub (pe_ix ix_list (pv 4) (pv 5) (fun _ _ => rfl)) (pv 8)) (pg_sub (pv 4) (pv 5) set_list)) (pss_one (ps_set (i := 5) sc_L_other.nd rfl (Or.inl rfl) (pe_op op_sub (pv 5) pe_int))))) (pss_one (ps_if (pt_cmpR op_lt (pv 6) (pe_callB call_len_seq (by rfl) T.n_len PySem.boot_len (pa_cons (pv 0) pa_nil)) (nomark _)) (pss_cons (ps_set (i := 8) sc_L_other.nd rfl (Or.inl rfl) (pe_callB (call_min2 rfl) (by rfl) T.n_min PyProof.Rows.boot_min (pa_cons (pe_ix ix_list (pv 4) (pv 6) (fun _ _ => rfl)) (pa_cons (pe_op op_sub (pv 1) (pe_ix ix_list (pv 4) (pv 3) (fun _ _ => rfl))) pa_nil)))) (pss_cons (ps_asg (pe_op op_sub (pe_ix ix_list (pv 4) (pv 6) (fun _ _ => rfl)) (pv 8)) (pg_sub (pv 4) (pv 6) set_list)) (pss_one (ps_set (i := 6) sc_L_other.nd rfl (Or.inl rfl) (pe_op op_add (pv 6) pe_int))))) pss_nil))) (pss_one (ps_asg (pe_op op_add (pe_ix ix_list (pv 4) (pv 3) (fun _ _ => rfl)) (pv 8)) (pg_sub (pv 4) (pv 3) set_list))))))) (pss_one (ps_ret (pv 4))))))))), ?_⟩
  obtain ⟨g, G, nd, c, rfl, hS, hg0, hgz, hG0, hnd, q⟩ := h
  have c0 := Int.emod_nonneg c (show (G.length : Int) ≠ 0 by omega)
  have c1 := Int.emod_lt_of_pos c (show (0 : Int) < G.length by omega)
  walk_at "g1"
  obtain ⟨h, eh⟩ : ∃ h : Nat, c % (G.length : Int) = h := ⟨(c % (G.length : Int)).toNat, by omega⟩
  rw [eh] at c0 c1 ⊢
  have hh : h < G.length := by omega
  walk_at "go"
  intro p hp
  have s1 := Same.new (o := .lst (G.map V.int)) hp
  have hp1 : upd H p (.lst (G.map V.int)) p = some (.lst (G.map V.int)) := upd_same
  generalize upd H p (.lst (G.map V.int)) = H1 at s1 hp1 ⊢
  walk_at "go"
  refine ⟨OtW g p G nd c h H, ⟨_, G, _, _, _, none, rfl, rfl, by omega, by omega, by omega, by omega, s1, hp1, rfl, hG0, rfl, .inr fun i h1 h2 h3 => by omega⟩, ?_⟩
  rintro m σ H2 ⟨O, l, r, bt, x8, rfl, rfl, l1, l2, r1, r2, s2, hp2, hOl, hO0, hOs, hz⟩
  have hS2 := s2.seq hS
  walk_at "go"
  rw [Int.toNat_natCast]
  refine r_ifd (fun hlt => ?_) (fun hlt => ?_)
  · have hz0 : ∀ i : Nat, l < i → (i : Int) < r → i ≠ h → O.getD i 0 = 0 := hz.resolve_left (by omega)
    have hside : 0 ≤ l ∨ r < G.length := by
      rcases Int.lt_or_le l 0 with h1 | h1
      · right
        rcases Int.lt_or_le r (G.length : Int) with h2 | h2
        · exact h2
        · exfalso
          have := pre_single (O := O) (h := h) G.length fun i h3 h4 => hz0 i (by omega) (by omega) h4
          rw [if_pos hh] at this
          omega
      · exact .inl h1
    refine ⟨fun σ' H'' => ∃ m', m' < (l + 1 + (G.length - r)).toNat ∧ OtW g p G nd c h H m' σ' H'', fun σ' H'' hw => hw, ?_⟩
    have hO2 : O.length ≤ 1300 := by omega
    walk_at "gs"
    generalize bt * 16807 % 1000003 + 1 = b2
    refine r_seqM (M := fun σ' H' => ∃ (j : Nat) (t l' r' : Int), j < G.length ∧ j ≠ h ∧ Same H H' ∧ H' p = some (.lst ((O.set j (O.getD j 0 - t)).map V.int)) ∧ 0 ≤ t ∧ t ≤ O.getD j 0 ∧ (t = O.getD j 0 ∨ t = nd - O.getD h 0) ∧ ((0 ≤ l ∧ (j : Int) = l ∧ l' = l - 1 ∧ r' = r) ∨ (r < G.length ∧ (j : Int) = r ∧ l' = l ∧ r' = r + 1)) ∧
      σ' = [some (.ref g), some (.int nd), some (.int c), some (.int h), some (.ref p), some (.int l'), some (.int r'), some (.int b2), some (.int t)]) ?_ (fun nx hM => ?_)
    · rintro σ' H3 ⟨j, t, l', r', hj, hjh, s3, hp3, t0, t1, t2, hlr, rfl⟩
      have hjl : j < O.length := by omega
      have hhl : h < O.length := by omega
      obtain ⟨k1, k2, k3, k4⟩ := taken (t := t) hhl hjl hjh hO0 t0 t1
      have hsl : (O.set j (O.getD j 0 - t)).length = O.length := List.length_set
      walk_at "go"
      rw [Int.toNat_natCast]
      refine ⟨_, ?_, _, l', r', b2, _, rfl, rfl, by omega, by omega, by omega, by omega, s3.put hp, upd_same, by rw [k1]; exact hOl, k3, by rw [← hOl, k4, hOl]; exact hOs, ?_⟩
      · omega
      · rcases t2 with t2 | t2
        · right
          intro i i1 i2 i3
          rw [k2 i, if_neg (fun z => i3 z.symm)]
          split
          · omega
          · rename_i hji
            exact hz0 i (by omega) (by omega) i3
        · left
          rw [k2 h, if_pos rfl]
          omega
    · have left : 0 ≤ l → ∃ t : Int, (if nd - O.getD h 0 < O.getD l.toNat 0 then nd - O.getD h 0 else O.getD l.toNat 0) = t ∧ 0 ≤ t ∧ t ≤ O.getD l.toNat 0 ∧ (t = O.getD l.toNat 0 ∨ t = nd - O.getD h 0) := fun hl0 => by
        have := hO0 l.toNat
        refine ⟨_, rfl, ?_, ?_, ?_⟩
        · split <;> omega
        · split <;> omega
        · split
          · exact .inr rfl
          · exact .inl rfl
      have right : ∃ t : Int, (if nd - O.getD h 0 < O.getD r.toNat 0 then nd - O.getD h 0 else O.getD r.toNat 0) = t ∧ 0 ≤ t ∧ t ≤ O.getD r.toNat 0 ∧ (t = O.getD r.toNat 0 ∨ t = nd - O.getD h 0) := by
        have := hO0 r.toNat
        refine ⟨_, rfl, ?_, ?_, ?_⟩
        · split <;> omega
        · split <;> omega
        · split
          · exact .inr rfl
          · exact .inl rfl
      have goR : r < G.length → ∀ (t : Int), 0 ≤ t → t ≤ O.getD r.toNat 0 → (t = O.getD r.toNat 0 ∨ t = nd - O.getD h 0) → nx [some (.ref g), some (.int nd), some (.int c), some (.int h), some (.ref p), some (.int l), some (.int (r + 1)), some (.int b2), some (.int t)] (upd H2 p (.lst ((O.set r.toNat (O.getD r.toNat 0 - t)).map V.int))) := fun hr t t0 t1 t2 =>
        hM _ _ ⟨r.toNat, t, l, r + 1, by omega, by omega, s2.put hp, upd_same, t0, t1, t2, .inr ⟨hr, by omega, rfl, rfl⟩, rfl⟩
      have goL : 0 ≤ l → ∀ (t : Int), 0 ≤ t → t ≤ O.getD l.toNat 0 → (t = O.getD l.toNat 0 ∨ t = nd - O.getD h 0) → nx [some (.ref g), some (.int nd), some (.int c), some (.int h), some (.ref p), some (.int (l - 1)), some (.int r), some (.int b2), some (.int t)] (upd H2 p (.lst ((O.set l.toNat (O.getD l.toNat 0 - t)).map V.int))) := fun hl t t0 t1 t2 =>
        hM _ _ ⟨l.toNat, t, l - 1, r, by omega, by omega, s2.put hp, upd_same, t0, t1, t2, .inl ⟨hl, by omega, rfl, rfl⟩, rfl⟩
      walk_at "go"
      refine r_ifd (fun hl0 => ?_) (fun hl0 => ?_)
      · obtain ⟨t, et, t0, t1, t2⟩ := left hl0
        walk_at "go"
        refine r_ifd (fun hb => ?_) (fun hb => ?_)
        · walk_at "go"
          rw [Int.toNat_natCast, et]
          walk_at "go"
          exact goL hl0 t t0 t1 t2
        · walk_at "go"
          refine r_ifd (fun hr => ?_) (fun hr => ?_)
          · walk_at "go"
            rw [Int.toNat_natCast, et]
            walk_at "go"
            exact goL hl0 t t0 t1 t2
          · obtain ⟨t', et', t0', t1', t2'⟩ := right
            walk_at "go"
            rw [Int.toNat_natCast, et']
            walk_at "go"
            exact goR (by omega) t' t0' t1' t2'
      · obtain ⟨t', et', t0', t1', t2'⟩ := right
        have hr : r < (G.length : Int) := by rcases hside with h | h <;> omega
        walk_at "go"
        rw [Int.toNat_natCast, et']
        walk_at "go"
        exact goR hr t' t0' t1' t2'
  · walk_at "go"
    exact q p O h H2 hp s2 hp2 hOl hO0 hOs hh (by omega)
theorem u_told {S T : Int} {cs : List Int} {A M B : List Pc} {n : Int} (c1 : Chain 0 A S) (c2 : Chain S M T) (c3 : Chain T B n) : (uF S T cs (A ++ M ++ B)).tl.map (·.1) = A ++ plc S M := by
  have l2 := c2.le
  unfold uF
  rw [List.foldl_append, List.foldl_append, u_low (ps := A) (fun z hz => by have := c1.mem z hz; omega), u_high (ps := B) (by omega) (fun z hz => by have := c3.mem z hz; omega), u_tl (Int.le_refl _) c2]
  simp
  exact List.map_id' A
theorem all42 {cs : List Int} {ps : List Pc} {nd m S T : Int} (hch : Chain 0 ps cs.length) (hmk : Marks cs ps) (h1 : 1 ≤ nd) (hb : bestOf (plans nd ps cs.length) = some [m, S, T]) :
    ∃ (R : List Int) (qs : List Pc), R = laidI (uF S T cs ps).R (uF S T cs ps).g (T - (uF S T cs ps).g) false ∧ R.length = cs.length ∧ Chain 0 qs cs.length ∧ Marks R qs ∧ lnF qs = lnF ps ∧ mvS (lnF ps) (gapF ps cs.length) (gapF qs cs.length) (lnF ps).length = m ∧
      (∃ i, i < (gapF qs cs.length).length ∧ nd ≤ (gapF qs cs.length).getD i 0) ∧ ∀ x y z : Int, [x, y, z] ∈ plans nd ps cs.length → m ≤ x := by
  have hmin : ∀ x y z : Int, [x, y, z] ∈ plans nd ps cs.length → m ≤ x := fun x y z hx => bestOf_least (fun w hw => plansOf_three hw) hb hx
  obtain ⟨A, M, B, eps, c1, c2, c3, hnd, hST, hm⟩ := plan_parts hch (bestOf_mem hb)
  have hg : (uF S T cs ps).g = S + m := by rw [eps, u_whole c1 c2 c3, hm]
  have hin := bestOf_mem hb
  rw [eps] at hmk hg hin hmin
  obtain ⟨R, tl, e1, e2, e3, e4, e5, _, e6⟩ := gathered_is hmk c1 c2 c3 (by omega)
  have et : tl.map (·.1) = A ++ plc S M ++ [⟨(uF S T cs (A ++ M ++ B)).g, T - (uF S T cs (A ++ M ++ B)).g, false⟩] ++ B := by
    rw [e2, List.map_append, List.map_append, u_told c1 c2 c3, List.map_map]
    congr 1
    exact List.map_id' B
  rw [et] at e4 e5
  obtain ⟨k1, k2, k3⟩ := told_moves c1 c2 c3 h1 hin hmin e4
  refine ⟨R, _, by rw [eps]; exact e1, e3, e4, e5, by rw [eps]; exact k1, by rw [eps]; exact k2, k3, ?_⟩
  rw [eps]
  exact hmin
theorem take_fil {ps : List Pc} {i : Nat} {z : Pc} (h : ps[i]? = some z) : lnF (ps.take (i + 1)) = lnF (ps.take i) ++ (if z.v = true then [z.l] else []) := by
  rw [List.take_add_one, h]
  exact lnF_snoc _ _
def LnW (H1 : Hp) (ps : List Pc) (D : Addr) (i : Nat) (ys : List V) (H2 : Hp) : Prop := Same H1 H2 ∧ H2 D = some (.lst ys) ∧ ys = (lnF (ps.take i)).map V.int ∧ ys.length ≤ i
def LwW (f0 f1 f2 f3 f4 f5 f6 f7 f8 f9 : Option V) (H : Hp) (i : Nat) (σ : L2.St) (H' : Hp) : Prop := Same H H' ∧ ∃ x10 : Option V, σ = [f0, f1, f2, f3, f4, f5, f6, f7, f8, f9, x10]
theorem ok_law {P : Program} {w : World} {base : Heap} {K : PySem.W.Frag} {mg : Str → Option Value} {C_StowError C_Broken C_NoAsk C_NoRoom : Addr} {tk_LEAST_LIVE : Tok} {f : Addr} {fd : FuncData} (F : Fun K "law" "law" s_law f fd) (T : Txt K mg C_StowError C_Broken C_NoAsk C_NoRoom tk_LEAST_LIVE) (D_L_cell_at : Defx P w K mg base "_law_cell_at" 1 ["_law_script", "_law_k"] (spCell K)) (D_L_whole : Defx P w K mg base "_law_whole" 1 ["_law_found"] (spWhole)) (D_L_drawn : Defx P w K mg base "_law_drawn" 2 ["_law_script"] (spDrawn K)) (D_L_room : Defx P w K mg base "_law_room" 1 ["_law_pieces", "_law_seed"] (spRoom)) (D_L_gaps : Defx P w K mg base "_law_gaps" 1 ["_law_pieces", "_law_size"] (spGaps)) (D_gathered : Defx P w K mg base "gathered" 6 ["cells", "need"] (spGath K C_NoAsk C_NoRoom)) (D_L_walk : Defx P w K mg base "_law_walk" 2 ["_law_cells"] (spWalkC K)) (D_L_moved : Defx P w K mg base "_law_moved" 1 ["_law_longs", "_law_gaps_here", "_law_others"] (spMoved K)) (D_L_other : Defx P w K mg base "_law_other" 1 ["_law_gaps_here", "_law_need", "_law_cell"] (spOther K)) : FnOk P w K mg base (CXe P w) 7 f fd ["_law_script"] (spLaw K) := by
  refine fun_okx F sc_law (fun vs H Q E h => by revert h; walk_at "len") (fun cdv A outer s H vs Q E hr h => ?_)
  refine ⟨_, PSs.nox (pss_cons (ps_set (i := 1) sc_law.nd rfl (Or.inl rfl) (pe_defq D_L_drawn hr (by rfl) (pa_cons (pv 0) pa_nil))) (pss_cons (ps_set (i := 2) sc_law.nd rfl (Or.inl rfl) (pe_defq D_L_room hr (by rfl) (pa_cons (pv 1) (pa_cons (pe_op op_mod (pe_defq D_L_cell_at hr (by rfl) (pa_cons (pv 0) (pa_cons pe_int pa_nil))) (pe_op op_pow pe_int pe_int)) pa_nil)))) (pss_cons (ps_set (i := 3) sc_law.nd rfl (Or.inl rfl) (pe_callB call_len_seq (by rfl) T.n_len PySem.boot_len (pa_cons (pv 2) pa_nil))) (pss_cons (ps_set (i := 4) sc_law.nd rfl (Or.inl rfl) (pe_defq D_L_gaps hr (by rfl) (pa_cons (pv 1) (pa_cons (pv 3) pa_nil)))) (pss_cons (ps_if (pt_cmpR op_eq (pe_callB (call_sumL rfl) (by rfl) T.n_sum PyProof.Rows.boot_sum (pa_cons (pv 4) pa_nil)) pe_int (nomark _)) (pss_one (ps_ret pe_bl)) pss_nil) (pss_cons (ps_set (i := 5) sc_law.nd rfl (Or.inl rfl) (pe_op op_add pe_int (pe_op op_mod (pe_defq D_L_cell_at hr (by rfl) (pa_cons (pv 0) (pa_cons pe_int pa_nil))) (pe_callB (call_sumL rfl) (by rfl) T.n_sum PyProof.Rows.boot_sum (pa_cons (pv 4) pa_nil))))) (pss_cons (ps_setCompN (i := 6) ["_law_piece"] sc_law.nd rfl (Or.inl rfl) rfl (pi_list (pv 1)) (fun cl C s₀ H₀ ex => (pg_name (i := 0) (show ((["_law_piece"] : List Str) ++ ([] : List Str)).Nodup by decide +kernel) rfl (Or.inl rfl))) (fun cl C s₀ H₀ ex => (pts_one (pt_truthK (K := K) rfl (pe_ix (ix_tupK (K := K) rfl) (pv 0) pe_int (fun _ _ => rfl)) (fun _ => rfl)))) (fun cl C s₀ H₀ ex => (pe_ix (ix_tupK (K := K) rfl) (pv 0) pe_int (fun _ _ => rfl))) ) (pss_cons (ps_set (i := 7) sc_law.nd rfl (Or.inl rfl) (pe_defq D_gathered hr (by rfl) (pa_cons (pe_callTy call_list_of (by rfl) T.n_list PyProof.Rows.boot_list (pa_cons (pv 2) pa_nil)) (pa_cons (pv 5) pa_nil)))) (pss_cons (ps_if (PW.pt (pw_or (pt_not (pt_val (pe_callB call_isi (by rfl) T.n_isinstance PyProof.Rows.boot_isinstance (pa_cons (pv 7) (pa_cons (pe_bltn (v := .ty "tuple") (by rfl) T.n_tuple PyProof.Rows.boot_tuple rfl) pa_nil))))) (pw_or (pt_cmpR op_ne (pe_callB call_len_seq (by rfl) T.n_len PySem.boot_len (pa_cons (pv 7) pa_nil)) pe_int (nomark _)) (pw_or1 (pt_not (pt_val (pe_defq D_L_whole hr (by rfl) (pa_cons (pe_ix ix_tup (pv 7) pe_int (fun _ _ => rfl)) pa_nil)))))))) (pss_one (ps_ret pe_bl)) pss_nil) (pss_cons (ps_set (i := 8) sc_law.nd rfl (Or.inl rfl) (pe_defq D_L_walk hr (by rfl) (pa_cons (pe_ix ix_tup (pv 7) pe_int (fun _ _ => rfl)) pa_nil))) (pss_cons (ps_if (PW.pt (pw_or (pt_cmpR op_isN (pv 8) pe_non (nomark _)) (pw_or (pt_cmpR op_ne (pe_callB call_len_seq (by rfl) T.n_len PySem.boot_len (pa_cons (pe_ix ix_tup (pv 7) pe_int (fun _ _ => rfl)) pa_nil)) (pv 3) (nomark _)) (pw_or1 (pt_cmpR (op_neL hr.units) (pe_compN ["_law_piece"] rfl (pi_list (pv 8)) (fun cl C s₀ H₀ ex => (pg_name (i := 0) (show ((["_law_piece"] : List Str) ++ ([] : List Str)).Nodup by decide +kernel) rfl (Or.inl rfl))) (fun cl C s₀ H₀ ex => (pts_one (pt_truthK (K := K) rfl (pe_ix (ix_tupK (K := K) rfl) (pv 0) pe_int (fun _ _ => rfl)) (fun _ => rfl)))) (fun cl C s₀ H₀ ex => (pe_ix (ix_tupK (K := K) rfl) (pv 0) pe_int (fun _ _ => rfl))) ) (pv 6) (nomark _)))))) (pss_one (ps_ret pe_bl)) pss_nil) (pss_cons (ps_set (i := 9) sc_law.nd rfl (Or.inl rfl) (pe_defq D_L_gaps hr (by rfl) (pa_cons (pv 8) (pa_cons (pv 3) pa_nil)))) (pss_cons (ps_if (PW.pt (pw_or (pt_cmpR op_lt (pe_callB (call_maxI rfl) (by rfl) T.n_max PyProof.Rows.boot_max (pa_cons (pv 9) pa_nil)) (pv 5) (nomark _)) (pw_or1 (pt_cmpR op_ne (pe_defq D_L_moved hr (by rfl) (pa_cons (pv 6) (pa_cons (pv 4) (pa_cons (pv 9) pa_nil)))) (pe_ix ix_tup (pv 7) pe_int (fun _ _ => rfl)) (nomark _))))) (pss_one (ps_ret pe_bl)) pss_nil) (pss_cons (ps_for PassesOwn.never rfl (pi_list (pe_slice sl_list (pv 0) po_none (po_some pe_int))) (pg_name (i := 10) sc_law.nd rfl (Or.inl rfl)) (pss_one (ps_if (pt_cmpR op_lt (pe_defq D_L_moved hr (by rfl) (pa_cons (pv 6) (pa_cons (pv 4) (pa_cons (pe_defq D_L_other hr (by rfl) (pa_cons (pv 4) (pa_cons (pv 5) (pa_cons (pv 10) pa_nil)))) pa_nil)))) (pe_ix ix_tup (pv 7) pe_int (fun _ _ => rfl)) (nomark _)) (pss_one (ps_ret pe_bl)) pss_nil))) (pss_one (ps_ret pe_bl)))))))))))))))), ?_⟩
  obtain ⟨sc, ns, rfl, hS, hlen, kk⟩ := h
  walk_at "go"
  refine ⟨sc, ns, rfl, hS, hlen, fun b us ps e H1 nb s1 hb pa hc he hpl hpos => ?_⟩
  have hS1 := s1.seq hS
  have hul := pa.1
  walk_at "go"
  refine ⟨b, us, ps, e, _, rfl, hb, pa, hc, by omega, hpos, fun c cs H2 nc s2 hcs hcl mk => ?_⟩
  subst hcl
  have hS2 := s2.seq hS1
  have hb2 := s2 b _ hb
  have pa2 := pa.same s2
  walk_at "go"
  refine ⟨b, us, ps, _, rfl, hb2, pa2, by omega, fun g H3 ng s3 hg3 => ?_⟩
  have hS3 := s3.seq hS2
  have hb3 := s3 b _ hb2
  have pa3 := pa2.same s3
  have hc3 := s3 c _ hcs
  clear hS hS1 hS2 s1 s2 s3 hb hb2 pa pa2 hcs nb nc ng
  have hGl := gapF_len ps cs.length
  have hG0 := gapF_nonneg hc
  have hLl : (lnF ps).length ≤ ps.length := by rw [← fil_len]; exact List.length_filter_le _ _
  have hsum := sumI_pre (gapF ps cs.length)
  rw [hGl] at hsum
  have hs0 := pre_mono hG0 (show 0 ≤ (lnF ps).length + 1 by omega)
  have hs0 : 0 ≤ pre (gapF ps cs.length) ((lnF ps).length + 1) := hs0
  walk_at "go"
  refine ⟨g, _, rfl, hg3, ?_⟩
  rw [hsum]
  walk_at "go"
  refine r_ifd (fun h0 => ?_) (fun h0 => ?_)
  · walk_at "go"
    exact kk _
  walk_at "go"
  refine ⟨g, _, rfl, hg3, ?_⟩
  rw [hsum]
  have n0 := Int.emod_nonneg (ns.getD (1 : Int).toNat 0) (show pre (gapF ps cs.length) ((lnF ps).length + 1) ≠ 0 by omega)
  have n1 := Int.emod_lt_of_pos (ns.getD (1 : Int).toNat 0) (show 0 < pre (gapF ps cs.length) ((lnF ps).length + 1) by omega)
  walk_at "ge"
  obtain ⟨nd, en, nd1, nd2⟩ : ∃ nd : Int, 1 + ns.getD (1 : Int).toNat 0 % pre (gapF ps cs.length) ((lnF ps).length + 1) = nd ∧ 1 ≤ nd ∧ nd ≤ pre (gapF ps cs.length) ((lnF ps).length + 1) := ⟨_, rfl, by omega, by omega⟩
  rw [en]
  clear en n0 n1
  walk_at "go"
  refine ⟨b, rfl, ⟨_, SqL.of hb3⟩, compH_list (K := K) (a := b) (xs := us) (fs := []) (LnW H3 ps) (fun D hD => ⟨Same.new hD, upd_same, rfl, Nat.le_refl _⟩) (fun D i ys H2 _ h => SqL.of (h.1 b _ hb3)) ?_ ?_⟩
  · rintro D i y ys H4 hD hi ⟨s4, hD4, rfl, hyl⟩ τ hτ
    have hil : i < us.length := (List.getElem?_eq_some_iff.mp hi).1
    obtain ⟨t, z, rfl, hz1, hT⟩ := pcs_get (pa3.same s4) hi
    have hl1 := take_fil hz1
    match τ, hτ with
    | [τ0], _ =>
      walk_at "go"
      refine ⟨⟨[_], rfl, rfl⟩, ?_⟩
      walk_at "go"
      refine r_ifb (fun hv => ?_) (fun hv => ?_)
      · rw [if_pos hv] at hl1
        walk_at "go"
        refine ⟨hD4, small4000 (by omega), nx_mk hil ⟨s4.put hD, upd_same, by rw [hl1, List.map_append]; rfl, by rw [List.length_append, List.length_singleton]; omega⟩⟩
      · rw [hv, if_neg Bool.false_ne_true, List.append_nil] at hl1
        exact nx_mk hil ⟨s4, hD4, by rw [hl1], by omega⟩
  rintro l ys H4 hl ⟨s4, hl4, rfl, hyl⟩
  rw [List.take_of_length_le (by omega)] at hl4
  have hb4 := s4 b _ hb3
  have hc4 := s4 c _ hc3
  have hg4 := s4 g _ hg3
  have hS4 := s4.seq hS3
  clear s4 hb3 hc3 hg3 hS3 pa3 hyl hl
  walk_at "go"
  intro d hd
  have s5 := Same.new (o := .lst (cs.map V.int)) hd
  have hd5 : upd H4 d (.lst (cs.map V.int)) d = some (.lst (cs.map V.int)) := upd_same
  generalize upd H4 d (.lst (cs.map V.int)) = H5 at s5 hd5 ⊢
  have hg5 := s5 g _ hg4
  have hl5 := s5 l _ hl4
  have hS5 := s5.seq hS4
  clear s5 hb4 hc4 hg4 hl4 hS4 hd
  have hpx := plan_ex hc nd1 nd2
  walk_at "go"
  refine ⟨d, cs, ps, nd, rfl, SqL.of hd5, by omega, hc, mk, by omega, fun h => absurd h (by omega), (fun _ h => by rw [bestOf_all hpx] at h; cases h), fun _ m S T hbo t p H6 np s6 hp ht => ?_⟩
  obtain ⟨R, qs, eR, hRl, hqc, hqm, hqn, hmv, ⟨mi, mi1, mi2⟩, hmin⟩ := all42 hc mk nd1 hbo
  rw [← eR] at hp
  have hg6 := s6 g _ hg5
  have hl6 := s6 l _ hl5
  have hS6 := s6.seq hS5
  clear s6 hg5 hl5 hS5 hd5 np
  have hqle := hqc.le
  walk_at "go"
  refine ⟨p, R, qs, rfl, hp, by rw [hRl]; exact hqc, hqm, by omega, fun w vs H7 nw s7 hw pv => ?_⟩
  have ht7 := s7 t _ ht
  have hp7 := s7 p _ hp
  have hg7 := s7 g _ hg6
  have hl7 := s7 l _ hl6
  have hS7 := s7.seq hS6
  have hvl := pv.1
  clear s7 ht hp hg6 hl6 hS6 nw
  walk_at "go"
  refine ⟨w, rfl, ⟨_, SqL.of hw⟩, compH_list (K := K) (a := w) (xs := vs) (fs := []) (LnW H7 qs) (fun D hD => ⟨Same.new hD, upd_same, rfl, Nat.le_refl _⟩) (fun D i ys H2 _ h => SqL.of (h.1 w _ hw)) ?_ ?_⟩
  · rintro D i y ys H8 hD hi ⟨s8, hD8, rfl, hyl⟩ τ hτ
    have hil : i < vs.length := (List.getElem?_eq_some_iff.mp hi).1
    obtain ⟨t, z, rfl, hz1, hT⟩ := pcs_get (pv.same s8) hi
    have hl1 := take_fil hz1
    match τ, hτ with
    | [τ0], _ =>
      walk_at "go"
      refine ⟨⟨[_], rfl, rfl⟩, ?_⟩
      walk_at "go"
      refine r_ifb (fun hv => ?_) (fun hv => ?_)
      · rw [if_pos hv] at hl1
        walk_at "go"
        refine ⟨hD8, small4000 (by omega), nx_mk hil ⟨s8.put hD, upd_same, by rw [hl1, List.map_append]; rfl, by rw [List.length_append, List.length_singleton]; omega⟩⟩
      · rw [hv, if_neg Bool.false_ne_true, List.append_nil] at hl1
        exact nx_mk hil ⟨s8, hD8, by rw [hl1], by omega⟩
  rintro o ys H8 ho ⟨s8, ho8, rfl, hyl⟩
  rw [List.take_of_length_le (by omega), hqn] at ho8
  have ht8 := s8 t _ ht7
  have hw8 := s8 w _ hw
  have pv8 := pv.same s8
  have hg8 := s8 g _ hg7
  have hl8 := s8 l _ hl7
  have hS8 := s8.seq hS7
  clear s8 ht7 hw pv hg7 hl7 hS7 hyl ho hp7
  walk_at "go"
  refine ⟨o, l, _, _, rfl, rfl, SqL.of ho8, SqL.of hl8, ?_⟩
  walk_at "go"
  refine ⟨w, vs, qs, _, rfl, hw8, pv8, by omega, fun tg H9 ntg s9 htg => ?_⟩
  have ht9 := s9 t _ ht8
  have hg9 := s9 g _ hg8
  have hl9 := s9 l _ hl8
  have hS9 := s9.seq hS8
  clear s9 ht8 hw8 pv8 hg8 hl8 hS8 ntg ho8
  have hQl := gapF_len qs cs.length
  rw [hqn] at hQl
  walk_at "go"
  refine ⟨tg, _, rfl, htg, by omega, fun mx hmx => ?_⟩
  have hm2 := hmx mi mi1
  walk_at "go"
  refine ⟨l, g, tg, lnF ps, gapF ps cs.length, gapF qs cs.length, rfl, SqL.of hl9, SqL.of hg9, SqL.of htg, by omega, by omega, by omega, ?_⟩
  rw [hmv]
  walk_at "go"
  intro q1 H10 mq1 s10 hq1
  have ht10 := s10 t _ ht9
  have hg10 := s10 g _ hg9
  have hl10 := s10 l _ hl9
  clear s10 ht9 hg9 hl9 hS9 htg
  generalize cutI ns none (some 63) = ds at hq1
  refine ⟨q1, rfl, ⟨_, SqL.of hq1⟩, for_list (K := K) (a := q1) (xs := ds.map V.int) (LwW (some (.ref sc)) (some (.ref b)) (some (.ref c)) (some (.int cs.length)) (some (.ref g)) (some (.int nd)) (some (.ref l)) (some (.ref t)) (some (.ref w)) (some (.ref tg)) H10) ⟨Same.refl _, none, rfl⟩ (fun i σ H2 _ ⟨h, _⟩ => SqL.of (h q1 _ hq1)) ?_ ?_⟩
  · rintro i y σ H11 hi ⟨s11, x10, rfl⟩
    obtain ⟨c0, ec, rfl⟩ : ∃ c0, ds[i]? = some c0 ∧ y = .int c0 := by
      rw [List.getElem?_map] at hi
      obtain ⟨c0, h1, h2⟩ := Option.map_eq_some_iff.mp hi
      exact ⟨c0, h1, h2.symm⟩
    have ht11 := s11 t _ ht10
    have hg11 := s11 g _ hg10
    have hl11 := s11 l _ hl10
    walk_at "go"
    refine ⟨g, _, nd, c0, rfl, SqL.of hg11, by omega, by omega, hG0, by rw [hGl]; exact nd2, fun o O hh H12 no s12 ho hOl hO0 hOs hh1 hh2 => ?_⟩
    rw [hGl] at hOs hh1 hOl
    have hfew := no_fewer hc nd1 hmin hO0 hOs (by omega) hh2
    have ht12 := s12 t _ ht11
    walk_at "go"
    refine ⟨l, g, o, lnF ps, gapF ps cs.length, O, rfl, SqL.of (s12 l _ hl11), SqL.of (s12 g _ hg11), SqL.of ho, by omega, by omega, by omega, ?_⟩
    walk_at "go"
    exact ⟨s11.trans s12, _, rfl⟩
  · rintro σ H11 ⟨s11, x10, rfl⟩
    walk_at "go"
    exact kk _
theorem all_mk {l : PySem.W.OpenLaw} {w : World} {K : PySem.W.Frag} {h : Heap} {mg : Str → Option Value} {fa : Addr} (X : K.In h) (G : h.Ns mainGlobals mg) (hfa : mg "law" = some (.ref fa))
    {f_mark_of : Addr} {oc_mark_of kV_mark_of dc_mark_of pm_mark_of cd_mark_of ct_mark_of : Value} {od_mark_of an_mark_of : Option Addr} {sl_mark_of : Array (Option Value)}
    (a_mark_of : PySem.W.nsIn K mainGlobals "mark_of" = some (some (.ref f_mark_of)))
    (l_mark_of : K.lookup f_mark_of = some ⟨oc_mark_of, od_mark_of, .func (PySem.W.fnOf "mark_of" "mark_of" (defArgs s_mark_of) (defBody s_mark_of) (defScope s_mark_of) .none kV_mark_of dc_mark_of pm_mark_of an_mark_of cd_mark_of ct_mark_of), sl_mark_of⟩)
    (c_mark_of : PySem.W.codeIn K cd_mark_of "mark_of" = true)
    (k_mark_of : PySem.W.keepIn K (.ref f_mark_of) = true)
    {f_long_of : Addr} {oc_long_of kV_long_of dc_long_of pm_long_of cd_long_of ct_long_of : Value} {od_long_of an_long_of : Option Addr} {sl_long_of : Array (Option Value)}
    (a_long_of : PySem.W.nsIn K mainGlobals "long_of" = some (some (.ref f_long_of)))
    (l_long_of : K.lookup f_long_of = some ⟨oc_long_of, od_long_of, .func (PySem.W.fnOf "long_of" "long_of" (defArgs s_long_of) (defBody s_long_of) (defScope s_long_of) .none kV_long_of dc_long_of pm_long_of an_long_of cd_long_of ct_long_of), sl_long_of⟩)
    (c_long_of : PySem.W.codeIn K cd_long_of "long_of" = true)
    (k_long_of : PySem.W.keepIn K (.ref f_long_of) = true)
    {f_live_of : Addr} {oc_live_of kV_live_of dc_live_of pm_live_of cd_live_of ct_live_of : Value} {od_live_of an_live_of : Option Addr} {sl_live_of : Array (Option Value)}
    (a_live_of : PySem.W.nsIn K mainGlobals "live_of" = some (some (.ref f_live_of)))
    (l_live_of : K.lookup f_live_of = some ⟨oc_live_of, od_live_of, .func (PySem.W.fnOf "live_of" "live_of" (defArgs s_live_of) (defBody s_live_of) (defScope s_live_of) .none kV_live_of dc_live_of pm_live_of an_live_of cd_live_of ct_live_of), sl_live_of⟩)
    (c_live_of : PySem.W.codeIn K cd_live_of "live_of" = true)
    (k_live_of : PySem.W.keepIn K (.ref f_live_of) = true)
    {f_can_begin : Addr} {oc_can_begin kV_can_begin dc_can_begin pm_can_begin cd_can_begin ct_can_begin : Value} {od_can_begin an_can_begin : Option Addr} {sl_can_begin : Array (Option Value)}
    (a_can_begin : PySem.W.nsIn K mainGlobals "can_begin" = some (some (.ref f_can_begin)))
    (l_can_begin : K.lookup f_can_begin = some ⟨oc_can_begin, od_can_begin, .func (PySem.W.fnOf "can_begin" "can_begin" (defArgs s_can_begin) (defBody s_can_begin) (defScope s_can_begin) .none kV_can_begin dc_can_begin pm_can_begin an_can_begin cd_can_begin ct_can_begin), sl_can_begin⟩)
    (c_can_begin : PySem.W.codeIn K cd_can_begin "can_begin" = true)
    (k_can_begin : PySem.W.keepIn K (.ref f_can_begin) = true)
    {f_bad_of_piece : Addr} {oc_bad_of_piece kV_bad_of_piece dc_bad_of_piece pm_bad_of_piece cd_bad_of_piece ct_bad_of_piece : Value} {od_bad_of_piece an_bad_of_piece : Option Addr} {sl_bad_of_piece : Array (Option Value)}
    (a_bad_of_piece : PySem.W.nsIn K mainGlobals "bad_of_piece" = some (some (.ref f_bad_of_piece)))
    (l_bad_of_piece : K.lookup f_bad_of_piece = some ⟨oc_bad_of_piece, od_bad_of_piece, .func (PySem.W.fnOf "bad_of_piece" "bad_of_piece" (defArgs s_bad_of_piece) (defBody s_bad_of_piece) (defScope s_bad_of_piece) .none kV_bad_of_piece dc_bad_of_piece pm_bad_of_piece an_bad_of_piece cd_bad_of_piece ct_bad_of_piece), sl_bad_of_piece⟩)
    (c_bad_of_piece : PySem.W.codeIn K cd_bad_of_piece "bad_of_piece" = true)
    (k_bad_of_piece : PySem.W.keepIn K (.ref f_bad_of_piece) = true)
    {f_looked : Addr} {oc_looked kV_looked dc_looked pm_looked cd_looked ct_looked : Value} {od_looked an_looked : Option Addr} {sl_looked : Array (Option Value)}
    (a_looked : PySem.W.nsIn K mainGlobals "looked" = some (some (.ref f_looked)))
    (l_looked : K.lookup f_looked = some ⟨oc_looked, od_looked, .func (PySem.W.fnOf "looked" "looked" (defArgs s_looked) (defBody s_looked) (defScope s_looked) .none kV_looked dc_looked pm_looked an_looked cd_looked ct_looked), sl_looked⟩)
    (c_looked : PySem.W.codeIn K cd_looked "looked" = true)
    (k_looked : PySem.W.keepIn K (.ref f_looked) = true)
    {f_laid : Addr} {oc_laid kV_laid dc_laid pm_laid cd_laid ct_laid : Value} {od_laid an_laid : Option Addr} {sl_laid : Array (Option Value)}
    (a_laid : PySem.W.nsIn K mainGlobals "laid" = some (some (.ref f_laid)))
    (l_laid : K.lookup f_laid = some ⟨oc_laid, od_laid, .func (PySem.W.fnOf "laid" "laid" (defArgs s_laid) (defBody s_laid) (defScope s_laid) .none kV_laid dc_laid pm_laid an_laid cd_laid ct_laid), sl_laid⟩)
    (c_laid : PySem.W.codeIn K cd_laid "laid" = true)
    (k_laid : PySem.W.keepIn K (.ref f_laid) = true)
    {f_carried : Addr} {oc_carried kV_carried dc_carried pm_carried cd_carried ct_carried : Value} {od_carried an_carried : Option Addr} {sl_carried : Array (Option Value)}
    (a_carried : PySem.W.nsIn K mainGlobals "carried" = some (some (.ref f_carried)))
    (l_carried : K.lookup f_carried = some ⟨oc_carried, od_carried, .func (PySem.W.fnOf "carried" "carried" (defArgs s_carried) (defBody s_carried) (defScope s_carried) .none kV_carried dc_carried pm_carried an_carried cd_carried ct_carried), sl_carried⟩)
    (c_carried : PySem.W.codeIn K cd_carried "carried" = true)
    (k_carried : PySem.W.keepIn K (.ref f_carried) = true)
    {f_starts_of : Addr} {oc_starts_of kV_starts_of dc_starts_of pm_starts_of cd_starts_of ct_starts_of : Value} {od_starts_of an_starts_of : Option Addr} {sl_starts_of : Array (Option Value)}
    (a_starts_of : PySem.W.nsIn K mainGlobals "starts_of" = some (some (.ref f_starts_of)))
    (l_starts_of : K.lookup f_starts_of = some ⟨oc_starts_of, od_starts_of, .func (PySem.W.fnOf "starts_of" "starts_of" (defArgs s_starts_of) (defBody s_starts_of) (defScope s_starts_of) .none kV_starts_of dc_starts_of pm_starts_of an_starts_of cd_starts_of ct_starts_of), sl_starts_of⟩)
    (c_starts_of : PySem.W.codeIn K cd_starts_of "starts_of" = true)
    (k_starts_of : PySem.W.keepIn K (.ref f_starts_of) = true)
    {f_stops_of : Addr} {oc_stops_of kV_stops_of dc_stops_of pm_stops_of cd_stops_of ct_stops_of : Value} {od_stops_of an_stops_of : Option Addr} {sl_stops_of : Array (Option Value)}
    (a_stops_of : PySem.W.nsIn K mainGlobals "stops_of" = some (some (.ref f_stops_of)))
    (l_stops_of : K.lookup f_stops_of = some ⟨oc_stops_of, od_stops_of, .func (PySem.W.fnOf "stops_of" "stops_of" (defArgs s_stops_of) (defBody s_stops_of) (defScope s_stops_of) .none kV_stops_of dc_stops_of pm_stops_of an_stops_of cd_stops_of ct_stops_of), sl_stops_of⟩)
    (c_stops_of : PySem.W.codeIn K cd_stops_of "stops_of" = true)
    (k_stops_of : PySem.W.keepIn K (.ref f_stops_of) = true)
    {f_best_plan : Addr} {oc_best_plan kV_best_plan dc_best_plan pm_best_plan cd_best_plan ct_best_plan : Value} {od_best_plan an_best_plan : Option Addr} {sl_best_plan : Array (Option Value)}
    (a_best_plan : PySem.W.nsIn K mainGlobals "best_plan" = some (some (.ref f_best_plan)))
    (l_best_plan : K.lookup f_best_plan = some ⟨oc_best_plan, od_best_plan, .func (PySem.W.fnOf "best_plan" "best_plan" (defArgs s_best_plan) (defBody s_best_plan) (defScope s_best_plan) .none kV_best_plan dc_best_plan pm_best_plan an_best_plan cd_best_plan ct_best_plan), sl_best_plan⟩)
    (c_best_plan : PySem.W.codeIn K cd_best_plan "best_plan" = true)
    (k_best_plan : PySem.W.keepIn K (.ref f_best_plan) = true)
    {f_moved_down : Addr} {oc_moved_down kV_moved_down dc_moved_down pm_moved_down cd_moved_down ct_moved_down : Value} {od_moved_down an_moved_down : Option Addr} {sl_moved_down : Array (Option Value)}
    (a_moved_down : PySem.W.nsIn K mainGlobals "moved_down" = some (some (.ref f_moved_down)))
    (l_moved_down : K.lookup f_moved_down = some ⟨oc_moved_down, od_moved_down, .func (PySem.W.fnOf "moved_down" "moved_down" (defArgs s_moved_down) (defBody s_moved_down) (defScope s_moved_down) .none kV_moved_down dc_moved_down pm_moved_down an_moved_down cd_moved_down ct_moved_down), sl_moved_down⟩)
    (c_moved_down : PySem.W.codeIn K cd_moved_down "moved_down" = true)
    (k_moved_down : PySem.W.keepIn K (.ref f_moved_down) = true)
    {f_gathered : Addr} {oc_gathered kV_gathered dc_gathered pm_gathered cd_gathered ct_gathered : Value} {od_gathered an_gathered : Option Addr} {sl_gathered : Array (Option Value)}
    (a_gathered : PySem.W.nsIn K mainGlobals "gathered" = some (some (.ref f_gathered)))
    (l_gathered : K.lookup f_gathered = some ⟨oc_gathered, od_gathered, .func (PySem.W.fnOf "gathered" "gathered" (defArgs s_gathered) (defBody s_gathered) (defScope s_gathered) .none kV_gathered dc_gathered pm_gathered an_gathered cd_gathered ct_gathered), sl_gathered⟩)
    (c_gathered : PySem.W.codeIn K cd_gathered "gathered" = true)
    (k_gathered : PySem.W.keepIn K (.ref f_gathered) = true)
    {f_L_cell_at : Addr} {oc_L_cell_at kV_L_cell_at dc_L_cell_at pm_L_cell_at cd_L_cell_at ct_L_cell_at : Value} {od_L_cell_at an_L_cell_at : Option Addr} {sl_L_cell_at : Array (Option Value)}
    (a_L_cell_at : PySem.W.nsIn K mainGlobals "_law_cell_at" = some (some (.ref f_L_cell_at)))
    (l_L_cell_at : K.lookup f_L_cell_at = some ⟨oc_L_cell_at, od_L_cell_at, .func (PySem.W.fnOf "_law_cell_at" "_law_cell_at" (defArgs s_L_cell_at) (defBody s_L_cell_at) (defScope s_L_cell_at) .none kV_L_cell_at dc_L_cell_at pm_L_cell_at an_L_cell_at cd_L_cell_at ct_L_cell_at), sl_L_cell_at⟩)
    (c_L_cell_at : PySem.W.codeIn K cd_L_cell_at "_law_cell_at" = true)
    (k_L_cell_at : PySem.W.keepIn K (.ref f_L_cell_at) = true)
    {f_L_whole : Addr} {oc_L_whole kV_L_whole dc_L_whole pm_L_whole cd_L_whole ct_L_whole : Value} {od_L_whole an_L_whole : Option Addr} {sl_L_whole : Array (Option Value)}
    (a_L_whole : PySem.W.nsIn K mainGlobals "_law_whole" = some (some (.ref f_L_whole)))
    (l_L_whole : K.lookup f_L_whole = some ⟨oc_L_whole, od_L_whole, .func (PySem.W.fnOf "_law_whole" "_law_whole" (defArgs s_L_whole) (defBody s_L_whole) (defScope s_L_whole) .none kV_L_whole dc_L_whole pm_L_whole an_L_whole cd_L_whole ct_L_whole), sl_L_whole⟩)
    (c_L_whole : PySem.W.codeIn K cd_L_whole "_law_whole" = true)
    (k_L_whole : PySem.W.keepIn K (.ref f_L_whole) = true)
    {f_L_walk : Addr} {oc_L_walk kV_L_walk dc_L_walk pm_L_walk cd_L_walk ct_L_walk : Value} {od_L_walk an_L_walk : Option Addr} {sl_L_walk : Array (Option Value)}
    (a_L_walk : PySem.W.nsIn K mainGlobals "_law_walk" = some (some (.ref f_L_walk)))
    (l_L_walk : K.lookup f_L_walk = some ⟨oc_L_walk, od_L_walk, .func (PySem.W.fnOf "_law_walk" "_law_walk" (defArgs s_L_walk) (defBody s_L_walk) (defScope s_L_walk) .none kV_L_walk dc_L_walk pm_L_walk an_L_walk cd_L_walk ct_L_walk), sl_L_walk⟩)
    (c_L_walk : PySem.W.codeIn K cd_L_walk "_law_walk" = true)
    (k_L_walk : PySem.W.keepIn K (.ref f_L_walk) = true)
    {f_L_drawn : Addr} {oc_L_drawn kV_L_drawn dc_L_drawn pm_L_drawn cd_L_drawn ct_L_drawn : Value} {od_L_drawn an_L_drawn : Option Addr} {sl_L_drawn : Array (Option Value)}
    (a_L_drawn : PySem.W.nsIn K mainGlobals "_law_drawn" = some (some (.ref f_L_drawn)))
    (l_L_drawn : K.lookup f_L_drawn = some ⟨oc_L_drawn, od_L_drawn, .func (PySem.W.fnOf "_law_drawn" "_law_drawn" (defArgs s_L_drawn) (defBody s_L_drawn) (defScope s_L_drawn) .none kV_L_drawn dc_L_drawn pm_L_drawn an_L_drawn cd_L_drawn ct_L_drawn), sl_L_drawn⟩)
    (c_L_drawn : PySem.W.codeIn K cd_L_drawn "_law_drawn" = true)
    (k_L_drawn : PySem.W.keepIn K (.ref f_L_drawn) = true)
    {f_L_room : Addr} {oc_L_room kV_L_room dc_L_room pm_L_room cd_L_room ct_L_room : Value} {od_L_room an_L_room : Option Addr} {sl_L_room : Array (Option Value)}
    (a_L_room : PySem.W.nsIn K mainGlobals "_law_room" = some (some (.ref f_L_room)))
    (l_L_room : K.lookup f_L_room = some ⟨oc_L_room, od_L_room, .func (PySem.W.fnOf "_law_room" "_law_room" (defArgs s_L_room) (defBody s_L_room) (defScope s_L_room) .none kV_L_room dc_L_room pm_L_room an_L_room cd_L_room ct_L_room), sl_L_room⟩)
    (c_L_room : PySem.W.codeIn K cd_L_room "_law_room" = true)
    (k_L_room : PySem.W.keepIn K (.ref f_L_room) = true)
    {f_L_gaps : Addr} {oc_L_gaps kV_L_gaps dc_L_gaps pm_L_gaps cd_L_gaps ct_L_gaps : Value} {od_L_gaps an_L_gaps : Option Addr} {sl_L_gaps : Array (Option Value)}
    (a_L_gaps : PySem.W.nsIn K mainGlobals "_law_gaps" = some (some (.ref f_L_gaps)))
    (l_L_gaps : K.lookup f_L_gaps = some ⟨oc_L_gaps, od_L_gaps, .func (PySem.W.fnOf "_law_gaps" "_law_gaps" (defArgs s_L_gaps) (defBody s_L_gaps) (defScope s_L_gaps) .none kV_L_gaps dc_L_gaps pm_L_gaps an_L_gaps cd_L_gaps ct_L_gaps), sl_L_gaps⟩)
    (c_L_gaps : PySem.W.codeIn K cd_L_gaps "_law_gaps" = true)
    (k_L_gaps : PySem.W.keepIn K (.ref f_L_gaps) = true)
    {f_L_moved : Addr} {oc_L_moved kV_L_moved dc_L_moved pm_L_moved cd_L_moved ct_L_moved : Value} {od_L_moved an_L_moved : Option Addr} {sl_L_moved : Array (Option Value)}
    (a_L_moved : PySem.W.nsIn K mainGlobals "_law_moved" = some (some (.ref f_L_moved)))
    (l_L_moved : K.lookup f_L_moved = some ⟨oc_L_moved, od_L_moved, .func (PySem.W.fnOf "_law_moved" "_law_moved" (defArgs s_L_moved) (defBody s_L_moved) (defScope s_L_moved) .none kV_L_moved dc_L_moved pm_L_moved an_L_moved cd_L_moved ct_L_moved), sl_L_moved⟩)
    (c_L_moved : PySem.W.codeIn K cd_L_moved "_law_moved" = true)
    (k_L_moved : PySem.W.keepIn K (.ref f_L_moved) = true)
    {f_L_other : Addr} {oc_L_other kV_L_other dc_L_other pm_L_other cd_L_other ct_L_other : Value} {od_L_other an_L_other : Option Addr} {sl_L_other : Array (Option Value)}
    (a_L_other : PySem.W.nsIn K mainGlobals "_law_other" = some (some (.ref f_L_other)))
    (l_L_other : K.lookup f_L_other = some ⟨oc_L_other, od_L_other, .func (PySem.W.fnOf "_law_other" "_law_other" (defArgs s_L_other) (defBody s_L_other) (defScope s_L_other) .none kV_L_other dc_L_other pm_L_other an_L_other cd_L_other ct_L_other), sl_L_other⟩)
    (c_L_other : PySem.W.codeIn K cd_L_other "_law_other" = true)
    (k_L_other : PySem.W.keepIn K (.ref f_L_other) = true)
    {f_law : Addr} {oc_law kV_law dc_law pm_law cd_law ct_law : Value} {od_law an_law : Option Addr} {sl_law : Array (Option Value)}
    (a_law : PySem.W.nsIn K mainGlobals "law" = some (some (.ref f_law)))
    (l_law : K.lookup f_law = some ⟨oc_law, od_law, .func (PySem.W.fnOf "law" "law" (defArgs s_law) (defBody s_law) (defScope s_law) .none kV_law dc_law pm_law an_law cd_law ct_law), sl_law⟩)
    (c_law : PySem.W.codeIn K cd_law "law" = true)
    (k_law : PySem.W.keepIn K (.ref f_law) = true)
    {tk_LEAST_LIVE : Tok}
    {C_StowError C_Broken C_NoAsk C_NoRoom : Addr}
    (z_bool : PySem.W.nsIn K mainGlobals "bool" = some none)
    (z_int : PySem.W.nsIn K mainGlobals "int" = some none)
    (z_isinstance : PySem.W.nsIn K mainGlobals "isinstance" = some none)
    (z_len : PySem.W.nsIn K mainGlobals "len" = some none)
    (z_list : PySem.W.nsIn K mainGlobals "list" = some none)
    (z_max : PySem.W.nsIn K mainGlobals "max" = some none)
    (z_min : PySem.W.nsIn K mainGlobals "min" = some none)
    (z_range : PySem.W.nsIn K mainGlobals "range" = some none)
    (z_sum : PySem.W.nsIn K mainGlobals "sum" = some none)
    (z_tuple : PySem.W.nsIn K mainGlobals "tuple" = some none)
    (g_LEAST_LIVE : PySem.W.nsIn K mainGlobals "LEAST_LIVE" = some (some (.int 3 tk_LEAST_LIVE)))
    (cc_StowError : PySem.W.nsIn K mainGlobals "StowError" = some (some (.ref C_StowError)))
    (cc_Broken : PySem.W.nsIn K mainGlobals "Broken" = some (some (.ref C_Broken)))
    (cc_NoAsk : PySem.W.nsIn K mainGlobals "NoAsk" = some (some (.ref C_NoAsk)))
    (cc_NoRoom : PySem.W.nsIn K mainGlobals "NoRoom" = some (some (.ref C_NoRoom)))
    (s1_Broken : PySem.W.findIn K (.ref C_Broken) "__setattr__" = some (some (.builtin "object.__setattr__")))
    {cd_Broken : ClassData}
    (s2_Broken : PySem.W.clsIn K C_Broken = some cd_Broken)
    (s5_Broken : excTail cd_Broken.mro = true)
    (s6_Broken : cd_Broken.hasDict = true)
    (s3_Broken : PySem.W.mroIn K C_Broken (.type "object") = some true)
    (s4_Broken : PySem.W.findIn K (.ref C_Broken) "cell" = some none)
    (xx_NoAsk : PySem.W.excIn K C_NoAsk [.type "ValueError", .type "Exception", .type "BaseException", .type "object"] "ValueError.__new__" = true)
    (xx_NoRoom : PySem.W.excIn K C_NoRoom [.type "ValueError", .type "Exception", .type "BaseException", .type "object"] "ValueError.__new__" = true)
    {nm_Broken qn_Broken : Str} {N_Broken : Addr} {bs_Broken bm_Broken : List Value} {hd_Broken : Bool} {sn_Broken : List Str} {sub_Broken : List Value} {ab_Broken : Bool} {col_Broken : Option Bool} {dd_Broken : Option Addr} {k0_Broken k1_Broken k2_Broken k3_Broken k5_Broken : Option Value} {ni_Broken : String}
    (lc_Broken : K.lookup C_Broken = some (excClassObj nm_Broken qn_Broken C_Broken N_Broken bs_Broken bm_Broken hd_Broken sn_Broken sub_Broken ab_Broken col_Broken dd_Broken k0_Broken k1_Broken k2_Broken k3_Broken k5_Broken ni_Broken))
    (xx_StowError : PySem.W.excIn K C_StowError [.type "ValueError", .type "Exception", .type "BaseException", .type "object"] "ValueError.__new__" = true)
    (kp_Broken : PySem.W.keepIn K (.ref C_Broken) = true)
    {f_Broken_init : Addr} {oc_Broken_init kV_Broken_init dc_Broken_init pm_Broken_init cd_Broken_init ct_Broken_init : Value} {od_Broken_init an_Broken_init : Option Addr} {sl_Broken_init : Array (Option Value)}
    (a_Broken_init : PySem.W.findIn K (.ref C_Broken) "__init__" = some (some (.ref f_Broken_init)))
    (l_Broken_init : K.lookup f_Broken_init = some ⟨oc_Broken_init, od_Broken_init, .func (PySem.W.fnOf "__init__" "Broken.__init__" (defArgs s_Broken_init) (defBody s_Broken_init) (defScope s_Broken_init) .none kV_Broken_init dc_Broken_init pm_Broken_init an_Broken_init cd_Broken_init ct_Broken_init), sl_Broken_init⟩)
    (c_Broken_init : PySem.W.codeIn K cd_Broken_init "Broken.__init__" = true)
    (k_Broken_init : PySem.W.keepIn K (.ref f_Broken_init) = true)
    (eb_Broken : bm_Broken = .ref C_StowError :: [.type "ValueError", .type "Exception", .type "BaseException", .type "object"])
    (en_Broken : ni_Broken = "ValueError.__new__")
    (eo_Broken : oc_Broken_init = .type "function") :
    ∃ fd : FuncData, (∀ (s : Shared) (v : Value), BindsTo s fd ⟨[v], []⟩ [("_law_script", v)]) ∧ ∀ base : Heap, K.In base → base.Ns mainGlobals mg → FnOk l.prog w K mg base (CXe l.prog w) 7 fa fd ["_law_script"] (spLaw K) := by
  have e := hfa.symm.trans (PySem.W.mg_of X G a_law)
  cases e
  have T : Txt K mg C_StowError C_Broken C_NoAsk C_NoRoom tk_LEAST_LIVE := ⟨PySem.W.mg_none_of X G z_bool, PySem.W.mg_none_of X G z_int, PySem.W.mg_none_of X G z_isinstance, PySem.W.mg_none_of X G z_len, PySem.W.mg_none_of X G z_list, PySem.W.mg_none_of X G z_max, PySem.W.mg_none_of X G z_min, PySem.W.mg_none_of X G z_range, PySem.W.mg_none_of X G z_sum, PySem.W.mg_none_of X G z_tuple, PySem.W.mg_of X G g_LEAST_LIVE, PySem.W.mg_of X G cc_StowError, PySem.W.mg_of X G cc_Broken, PySem.W.mg_of X G cc_NoAsk, PySem.W.mg_of X G cc_NoRoom, ⟨s1_Broken, ⟨_, s2_Broken, s5_Broken, s6_Broken⟩, s3_Broken, s4_Broken⟩, ⟨PySem.W.mg_of X G cc_NoAsk, _, _, _, _, xx_NoAsk, PySem.F.excBase_ValueError, PySem.F.excBase_ValueError.hasBase⟩, ⟨PySem.W.mg_of X G cc_NoRoom, _, _, _, _, xx_NoRoom, PySem.F.excBase_ValueError, PySem.F.excBase_ValueError.hasBase⟩⟩
  have S_mark_of := src_mk (st := s_mark_of) X G a_mark_of l_mark_of c_mark_of k_mark_of
  have S_long_of := src_mk (st := s_long_of) X G a_long_of l_long_of c_long_of k_long_of
  have S_live_of := src_mk (st := s_live_of) X G a_live_of l_live_of c_live_of k_live_of
  have S_can_begin := src_mk (st := s_can_begin) X G a_can_begin l_can_begin c_can_begin k_can_begin
  have S_bad_of_piece := src_mk (st := s_bad_of_piece) X G a_bad_of_piece l_bad_of_piece c_bad_of_piece k_bad_of_piece
  have S_looked := src_mk (st := s_looked) X G a_looked l_looked c_looked k_looked
  have S_laid := src_mk (st := s_laid) X G a_laid l_laid c_laid k_laid
  have S_carried := src_mk (st := s_carried) X G a_carried l_carried c_carried k_carried
  have S_starts_of := src_mk (st := s_starts_of) X G a_starts_of l_starts_of c_starts_of k_starts_of
  have S_stops_of := src_mk (st := s_stops_of) X G a_stops_of l_stops_of c_stops_of k_stops_of
  have S_best_plan := src_mk (st := s_best_plan) X G a_best_plan l_best_plan c_best_plan k_best_plan
  have S_moved_down := src_mk (st := s_moved_down) X G a_moved_down l_moved_down c_moved_down k_moved_down
  have S_gathered := src_mk (st := s_gathered) X G a_gathered l_gathered c_gathered k_gathered
  have S_L_cell_at := src_mk (st := s_L_cell_at) X G a_L_cell_at l_L_cell_at c_L_cell_at k_L_cell_at
  have S_L_whole := src_mk (st := s_L_whole) X G a_L_whole l_L_whole c_L_whole k_L_whole
  have S_L_walk := src_mk (st := s_L_walk) X G a_L_walk l_L_walk c_L_walk k_L_walk
  have S_L_drawn := src_mk (st := s_L_drawn) X G a_L_drawn l_L_drawn c_L_drawn k_L_drawn
  have S_L_room := src_mk (st := s_L_room) X G a_L_room l_L_room c_L_room k_L_room
  have S_L_gaps := src_mk (st := s_L_gaps) X G a_L_gaps l_L_gaps c_L_gaps k_L_gaps
  have S_L_moved := src_mk (st := s_L_moved) X G a_L_moved l_L_moved c_L_moved k_L_moved
  have S_L_other := src_mk (st := s_L_other) X G a_L_other l_L_other c_L_other k_L_other
  subst eb_Broken en_Broken eo_Broken
  have XI_Broken : XIni K mg "Broken" C_Broken C_StowError f_Broken_init := ⟨PySem.W.mg_of X G cc_Broken, ⟨_, _, _, _, _, _, _, _, _, _, _, _, _, _, _, lc_Broken⟩, xx_StowError, a_Broken_init, kp_Broken, ⟨_, _, _, _, l_Broken_init, rfl⟩⟩
  refine ⟨PySem.W.fnOf "law" "law" (defArgs s_law) (defBody s_law) (defScope s_law) .none kV_law dc_law pm_law an_law cd_law ct_law, fun s v => .of_eq rfl, fun base _ _ => ?_⟩
  have D_mark_of := d_mark_of (P := l.prog) (w := w) (base := base) S_mark_of T 
  have D_long_of := d_long_of (P := l.prog) (w := w) (base := base) S_long_of T 
  have D_live_of := d_live_of (P := l.prog) (w := w) (base := base) S_live_of T 
  have D_can_begin := d_can_begin (P := l.prog) (w := w) (base := base) S_can_begin T D_long_of D_live_of
  have D_bad_of_piece := d_bad_of_piece (P := l.prog) (w := w) (base := base) S_bad_of_piece T D_long_of D_can_begin
  have D_Broken := d_Broken (P := l.prog) (w := w) (base := base) (fun_mk l_Broken_init c_Broken_init k_Broken_init) XI_Broken T.s_Broken
  have D_looked := d_looked (P := l.prog) (w := w) (base := base) S_looked T D_long_of D_live_of D_bad_of_piece D_Broken
  have D_laid := d_laid (P := l.prog) (w := w) (base := base) S_laid T D_mark_of
  have D_carried := d_carried (P := l.prog) (w := w) (base := base) S_carried T 
  have D_starts_of := d_starts_of (P := l.prog) (w := w) (base := base) S_starts_of T 
  have D_stops_of := d_stops_of (P := l.prog) (w := w) (base := base) S_stops_of T 
  have D_best_plan := d_best_plan (P := l.prog) (w := w) (base := base) S_best_plan T D_looked D_starts_of D_stops_of
  have D_moved_down := d_moved_down (P := l.prog) (w := w) (base := base) S_moved_down T D_looked D_carried D_laid
  have D_gathered := d_gathered (P := l.prog) (w := w) (base := base) S_gathered T D_best_plan D_moved_down
  have D_L_cell_at := d_L_cell_at (P := l.prog) (w := w) (base := base) S_L_cell_at T 
  have D_L_whole := d_L_whole (P := l.prog) (w := w) (base := base) S_L_whole T 
  have D_L_drawn := d_L_drawn (P := l.prog) (w := w) (base := base) S_L_drawn T D_L_cell_at
  have D_L_room := d_L_room (P := l.prog) (w := w) (base := base) S_L_room T 
  have D_L_walk := d_L_walk (P := l.prog) (w := w) (base := base) S_L_walk T D_L_whole
  have D_L_gaps := d_L_gaps (P := l.prog) (w := w) (base := base) S_L_gaps T 
  have D_L_moved := d_L_moved (P := l.prog) (w := w) (base := base) S_L_moved T 
  have D_L_other := d_L_other (P := l.prog) (w := w) (base := base) S_L_other T 
  exact ok_law (fun_mk l_law c_law k_law) T D_L_cell_at D_L_whole D_L_drawn D_L_room D_L_gaps D_gathered D_L_walk D_L_moved D_L_other
theorem walk {l : PySem.W.OpenLaw} {q : Program} {loose : List Str} {XP : (Str → Option Value) → Heap → Prop} {YP : World → Heap → Prop} {d : DefRec} {K : Params → PySem.W.Frag} (hn : l.most = some 63) (hdf : d.params.defaults = [])
    (hY : ∀ (w : World) (h : Heap), YP w h → (K w.params).In h)
    (F : ∀ (w : World) (mg : Str → Option Value) (fa : Addr) (h : Heap), (K w.params).In h → h.Ns mainGlobals mg → mg d.name = some (.ref fa) →
      ∃ fd : FuncData, (∀ (s : Shared) (u : Value), BindsTo s fd ⟨[u], []⟩ [("_law_script", u)]) ∧ ∀ base : Heap, (K w.params).In base → base.Ns mainGlobals mg → FnOk l.prog w (K w.params) mg base (CXe l.prog w) 7 fa fd ["_law_script"] (spLaw (K w.params))) :
    PySem.W.WalkO q loose XP YP l.row.toRowW d [] (fun f vs => PySem.call f vs) :=
  L2.walk_of (n := 63) (k := 7) (x := "_law_script") (CX := fun w => (CXe l.prog w)) (sp := fun w => spLaw (K w.params)) hn (by decide) hdf ⟨rfl, by decide, by decide⟩ hY F (fun _ _ a ns hl _ hS => ⟨a, ns, rfl, hS, hl, fun _ => rfl⟩) (fun _ _ _ _ _ ⟨_, _, _, _, _, _, _, _, _, _, _, _, _, _, _, z⟩ => z)
end Stow
open PySem PySem.W PyProof.Rows
set_option maxRecDepth 100000 in
set_option maxHeartbeats 0 in
theorem PySem.Challenge.cw_stow_k42_whole_no_moving_moves_fewer_holds : PySem.Challenge.rw_stow_k42_whole_no_moving_moves_fewer.Holds := by
  w_on; o_law; k_head; (case hw => w_witness2)
  k_fill
  refine Stow.walk (l := PySem.Challenge.rw_stow_k42_whole_no_moving_moves_fewer) rfl rfl (fun w h Y => PySem.W.kIn_of Y) ?F
  case F =>
    intro w mg fa h KX G hmg
    refine' Stow.all_mk KX G hmg ?a_mark_of ?l_mark_of ?c_mark_of ?k_mark_of ?a_long_of ?l_long_of ?c_long_of ?k_long_of ?a_live_of ?l_live_of ?c_live_of ?k_live_of ?a_can_begin ?l_can_begin ?c_can_begin ?k_can_begin ?a_bad_of_piece ?l_bad_of_piece ?c_bad_of_piece ?k_bad_of_piece ?a_looked ?l_looked ?c_looked ?k_looked ?a_laid ?l_laid ?c_laid ?k_laid ?a_carried ?l_carried ?c_carried ?k_carried ?a_starts_of ?l_starts_of ?c_starts_of ?k_starts_of ?a_stops_of ?l_stops_of ?c_stops_of ?k_stops_of ?a_best_plan ?l_best_plan ?c_best_plan ?k_best_plan ?a_moved_down ?l_moved_down ?c_moved_down ?k_moved_down ?a_gathered ?l_gathered ?c_gathered ?k_gathered ?a_L_cell_at ?l_L_cell_at ?c_L_cell_at ?k_L_cell_at ?a_L_whole ?l_L_whole ?c_L_whole ?k_L_whole ?a_L_walk ?l_L_walk ?c_L_walk ?k_L_walk ?a_L_drawn ?l_L_drawn ?c_L_drawn ?k_L_drawn ?a_L_room ?l_L_room ?c_L_room ?k_L_room ?a_L_gaps ?l_L_gaps ?c_L_gaps ?k_L_gaps ?a_L_moved ?l_L_moved ?c_L_moved ?k_L_moved ?a_L_other ?l_L_other ?c_L_other ?k_L_other ?a_law ?l_law ?c_law ?k_law ?z_bool ?z_int ?z_isinstance ?z_len ?z_list ?z_max ?z_min ?z_range ?z_sum ?z_tuple ?g_LEAST_LIVE ?cc_StowError ?cc_Broken ?cc_NoAsk ?cc_NoRoom ?s1_Broken ?s2_Broken ?s5_Broken ?s6_Broken ?s3_Broken ?s4_Broken ?xx_NoAsk ?xx_NoRoom ?lc_Broken ?xx_StowError ?kp_Broken ?a_Broken_init ?l_Broken_init ?c_Broken_init ?k_Broken_init ?eb_Broken ?en_Broken ?eo_Broken
    (case a_mark_of => k_is)
    (case l_mark_of => k_is)
    (case c_mark_of => k_is)
    (case k_mark_of => k_is)
    (case a_long_of => k_is)
    (case l_long_of => k_is)
    (case c_long_of => k_is)
    (case k_long_of => k_is)
    (case a_live_of => k_is)
    (case l_live_of => k_is)
    (case c_live_of => k_is)
    (case k_live_of => k_is)
    (case a_can_begin => k_is)
    (case l_can_begin => k_is)
    (case c_can_begin => k_is)
    (case k_can_begin => k_is)
    (case a_bad_of_piece => k_is)
    (case l_bad_of_piece => k_is)
    (case c_bad_of_piece => k_is)
    (case k_bad_of_piece => k_is)
    (case a_looked => k_is)
    (case l_looked => k_is)
    (case c_looked => k_is)
    (case k_looked => k_is)
    (case a_laid => k_is)
    (case l_laid => k_is)
    (case c_laid => k_is)
    (case k_laid => k_is)
    (case a_carried => k_is)
    (case l_carried => k_is)
    (case c_carried => k_is)
    (case k_carried => k_is)
    (case a_starts_of => k_is)
    (case l_starts_of => k_is)
    (case c_starts_of => k_is)
    (case k_starts_of => k_is)
    (case a_stops_of => k_is)
    (case l_stops_of => k_is)
    (case c_stops_of => k_is)
    (case k_stops_of => k_is)
    (case a_best_plan => k_is)
    (case l_best_plan => k_is)
    (case c_best_plan => k_is)
    (case k_best_plan => k_is)
    (case a_moved_down => k_is)
    (case l_moved_down => k_is)
    (case c_moved_down => k_is)
    (case k_moved_down => k_is)
    (case a_gathered => k_is)
    (case l_gathered => k_is)
    (case c_gathered => k_is)
    (case k_gathered => k_is)
    (case a_L_cell_at => k_is)
    (case l_L_cell_at => k_is)
    (case c_L_cell_at => k_is)
    (case k_L_cell_at => k_is)
    (case a_L_whole => k_is)
    (case l_L_whole => k_is)
    (case c_L_whole => k_is)
    (case k_L_whole => k_is)
    (case a_L_walk => k_is)
    (case l_L_walk => k_is)
    (case c_L_walk => k_is)
    (case k_L_walk => k_is)
    (case a_L_drawn => k_is)
    (case l_L_drawn => k_is)
    (case c_L_drawn => k_is)
    (case k_L_drawn => k_is)
    (case a_L_room => k_is)
    (case l_L_room => k_is)
    (case c_L_room => k_is)
    (case k_L_room => k_is)
    (case a_L_gaps => k_is)
    (case l_L_gaps => k_is)
    (case c_L_gaps => k_is)
    (case k_L_gaps => k_is)
    (case a_L_moved => k_is)
    (case l_L_moved => k_is)
    (case c_L_moved => k_is)
    (case k_L_moved => k_is)
    (case a_L_other => k_is)
    (case l_L_other => k_is)
    (case c_L_other => k_is)
    (case k_L_other => k_is)
    (case a_law => k_is)
    (case l_law => k_is)
    (case c_law => k_is)
    (case k_law => k_is)
    (case z_bool => k_is)
    (case z_int => k_is)
    (case z_isinstance => k_is)
    (case z_len => k_is)
    (case z_list => k_is)
    (case z_max => k_is)
    (case z_min => k_is)
    (case z_range => k_is)
    (case z_sum => k_is)
    (case z_tuple => k_is)
    (case g_LEAST_LIVE => k_is)
    (case cc_StowError => k_is)
    (case cc_Broken => k_is)
    (case cc_NoAsk => k_is)
    (case cc_NoRoom => k_is)
    (case s1_Broken => k_is)
    (case s2_Broken => k_is)
    (case s5_Broken => decide +kernel)
    (case s6_Broken => rfl)
    (case s3_Broken => k_is)
    (case s4_Broken => k_is)
    (case xx_NoAsk => k_exc)
    (case xx_NoRoom => k_exc)
    (case lc_Broken => k_is)
    (case xx_StowError => k_exc)
    (case kp_Broken => k_is)
    (case a_Broken_init => k_is)
    (case l_Broken_init => k_is)
    (case c_Broken_init => k_is)
    (case k_Broken_init => k_is)
    (case eb_Broken => rfl)
    (case en_Broken => rfl)
    (case eo_Broken => rfl)

