import PyProof.Rows.All
import Wide.All
import OpenK.AllK
import Wide.FinOn
import Lean
import PyProof.EqAt
import PyProof.EqKinds
import PyProof.TupleCall
import PySem.Challenge.RW_bellsaway_k05_what_is_no_clock
set_option Elab.async false
set_option linter.all false
set_option maxRecDepth 100000
/-! THE HAND LAYER, for ints, bools, texts, own classes, LISTS and tuples (index, slices, in, append, pop ..), calls, loops. Paste it whole ahead of your own text; what your proof does not reach may be deleted. -/
namespace L2
open PySem PySem.Spec PyProof.Rows

/-- a key: an int or a str -/
abbrev Key := Sum Int Str
def keyIs : Key → Value → Bool
  | .inl k, v => Value.isInt k v
  | .inr x, v => Value.isStrOf x v
def keyH (w : World) : Key → Int
  | .inl k => hashInt k
  | .inr x => hashStr w x
theorem keyIs_shape : ∀ {k : Key} {v : Value}, keyIs k v = true → (∃ i t, k = Sum.inl i ∧ v = Value.int i t) ∨ (∃ x t, k = Sum.inr x ∧ v = Value.str x t)
  | .inl i, v, h => by
    obtain ⟨t, e⟩ := Value.isInt_shape (k := i) (v := v) h
    exact .inl ⟨i, t, rfl, e⟩
  | .inr x, v, h => by
    obtain ⟨t, e⟩ := Value.isStrOf_shape (x := x) (v := v) h
    exact .inr ⟨x, t, rfl, e⟩
theorem key_ll (a b : Int) : decide ((Sum.inl a : Key) = Sum.inl b) = (a == b) := by
  by_cases e : a = b
  · subst e; simp
  · have h : ¬ (Sum.inl a : Key) = Sum.inl b := fun q => e (Sum.inl.inj q)
    rw [decide_eq_false h]
    exact (beq_eq_false_iff_ne.mpr e).symm
theorem key_rr (a b : Str) : decide ((Sum.inr a : Key) = Sum.inr b) = decide (a = b) := by
  by_cases e : a = b
  · subst e; simp
  · have h : ¬ (Sum.inr a : Key) = Sum.inr b := fun q => e (Sum.inr.inj q)
    rw [decide_eq_false h, decide_eq_false e]
theorem key_lr (a : Int) (b : Str) : decide ((Sum.inl a : Key) = Sum.inr b) = false := decide_eq_false (fun q => nomatch q)
theorem key_rl (a : Str) (b : Int) : decide ((Sum.inr a : Key) = Sum.inl b) = false := decide_eq_false (fun q => nomatch q)

def mixKind (prog : Program) (w : World) : PySem.KeyKind prog w Key where
  is := keyIs
  hash := keyH w
  inj := fun v a b ha hb => by
    rcases keyIs_shape ha with ⟨i, t, rfl, rfl⟩ | ⟨x, t, rfl, rfl⟩
    · rcases keyIs_shape hb with ⟨j, u, rfl, e⟩ | ⟨y, u, rfl, e⟩
      · injection e with e1 _; rw [e1]
      · exact nomatch e
    · rcases keyIs_shape hb with ⟨j, u, rfl, e⟩ | ⟨y, u, rfl, e⟩
      · exact nomatch e
      · injection e with e1 _; rw [e1]
  byValue := fun k v h => by
    rcases keyIs_shape h with ⟨i, t, rfl, rfl⟩ | ⟨x, t, rfl, rfl⟩ <;> rfl
  pyHash := fun hv h => by
    rcases keyIs_shape hv with ⟨i, t, rfl, rfl⟩ | ⟨x, t, rfl, rfl⟩
    · exact wpAny_pyHash_int h
    · exact wpAny_pyHash_str h
  eqBool := fun hu hv h => by
    rcases keyIs_shape hu with ⟨i, t, rfl, rfl⟩ | ⟨x, t, rfl, rfl⟩
    · rcases keyIs_shape hv with ⟨j, u, rfl, rfl⟩ | ⟨y, u, rfl, rfl⟩
      · rw [key_ll] at h; exact wpAny_eqBool_int h
      · rw [key_lr] at h; exact SeqAt.EqAt.int_str i t y u _ _ _ _ h
    · rcases keyIs_shape hv with ⟨j, u, rfl, rfl⟩ | ⟨y, u, rfl, rfl⟩
      · rw [key_rl] at h; exact SeqAt.EqAt.str_int x t j u _ _ _ _ h
      · rw [key_rr] at h; exact wpAny_eqBool_str h
  «strs» := fun k x t v h => by
    rcases keyIs_shape h with ⟨i, u, rfl, e⟩ | ⟨y, u, rfl, e⟩
    · exact nomatch e
    · injection e with e1 _
      subst e1
      cases v <;> rfl

end L2

namespace L2
open PySem PySem.Spec PyProof.Rows

/-- a value, without the heap -/
inductive V where
  | non | bl (b : Bool) | int (i : Int) | str (x : Str) | byt (b : Array UInt8) | flt (b : UInt64) | ref (a : Addr) | ty (n : String)
  deriving DecidableEq

def RelV : V → Value → Prop
  | .non, u => u = Value.none
  | .bl b, u => u = Value.bool b
  | .int i, u => ∃ t, u = Value.int i t
  | .str x, u => ∃ t, u = Value.str x t
  | .byt b, u => ∃ t, u = Value.bytes b t
  | .flt b, u => ∃ t, u = Value.float b t
  | .ref a, u => u = Value.ref a
  | .ty n, u => u = Value.type n

abbrev Vals : List V → List Value → Prop := Paired RelV
theorem Vals.length {xs : List V} {us : List Value} (r : Vals xs us) : xs.length = us.length := Paired.length r
theorem Vals.get : ∀ {xs : List V} {us : List Value} {i : Nat} {x : V}, Vals xs us → xs[i]? = some x → ∃ u, us[i]? = some u ∧ RelV x u
  | _, _, _, _, .nil, e => by simp at e
  | _, _, 0, _, .cons r _, e => by simp at e; subst e; exact ⟨_, rfl, r⟩
  | _, _, i + 1, x, .cons _ t, e => by
    obtain ⟨u, h1, h2⟩ := Vals.get (i := i) (x := x) t (by simpa using e)
    exact ⟨u, by simpa using h1, h2⟩
theorem Vals.set {x : V} {u : Value} (r : RelV x u) : ∀ {xs : List V} {us : List Value} (i : Nat), Vals xs us → Vals (xs.set i x) (us.set i u)
  | _, _, _, .nil => .nil
  | _, _, 0, .cons _ t => .cons r t
  | _, _, i + 1, .cons q t => .cons q (Vals.set r i t)
theorem Vals.append : ∀ {xs ys : List V} {us ws : List Value}, Vals xs us → Vals ys ws → Vals (xs ++ ys) (us ++ ws)
  | _, _, _, _, .nil, s => s
  | _, _, _, _, .cons r t, s => .cons r (Vals.append t s)
theorem Vals.take : ∀ {xs : List V} {us : List Value} (n : Nat), Vals xs us → Vals (xs.take n) (us.take n)
  | _, _, 0, _ => .nil
  | _, _, _ + 1, .nil => .nil
  | _, _, n + 1, .cons r t => .cons r (Vals.take n t)
theorem Vals.drop : ∀ {xs : List V} {us : List Value} (n : Nat), Vals xs us → Vals (xs.drop n) (us.drop n)
  | _, _, 0, r => r
  | _, _, _ + 1, .nil => .nil
  | _, _, n + 1, .cons _ t => Vals.drop n t
def RelO : Option V → Option Value → Prop
  | some v, some u => RelV v u
  | none, none => True
  | _, _ => False
def KV {κ : Type} : List (κ × V) → List (κ × Value) → Prop := Paired fun (p : κ × V) (q : κ × Value) => p.1 = q.1 ∧ RelV p.2 q.2

/-- a key of a dict (00_mix): an int or a text -/
def kV : Key → V
  | .inl i => .int i
  | .inr x => .str x

/-- what stands at a tracked address -/
inductive HO where
  /-- a list -/
  | lst (xs : List V)
  /-- a tuple (never changes) -/
  | tup (xs : List V)
  /-- a dict whose keys are ints and texts; one whose keys are tuples of ints and texts (the empty one is both) -/
  | dK (kvs : List (Key × V)) | dT (kvs : List (List Key × V))
  /-- a set of ints: its members, its size -/
  | set (S : Int → Bool) (n : Nat)
  /-- an instance of the class at C, its dict at dx, its attributes -/
  | ins (C dx : Addr) (fs : List (Str × V))
  /-- the dict of the instance at x -/
  | own (x : Addr)
  /-- the dict of an exception -/
  | xd (fs : List (Str × V))
  /-- a bound method, f of x -/
  | met (f x : Addr)
  /-- a range object lo, lo + 1, .. below hi -/
  | rng (lo hi : Int)
  /-- a thing that is known to the object (the script; a dict while a loop walks it): read, never written while it is so -/
  | frz (o : Obj) (u : HO)
  /-- a code object's table -/
  | tbl (ps : Array Value)
  /-- any other thing, by what is true of its one object (a def of one's own: SetO a S n := HO.ext fun h => ..) -/
  | ext (φ : Heap → Prop)

abbrev Hp := Addr → Option HO
def upd (H : Hp) (a : Addr) (o : HO) : Hp := fun b => if b = a then some o else H b
theorem upd_same {H : Hp} {a : Addr} {o : HO} : upd H a o a = some o := by unfold upd; rw [if_pos rfl]
theorem upd_ne {H : Hp} {a b : Addr} {o : HO} (h : b ≠ a) : upd H a o b = H b := by unfold upd; rw [if_neg h]
/-- two objects of different content stand apart -/
theorem ne_of {H : Hp} {a b : Addr} {o u : HO} (h : H a = some o) (h' : H b = some u) (d : o ≠ u) : a ≠ b := by
  intro e; subst e; rw [h] at h'; exact d (Option.some.inj h')
theorem ne_of_none {H : Hp} {a b : Addr} {o : HO} (h : H a = some o) (h' : H b = none) : a ≠ b := by
  intro e; subst e; rw [h] at h'; cases h'

section
variable (P : Program) (w : World)
def ObjOk (H : Hp) (h : Heap) (a : Addr) : HO → Prop
  | .lst xs => xs.length ≤ sizeLine ∧ ∃ (its : List Value) (n : Nat), Vals xs its ∧ h.get? a = some { cls := .type "list", data := .seq its.toArray n }
  | .tup xs => xs.length ≤ sizeLine ∧ ∃ its : List Value, Vals xs its ∧ IsTup h a its.toArray
  | .dK kvs => kvs.length ≤ sizeLine ∧ (a == sysModules) = false ∧ ∃ vs, KV kvs vs ∧ h.DictOf (mixKind P w) a vs
  | .dT kvs => kvs.length ≤ sizeLine ∧ (a == sysModules) = false ∧ ∃ xs : List (List Key × Addr × Value),
      Paired (fun (p : List Key × V) (q : List Key × Addr × Value) => p.1 = q.1 ∧ H q.2.1 = some (.tup (p.1.map kV)) ∧ RelV p.2 q.2.2) kvs xs ∧
      ∃ o es ep, h.get? a = some o ∧ o.ExactDict ∧ o.data = .dict es ep ∧ es.toList = xs.map (entryOfKey (tupleKind (mixKind P w))) ∧ (xs.map (·.1)).Nodup
  | .set S n => h.SetOf (intKind P w) a S n
  | .ins C dx fs => H dx = some (.own a) ∧ fs.length ≤ 1000 ∧ dx ≠ a ∧ h.get? a = some (PySem.W.instObj C dx) ∧
      ∃ mA, h.Ns1 dx mA ∧ (∀ f, RelO (fs.lookup f) (mA f)) ∧ PySem.Within mA (fs.map (·.1))
  | .own _ => ∃ o, h.get? a = some o
  | .xd fs => ∃ mA, h.Ns1 a mA ∧ ∀ f, RelO (fs.lookup f) (mA f)
  | .rng lo hi => ∃ t u v, h.get? a = some { cls := .type "range", data := .fields #[.int lo t, .int hi u, .int 1 v] }
  | .frz o u => h.get? a = some o ∧ ObjOk H h a u
  | .tbl ps => h.get? a = some { cls := .none, data := .fields ps }
  | .met f x => h.get? a = some (PySem.W.methodObj (.ref f) (.ref x))
  | .ext φ => φ h ∧ (∃ o, h.get? a = some o) ∧ ∀ h1 h2 : Heap, φ h1 → (∀ o, h1.get? a = some o → h2.get? a = some o) → φ h2
/-- the abstract heap is held -/
def HOk (H : Hp) (h : Heap) : Prop := ∀ a o, H a = some o → ObjOk P w H h a o
end

section
variable {P : Program} {w : World} {H H' : Hp} {h h' : Heap} {a : Addr} {o : HO}
theorem ObjOk.lt (x : ObjOk P w H h a o) : a < h.objs.size := by
  cases o with
  | lst xs => obtain ⟨_, _, _, _, e⟩ := x; exact Heap.lt_size e
  | tup xs => obtain ⟨_, _, _, p⟩ := x; exact p.lt
  | dK kvs => obtain ⟨_, _, _, _, o, _, _, e, _⟩ := x; exact Heap.lt_size e
  | dT kvs => obtain ⟨_, _, _, _, o, _, _, e, _⟩ := x; exact Heap.lt_size e
  | set S n => obtain ⟨o, _, _, _, e, _⟩ := x; exact Heap.lt_size e
  | ins C dx fs => obtain ⟨_, _, _, e, _⟩ := x; exact Heap.lt_size e
  | own y => obtain ⟨_, e⟩ := x; exact Heap.lt_size e
  | xd fs => obtain ⟨_, ⟨_, _, _, e, _⟩, _⟩ := x; exact Heap.lt_size e
  | rng lo hi => obtain ⟨_, _, _, e⟩ := x; exact Heap.lt_size e
  | frz ob u => obtain ⟨e, _⟩ := x; exact Heap.lt_size e
  | tbl ps => exact Heap.lt_size (show h.get? a = some _ from x)
  | met f y => exact Heap.lt_size (show h.get? a = some _ from x)
  | ext φ => obtain ⟨_, ⟨_, e⟩, _⟩ := x; exact Heap.lt_size e
theorem Paired.mapP {α β : Type} {F G : α → β → Prop} : ∀ {l₁ : List α} {l₂ : List β}, Paired F l₁ l₂ → (∀ a b, F a b → G a b) → Paired G l₁ l₂
  | _, _, .nil, _ => .nil
  | _, _, .cons r t, f => .cons (f _ _ r) (Paired.mapP t f)
/-- what an object's description leans on: its own object, its own dict, the tuples -/
theorem ObjOk.stay (x : ObjOk P w H h a o) (k : ∀ b u, (b = a ∨ H b = some (.own a)) → h.get? b = some u → h'.get? b = some u)
    (ho : ∀ b, H b = some (.own a) → H' b = some (.own a)) (ht : ∀ b xs, H b = some (.tup xs) → H' b = some (.tup xs)) : ObjOk P w H' h' a o := by
  induction o with
  | lst xs => obtain ⟨z, its, n, r, e⟩ := x; exact ⟨z, its, n, r, k _ _ (.inl rfl) e⟩
  | tup xs => obtain ⟨z, its, r, ob, e, c⟩ := x; exact ⟨z, its, r, ob, k _ _ (.inl rfl) e, c⟩
  | dK kvs => obtain ⟨z, y, vs, r, ob, es, ep, e, c⟩ := x; exact ⟨z, y, vs, r, ob, es, ep, k _ _ (.inl rfl) e, c⟩
  | dT kvs =>
    obtain ⟨z, y, xs, r, ob, es, ep, e, c⟩ := x
    exact ⟨z, y, xs, Paired.mapP r fun p q z => ⟨z.1, ht _ _ z.2.1, z.2.2⟩, ob, es, ep, k _ _ (.inl rfl) e, c⟩
  | set S n => obtain ⟨ob, es, ep, t, e, c⟩ := x; exact ⟨ob, es, ep, t, k _ _ (.inl rfl) e, c⟩
  | ins C dx fs =>
    obtain ⟨d, z, ne, e, mA, ⟨od, es, ep, e2, c⟩, r⟩ := x
    exact ⟨ho _ d, z, ne, k _ _ (.inl rfl) e, mA, ⟨od, es, ep, k _ _ (.inr d) e2, c⟩, r⟩
  | own y => obtain ⟨ob, e⟩ := x; exact ⟨ob, k _ _ (.inl rfl) e⟩
  | xd fs => obtain ⟨mA, ⟨od, es, ep, e, c⟩, r⟩ := x; exact ⟨mA, ⟨od, es, ep, k _ _ (.inl rfl) e, c⟩, r⟩
  | rng lo hi => obtain ⟨t, u, v, e⟩ := x; exact ⟨t, u, v, k _ _ (.inl rfl) e⟩
  | frz ob u ih => obtain ⟨e, q⟩ := x; exact ⟨k _ _ (.inl rfl) e, ih q⟩
  | tbl ps =>
    have e : h.get? a = some { cls := .none, data := .fields ps } := x
    show h'.get? a = some { cls := .none, data := .fields ps }
    exact k a _ (.inl rfl) e
  | met f y =>
    have e : h.get? a = some (PySem.W.methodObj (.ref f) (.ref y)) := x
    show h'.get? a = some (PySem.W.methodObj (.ref f) (.ref y))
    exact k a _ (.inl rfl) e
  | ext φ => obtain ⟨p, ⟨o, e⟩, st⟩ := x; exact ⟨st _ _ p fun o q => k _ _ (.inl rfl) q, ⟨o, k _ _ (.inl rfl) e⟩, st⟩
theorem HOk.lt (x : HOk P w H h) (e : H a = some o) : a < h.objs.size := (x a o e).lt
theorem HOk.fresh (x : HOk P w H h) (e : h.objs.size ≤ a) : H a = none := by
  cases q : H a with
  | none => rfl
  | some u => exact absurd (Nat.lt_of_lt_of_le (x.lt q) e) (Nat.lt_irrefl _)
/-- every object of the heap is kept -/
theorem HOk.kept (x : HOk P w H h) (k : ∀ b u, h.get? b = some u → h'.get? b = some u) : HOk P w H h' := fun a o e =>
  (x a o e).stay (fun b u _ q => k b u q) (fun _ q => q) fun _ _ q => q
/-- a new object is laid and tracked -/
theorem HOk.laid (x : HOk P w H h) (k : ∀ b u, h.get? b = some u → h'.get? b = some u) (hp : h.objs.size ≤ a) (new : ObjOk P w (upd H a o) h' a o) : HOk P w (upd H a o) h' := fun b u e => by
  have hn := x.fresh hp
  by_cases hb : b = a
  · subst hb; rw [upd_same] at e; cases e; exact new
  · rw [upd_ne hb] at e
    exact (x b u e).stay (fun c v _ q => k c v q) (fun c q => by rw [upd_ne (ne_of_none q hn)]; exact q) fun c xs q => by rw [upd_ne (ne_of_none q hn)]; exact q
end

/-- what may be read as u: it is u, or a known u -/
def Rd (H : Hp) (a : Addr) (u : HO) : Prop := H a = some u ∨ ∃ o, H a = some (.frz o u)
theorem Rd.of {H : Hp} {a : Addr} {u : HO} (h : H a = some u) : Rd H a u := .inl h
theorem Rd.ok {P : Program} {w : World} {H : Hp} {h : Heap} {a : Addr} {u : HO} (r : Rd H a u) (x : HOk P w H h) : ObjOk P w H h a u := by
  rcases r with r | ⟨o, r⟩
  · exact x a u r
  · obtain ⟨_, q⟩ := x a _ r
    exact q
/-- what may be written -/
def Mut : Option HO → Prop
  | some (.lst _) => True
  | some (.dK _) => True
  | some (.dT _) => True
  | some (.set _ _) => True
  | some (.ins _ _ _) => True
  | some (.ext _) => True
  | _ => False
section
variable {P : Program} {w : World} {H : Hp} {h h' : Heap} {x e : Addr} {o' : HO}
/-- the object at e is changed: x itself, or the dict of the instance x -/
theorem HOk.write (ok : HOk P w H h) (mu : Mut (H x)) (he : e = x ∨ H e = some (.own x)) (k : ∀ b u, b ≠ e → h.get? b = some u → h'.get? b = some u) (heo : ∃ u, h'.get? e = some u)
    (new : ObjOk P w (upd H x o') h' x o') : HOk P w (upd H x o') h' := fun b u q => by
  have nown : ∀ c y, H c = some (.own y) → c ≠ x := fun c y r z => by subst z; rw [r] at mu; exact mu
  have ntup : ∀ c xs, H c = some (.tup xs) → c ≠ x := fun c xs r z => by subst z; rw [r] at mu; exact mu
  by_cases hb : b = x
  · subst hb; rw [upd_same] at q; cases q; exact new
  · rw [upd_ne hb] at q
    by_cases hbe : b = e
    · have q' : H b = some (.own x) := by
        rcases he with z | z
        · exact absurd (hbe.trans z) hb
        · rw [hbe]; exact z
      rw [q] at q'; cases q'
      obtain ⟨v, hv⟩ := heo
      exact ⟨v, by rw [hbe]; exact hv⟩
    · refine (ok b u q).stay (fun c v hc r => k c v ?_ r) (fun c r => by rw [upd_ne (nown c b r)]; exact r) fun c xs r => by rw [upd_ne (ntup c xs r)]; exact r
      rcases hc with rfl | hc
      · exact hbe
      · rintro rfl
        rcases he with z | z
        · exact nown c b hc z
        · rw [hc] at z; cases z; exact hb rfl
end

/-! ### kept unless tracked; of the frames at fs (the callers') the slots may change (an exception that passes writes there); of the records at ex (iterators) nothing is said -/
structure Un (fs ex : List Addr) (H H' : Hp) (h h' : Heap) : Prop where
  keep : ∀ b o, h.get? b = some o → H b = none → b ∉ fs → b ∉ ex → h'.get? b = some o
  slot : ∀ b o, h.get? b = some o → H b = none → b ∈ fs → b ∉ ex → ∃ sl, h'.get? b = some { o with slots := sl }
  free : ∀ b o, h.get? b = some o → H b = none → b ∉ ex → H' b = none
  there : ∀ b o, h.get? b = some o → b ∉ ex → ∃ o', h'.get? b = some o'
  tups : ∀ b xs, H b = some (.tup xs) → H' b = some (.tup xs)
  frzs : ∀ b o u, H b = some (.frz o u) → H' b = some (.frz o u)
  tbls : ∀ b ps, H b = some (.tbl ps) → ∃ more, H' b = some (.tbl (ps ++ more))
section
variable {fs fs' ex ex' : List Addr} {H H1 H2 : Hp} {h h1 h2 h' : Heap} {a x e : Addr} {o : HO}
theorem Un.any (u : Un fs ex H H1 h h1) {b : Addr} {ob : Obj} (q : h.get? b = some ob) (n : H b = none) (hx : b ∉ ex) : ∃ sl, h1.get? b = some { ob with slots := sl } := by
  by_cases hb : b ∈ fs
  · exact u.slot b ob q n hb hx
  · exact ⟨ob.slots, u.keep b ob q n hb hx⟩
theorem Un.trans (a : Un fs ex H H1 h h1) (b : Un fs ex H1 H2 h1 h2) : Un fs ex H H2 h h2 where
  keep := fun c ob q n hc hx => b.keep c ob (a.keep c ob q n hc hx) (a.free c ob q n hx) hc hx
  slot := fun c ob q n hc hx => by
    obtain ⟨sl, e1⟩ := a.slot c ob q n hc hx
    obtain ⟨sl', e2⟩ := b.slot c _ e1 (a.free c ob q n hx) hc hx
    exact ⟨sl', e2⟩
  free := fun c ob q n hx => by
    obtain ⟨o', e1⟩ := a.there c ob q hx
    exact b.free c o' e1 (a.free c ob q n hx) hx
  there := fun c ob q hx => by
    obtain ⟨o', e1⟩ := a.there c ob q hx
    exact b.there c o' e1 hx
  tups := fun c xs q => b.tups c xs (a.tups c xs q)
  frzs := fun c ob xs q => b.frzs c ob xs (a.frzs c ob xs q)
  tbls := fun c ps q => by
    obtain ⟨m1, e1⟩ := a.tbls c ps q
    obtain ⟨m2, e2⟩ := b.tbls c _ e1
    exact ⟨m1 ++ m2, by rw [e2, Array.append_assoc]⟩
theorem Un.kept (k : ∀ b u, h.get? b = some u → h'.get? b = some u) : Un fs ex H H h h' :=
  ⟨fun b ob q _ _ _ => k b ob q, fun b ob q _ _ _ => ⟨ob.slots, k b ob q⟩, fun _ _ _ n _ => n, fun b ob q _ => ⟨ob, k b ob q⟩, fun _ _ q => q, fun _ _ _ q => q, fun _ ps q => ⟨#[], by rw [q]; simp⟩⟩
theorem Un.refl : Un fs ex H H h h := Un.kept fun _ _ q => q
theorem Un.laid (k : ∀ b u, h.get? b = some u → h'.get? b = some u) (hp : h.objs.size ≤ a) (hn : H a = none) : Un fs ex H (upd H a o) h h' where
  keep := fun b u q _ _ _ => k b u q
  slot := fun b u q _ _ _ => ⟨u.slots, k b u q⟩
  free := fun b u q n _ => by rw [upd_ne (Nat.ne_of_lt (Nat.lt_of_lt_of_le (Heap.lt_size q) hp))]; exact n
  there := fun b u q _ => ⟨u, k b u q⟩
  tups := fun b xs q => by rw [upd_ne (ne_of_none q hn)]; exact q
  frzs := fun b u xs q => by rw [upd_ne (ne_of_none q hn)]; exact q
  tbls := fun b ps q => ⟨#[], by rw [upd_ne (ne_of_none q hn), q]; simp⟩
theorem Un.write (mu : Mut (H x)) (he : e = x ∨ H e = some (.own x)) (k : ∀ b u, b ≠ e → h.get? b = some u → h'.get? b = some u) (heo : ∃ u, h'.get? e = some u) : Un fs ex H (upd H x o) h h' := by
  have hx : ∀ b, H b = none → b ≠ x := fun b n z => by subst z; rw [n] at mu; exact mu
  have hb : ∀ b, H b = none → b ≠ e := fun b n z => by
    subst z
    rcases he with r | r
    · exact hx b n r
    · rw [n] at r; cases r
  have hm : ∀ b u, H b = some u → ¬ Mut (some u) → b ≠ x := fun b u q nm z => by subst z; rw [q] at mu; exact nm mu
  refine ⟨fun b u q n _ _ => k b u (hb b n) q, fun b u q n _ _ => ⟨u.slots, k b u (hb b n) q⟩, fun b u q n _ => by rw [upd_ne (hx b n)]; exact n, fun b u q _ => ?_,
    fun b xs q => by rw [upd_ne (hm b _ q fun z => z)]; exact q, fun b u xs q => by rw [upd_ne (hm b _ q fun z => z)]; exact q, fun b ps q => ⟨#[], by rw [upd_ne (hm b _ q fun z => z), q]; simp⟩⟩
  by_cases hbe : b = e
  · subst hbe; exact heo
  · exact ⟨u, k b u hbe q⟩
theorem Un.mono (u : Un fs ex H H1 h h1) (hs : ∀ b ∈ fs, b ∈ fs') (hx : ∀ b ∈ ex, b ∈ ex') : Un fs' ex' H H1 h h1 :=
  ⟨fun b ob q n hb he => u.keep b ob q n (fun z => hb (hs b z)) fun z => he (hx b z), fun _ _ q n _ he => u.any q n fun z => he (hx _ z), fun b ob q n he => u.free b ob q n fun z => he (hx b z), fun b ob q he => u.there b ob q fun z => he (hx b z), u.tups, u.frzs, u.tbls⟩
end

/-! ### the heap without what is tracked -/
def trk (h : Heap) (H : Hp) : List Addr := (List.range h.objs.size).filter fun a => (H a).isSome
def hidT (h : Heap) (H : Hp) : Heap := PySem.W.hideAll h (trk h H)
theorem hidT_size (h : Heap) (H : Hp) : (hidT h H).objs.size = h.objs.size := PySem.W.hideAll_size _ _
theorem hidT_get {h : Heap} {H : Hp} {b : Addr} {o : Obj} (e : h.get? b = some o) (n : H b = none) : (hidT h H).get? b = some o :=
  PySem.W.hideAll_get _ e fun hm => by
    have q : (H b).isSome = true := (List.mem_filter.mp hm).2
    rw [n] at q; simp at q
theorem of_hidT {h : Heap} {H : Hp} {b : Addr} {o : Obj} (e : (hidT h H).get? b = some o) : h.get? b = some o ∧ H b = none := by
  have e' : h.get? b = some o := PySem.W.of_hideAll (trk h H) e
  refine ⟨e', ?_⟩
  cases q : H b with
  | none => rfl
  | some x =>
    have hm : b ∈ trk h H := List.mem_filter.mpr ⟨List.mem_range.mpr (Heap.lt_size e'), by simp [q]⟩
    have z : (hidT h H).get? b = none := PySem.W.hideAll_none (trk h H) hm
    rw [z] at e; cases e

/-! ### OpenK's ledger, filled with every new object but one -/
def allNews (g h : Heap) (L : Addr) : List (Addr × Obj) := (List.range h.objs.size).filterMap fun a => if a = L ∨ (g.get? a).isSome = true then none else (h.get? a).map fun o => (a, o)
def rest (g h : Heap) (L d : Addr) : List (Addr × Obj) := (allNews g h L).filter fun p => decide (p.1 ≠ d)
end L2

namespace L2
open PySem PySem.Spec PyProof.Rows

/-- the module's facts, over the base: the heap at the law's entry without what is tracked there -/
structure Mod (K : PySem.W.Frag) (mg : Str → Option Value) (base : Heap) : Prop where
  kin : K.In base
  glob : base.Ns mainGlobals mg
  blt : ∃ mb, base.Ns builtinsNs mb ∧ ∀ x : Str, x ≠ "__name__" → mb x = bootBuiltins x
  nolimit : base.NoLimit

/-- the context: a def's body (or a comprehension's block) running. base: fixed through the whole law; s₀, H₀: the entry; outer: the frames whose slots others may change (a def's callers); stack: all frames that run;
   ex: iterators that were made ahead of the entry and are walked here (a comprehension's); fn: the names whose cells were made at the entry (a def: all; a comprehension's block: its own); calm: not within an except suite; pn: pins that every state bears; xe: what is wanted of an exception that leaves the code -/
structure Cx where
  prog : Program
  w : World
  K : PySem.W.Frag
  mg : Str → Option Value
  base : Heap
  A : Around
  N : List Str
  s₀ : Shared
  H₀ : Hp
  env : Env
  outer : List Env
  stack : List Env
  ex : List Addr
  fn : Str → Bool
  calm : Bool
  pn : List (Addr × Obj)
  xe : Value → Shared → Prop
/-- the callers' frames -/
def frs (l : List Env) : List Addr := l.filterMap (·.frame)
abbrev Cx.fs (X : Cx) : List Addr := frs X.outer

def Vis (sc : Scope) (x : Str) : Prop := sc.names.lookup x = some .local ∨ sc.names.lookup x = some .cell ∨ sc.names.lookup x = some .free
def Loc (sc : Scope) (x : Str) : Prop := sc.names.lookup x = some .local ∨ sc.names.lookup x = some .cell
def Look (env : Env) (h : Heap) (m : Str → Option Value) (x : Str) (u : Value) : Prop :=
  (env.kindOf x = some .local ∧ m x = some u) ∨ ((env.kindOf x = some .cell ∨ env.kindOf x = some .free) ∧ ∃ c, env.cells.lookup x = some c ∧ h.IsCell c (some u))

structure Cx.Ok (X : Cx) : Prop where
  mod : Mod X.K X.mg X.base
  kind : X.env.scope.kind = .function
  glob : X.env.globals = mainGlobals
  blt : X.env.builtins = builtinsNs
  above : X.s₀.heap.objs.size ≤ X.env.locals
  inj : ∀ x y c, X.env.cells.lookup x = some c → X.env.cells.lookup y = some c → x = y
  has : ∀ x, (X.env.kindOf x = some .cell ∨ X.env.kindOf x = some .free) → ∃ c, X.env.cells.lookup x = some c
  cab : ∀ x c, X.fn x = true → X.env.cells.lookup x = some c → X.s₀.heap.objs.size ≤ c
  hd : X.calm = true → X.A.handled = none
  frames : X.A.frames = some X.stack
  stk : X.stack = X.outer ∨ (X.stack = X.env :: X.outer ∧ X.env.frame = some X.env.locals)
  exf : ∀ b ∈ X.ex, b ≠ X.env.locals ∧ ∀ x c, X.env.cells.lookup x = some c → c ≠ b
  bs : ∀ b o, X.base.get? b = some o → X.s₀.heap.get? b = some o ∧ X.H₀ b = none
  bsz : X.base.objs.size ≤ X.s₀.heap.objs.size
  noex : ∀ b o, X.base.get? b = some o → b ∉ X.ex
  exfs : ∀ b ∈ X.ex, b ∉ X.fs
  funs : X.s₀.heap.FunFrames X.base X.outer
  frf : ∀ b ∈ X.fs, X.H₀ b = none

structure Inv (X : Cx) (pins : List (Addr × Obj)) (σ : List (Option V)) (H : Hp) (s : Shared) : Prop where
  ok : X.Ok
  os : s.os = X.s₀.os
  bare : AllBare s.gens
  base : Un X.fs X.ex X.H₀ H X.s₀.heap s.heap
  loc : ∃ m, s.heap.Ns X.env.locals m ∧ ∀ (i : Nat) (x : Str) (v : V), X.N[i]? = some x → σ[i]? = some (some v) → Vis X.env.scope x → ∃ u, RelV v u ∧ Look X.env s.heap m x u
  cell : ∀ x c, X.env.cells.lookup x = some c → ∃ v, s.heap.IsCell c v
  free : H X.env.locals = none
  freeC : ∀ x c, X.env.cells.lookup x = some c → H c = none
  pin : ∀ p ∈ X.pn ++ pins, s.heap.get? p.1 = some p.2 ∧ H p.1 = none ∧ p.1 ≠ X.env.locals ∧ p.1 ∉ X.fs ∧ ∀ v, p.2.data ≠ .cell v
  hok : HOk X.prog X.w H s.heap
  len : σ.length = X.N.length

section
variable {X : Cx} {pins : List (Addr × Obj)} {σ : List (Option V)} {H H' : Hp} {s : Shared} {h' : Heap}

theorem Cx.Ok.nofr (ok : X.Ok) {b : Addr} {o : Obj} (e : X.base.get? b = some o) : b ∉ X.fs := fun hb => by
  have := (ok.funs.mem hb).1
  rw [e] at this; cases this
theorem Inv.bs (I : Inv X pins σ H s) : ∀ b o, X.base.get? b = some o → s.heap.get? b = some o ∧ H b = none := fun b o e =>
  ⟨I.base.keep b o (I.ok.bs b o e).1 (I.ok.bs b o e).2 (I.ok.nofr e) (I.ok.noex b o e), I.base.free b o (I.ok.bs b o e).1 (I.ok.bs b o e).2 (I.ok.noex b o e)⟩
theorem Inv.bk (I : Inv X pins σ H s) : ∀ b o, X.base.get? b = some o → s.heap.get? b = some o := fun b o e => (I.bs b o e).1
theorem Inv.mod (I : Inv X pins σ H s) : Mod X.K X.mg X.base := I.ok.mod
theorem Inv.kIn (I : Inv X pins σ H s) : X.K.In s.heap := I.ok.mod.kin.keeps I.bk
theorem Inv.nolimit (I : Inv X pins σ H s) : s.heap.NoLimit := I.ok.mod.nolimit.keeps I.bk
/-- the frame over the base: for OpenK's rules (K.In X.base is I.mod.kin) -/
theorem Inv.fr (I : Inv X pins σ H s) : ∃ m, Fr X.base X.env.locals s.heap m :=
  let ⟨m, hn, _⟩ := I.loc
  ⟨m, hn, I.bk, Nat.le_trans I.ok.bsz I.ok.above⟩
theorem Inv.lt (I : Inv X pins σ H s) : X.env.locals < s.heap.objs.size := let ⟨_, hn, _⟩ := I.loc; hn.lt
theorem Inv.sz (I : Inv X pins σ H s) : X.s₀.heap.objs.size ≤ s.heap.objs.size := Nat.le_trans I.ok.above (Nat.le_of_lt I.lt)
theorem Inv.nofs (I : Inv X pins σ H s) {a : Addr} (h : s.heap.objs.size ≤ a) : a ∉ X.fs := fun hb => by
  obtain ⟨_, o, ho, _⟩ := I.ok.funs.mem hb
  exact absurd (Nat.lt_of_lt_of_le (Heap.lt_size ho) (Nat.le_trans I.sz h)) (Nat.lt_irrefl _)
theorem Inv.cne (I : Inv X pins σ H s) : ∀ x c, X.env.cells.lookup x = some c → c ≠ X.env.locals := fun x c e z => by
  obtain ⟨v, o, ho, hd⟩ := I.cell x c e
  obtain ⟨m, ⟨o', es, ep, ho', hd', _⟩, _⟩ := I.loc
  rw [z, ho'] at ho; cases ho; rw [hd'] at hd; cases hd
theorem Inv.funs (I : Inv X pins σ H s) : s.heap.FunFrames X.base X.outer := by
  have all : ∀ (l : List Env), (∀ b ∈ frs l, b ∈ X.fs) → X.s₀.heap.FunFrames X.base l → s.heap.FunFrames X.base l := by
    intro l
    induction l with
    | nil => intro _ _; trivial
    | cons env r ih =>
      intro hs hl
      obtain ⟨hk, ⟨L, o, hf, hn, ho, hd⟩, hr⟩ := hl
      have hL : L ∈ X.fs := hs L (by unfold frs; rw [List.filterMap_cons, hf]; exact List.mem_cons_self)
      obtain ⟨sl, e⟩ := I.base.slot L o ho (I.ok.frf L hL) hL fun z => I.ok.exfs L z hL
      exact ⟨hk, ⟨L, _, hf, hn, e, hd⟩, ih (fun b hb => hs b (by unfold frs; rw [List.filterMap_cons, hf]; exact List.mem_cons_of_mem _ hb)) hr⟩
  exact all X.outer (fun _ hb => hb) I.ok.funs

/-- the frames that run, for a call -/
theorem Inv.stack (I : Inv X pins σ H s) : s.heap.FunFrames X.base X.stack := by
  rcases I.ok.stk with e | ⟨e, hf⟩
  · rw [e]; exact I.funs
  · rw [e]
    obtain ⟨m, hn, _⟩ := I.loc
    refine .cons (by rw [I.ok.kind]; decide) hf hn ?_ I.funs
    exact Heap.get?_none_of_le (Nat.le_trans I.ok.bsz I.ok.above)
theorem Inv.stkSub (I : Inv X pins σ H s) : ∀ b ∈ frs X.stack, b ∈ X.env.locals :: X.fs := fun b hb => by
  rcases I.ok.stk with e | ⟨e, hf⟩
  · rw [e] at hb; exact List.mem_cons_of_mem _ hb
  · rw [e] at hb
    unfold frs at hb
    rw [List.filterMap_cons, hf] at hb
    exact hb
theorem Inv.stkFree (I : Inv X pins σ H s) : ∀ b ∈ frs X.stack, H b = none := fun b hb => by
  rcases List.mem_cons.mp (I.stkSub b hb) with e | hb
  · rw [e]; exact I.free
  · obtain ⟨_, o, ho, _⟩ := I.ok.funs.mem hb
    exact I.base.free b o ho (I.ok.frf b hb) fun z => I.ok.exfs b z hb

/-- THE STEP: the untracked objects but the frame and the records at ch are kept (the callers' frames up to slots), the frame's map is kept, the new abstract heap is held -/
theorem Inv.step {g' : Array GenState} {t' : Nat} {d' : Drawn} {ch : List Addr} (I : Inv X pins σ H s)
    (hch : ∀ b ∈ ch, (b ∈ X.ex ∨ X.s₀.heap.objs.size ≤ b) ∧ b ≠ X.env.locals ∧ (∀ x c, X.env.cells.lookup x = some c → c ≠ b) ∧ ∀ p ∈ X.pn ++ pins, p.1 ≠ b)
    (keep : ∀ b o, b ≠ X.env.locals → b ∉ X.fs → b ∉ ch → s.heap.get? b = some o → H b = none → h'.get? b = some o)
    (slot : ∀ b o, b ≠ X.env.locals → b ∈ X.fs → b ∉ ch → s.heap.get? b = some o → H b = none → ∃ sl, h'.get? b = some { o with slots := sl }) (free : ∀ b o, b ∉ ch → s.heap.get? b = some o → H b = none → H' b = none)
    (there : ∀ b o, b ∉ ch → s.heap.get? b = some o → ∃ o', h'.get? b = some o')
    (tups : ∀ b xs, H b = some (.tup xs) → H' b = some (.tup xs)) (frzs : ∀ b o u, H b = some (.frz o u) → H' b = some (.frz o u)) (tbls : ∀ b ps, H b = some (.tbl ps) → ∃ more, H' b = some (.tbl (ps ++ more)))
    (ns : ∀ m, s.heap.Ns X.env.locals m → h'.Ns X.env.locals m) (hok : HOk X.prog X.w H' h') (hg : AllBare g') :
    Inv X pins σ H' { s with heap := h', gens := g', drawn := d', toks := t' } := by
  have neL : ∀ b o, X.s₀.heap.get? b = some o → b ≠ X.env.locals := fun b o e => Nat.ne_of_lt (Nat.lt_of_lt_of_le (Heap.lt_size e) I.ok.above)
  have neC : ∀ b o, X.s₀.heap.get? b = some o → b ∉ X.ex → b ∉ ch := fun b o e hx hb => by
    rcases (hch b hb).1 with z | z
    · exact hx z
    · exact absurd (Nat.lt_of_lt_of_le (Heap.lt_size e) z) (Nat.lt_irrefl _)
  have cellK : ∀ x c, X.env.cells.lookup x = some c → ∀ v, s.heap.IsCell c v → h'.IsCell c v := fun x c e v ⟨o, ho, hd⟩ => by
    have nch : c ∉ ch := fun z => (hch c z).2.2.1 x c e rfl
    by_cases hc : c ∈ X.fs
    · obtain ⟨sl, q⟩ := slot c o (I.cne x c e) hc nch ho (I.freeC x c e)
      exact ⟨_, q, hd⟩
    · exact ⟨o, keep c o (I.cne x c e) hc nch ho (I.freeC x c e), hd⟩
  refine ⟨I.ok, I.os, hg, ⟨fun b o e n hb hx => ?_, fun b o e n hb hx => ?_, fun b o e n hx => ?_, fun b o e hx => ?_, fun b xs e => tups b xs (I.base.tups b xs e), fun b o xs e => frzs b o xs (I.base.frzs b o xs e), fun b ps e => ?_⟩, ?_, fun x c e => ?_, ?_, fun x c e => ?_, fun p hp => ?_, hok, I.len⟩
  · exact keep b o (neL b o e) hb (neC b o e hx) (I.base.keep b o e n hb hx) (I.base.free b o e n hx)
  · obtain ⟨sl, e1⟩ := I.base.slot b o e n hb hx
    obtain ⟨sl', e2⟩ := slot b _ (neL b o e) hb (neC b o e hx) e1 (I.base.free b o e n hx)
    exact ⟨sl', e2⟩
  · obtain ⟨o', e1⟩ := I.base.there b o e hx
    exact free b o' (neC b o e hx) e1 (I.base.free b o e n hx)
  · obtain ⟨o', e1⟩ := I.base.there b o e hx
    exact there b o' (neC b o e hx) e1
  · obtain ⟨m1, e1⟩ := I.base.tbls b ps e
    obtain ⟨m2, e2⟩ := tbls b _ e1
    exact ⟨m1 ++ m2, by rw [e2, Array.append_assoc]⟩
  · obtain ⟨m, hn, hl⟩ := I.loc
    refine ⟨m, ns m hn, fun i x v e1 e2 e3 => ?_⟩
    obtain ⟨u, r, l⟩ := hl i x v e1 e2 e3
    refine ⟨u, r, ?_⟩
    rcases l with l | ⟨k, c, e, z⟩
    · exact .inl l
    · exact .inr ⟨k, c, e, cellK x c e _ z⟩
  · obtain ⟨v, z⟩ := I.cell x c e
    exact ⟨v, cellK x c e v z⟩
  · obtain ⟨m, ⟨o, _, _, ho, _⟩, _⟩ := I.loc
    exact free _ o (fun z => (hch _ z).2.1 rfl) ho I.free
  · obtain ⟨v, o, ho, hd⟩ := I.cell x c e
    exact free c o (fun z => (hch c z).2.2.1 x c e rfl) ho (I.freeC x c e)
  · obtain ⟨e, n, ne, nf, d⟩ := I.pin p hp
    have nch : p.1 ∉ ch := fun z => (hch p.1 z).2.2.2 p hp rfl
    exact ⟨keep p.1 p.2 ne nf nch e n, free p.1 p.2 nch e n, ne, nf, d⟩
/-- .. where the frame's own object is kept too -/
theorem Inv.un {t' : Nat} (I : Inv X pins σ H s) (u : Un X.fs [] H H' s.heap h') (hok : HOk X.prog X.w H' h') : Inv X pins σ H' { s with heap := h', toks := t' } := by
  obtain ⟨m, ⟨o, es, ep, ho, r⟩, _⟩ := id I.loc
  obtain ⟨sl, hL⟩ := u.any ho I.free (by simp)
  exact I.step (g' := s.gens) (d' := s.drawn) (ch := []) (fun _ z => nomatch z) (fun b o _ hb _ e n => u.keep b o e n hb (by simp)) (fun b o _ hb _ e n => u.slot b o e n hb (by simp)) (fun b o _ e n => u.free b o e n (by simp)) (fun b o _ e => u.there b o e (by simp)) u.tups u.frzs u.tbls (fun m' hm => by
    obtain ⟨o', es', ep', ho', r'⟩ := hm
    rw [ho] at ho'; cases ho'
    exact ⟨_, es', ep', hL, r'⟩) hok I.bare
/-- behind a call (or a comprehension's block): the slots of this frame may have changed too, the records at ch may have turned -/
theorem Inv.call {g' : Array GenState} {t' : Nat} {d' : Drawn} {ch : List Addr} (I : Inv X pins σ H s) (u : Un (frs X.stack) ch H H' s.heap h') (hok : HOk X.prog X.w H' h') (hg : AllBare g')
    (hch : ∀ b ∈ ch, (b ∈ X.ex ∨ X.s₀.heap.objs.size ≤ b) ∧ b ≠ X.env.locals ∧ (∀ x c, X.env.cells.lookup x = some c → c ≠ b) ∧ ∀ p ∈ X.pn ++ pins, p.1 ≠ b) :
    Inv X pins σ H' { s with heap := h', gens := g', drawn := d', toks := t' } := by
  obtain ⟨m, ⟨o, es, ep, ho, r⟩, _⟩ := id I.loc
  obtain ⟨sl, hL⟩ := u.any ho I.free fun z => (hch _ z).2.1 rfl
  exact I.step (ch := ch) hch (fun b o hL hb hc e n => u.keep b o e n (fun z => (List.mem_cons.mp (I.stkSub b z)).elim hL hb) hc) (fun b o _ _ hc e n => u.any e n hc) (fun b o hc e n => u.free b o e n hc) (fun b o hc e => u.there b o e hc) u.tups u.frzs u.tbls (fun m' hm => by
    obtain ⟨o', es', ep', ho', r'⟩ := hm
    rw [ho] at ho'; cases ho'
    exact ⟨_, es', ep', hL, r'⟩) hok hg
/-- an untracked record of ours (an iterator) has turned -/
theorem Inv.turned {t' : Nat} {it : Addr} (I : Inv X pins σ H s) (k : ∀ b o, b ≠ it → s.heap.get? b = some o → h'.get? b = some o) (hn : H it = none) (hL : it ≠ X.env.locals)
    (h1 : it ∈ X.ex ∨ X.s₀.heap.objs.size ≤ it) (h2 : ∀ x c, X.env.cells.lookup x = some c → c ≠ it) (h3 : ∀ p ∈ X.pn ++ pins, p.1 ≠ it) : Inv X pins σ H { s with heap := h', toks := t' } := by
  have nit : ∀ b u, H b = some u → b ≠ it := fun b u e z => by rw [z, hn] at e; cases e
  refine I.step (g' := s.gens) (d' := s.drawn) (ch := [it]) (fun b hb => ?_) (fun b o _ _ hc e _ => k b o (fun z => hc (by simp [z])) e) (fun b o _ _ hc e _ => ⟨o.slots, k b o (fun z => hc (by simp [z])) e⟩) (fun _ _ _ _ n => n)
    (fun b o hc e => ⟨o, k b o (fun z => hc (by simp [z])) e⟩) (fun _ _ e => e) (fun _ _ _ e => e) (fun b ps e => ⟨#[], by rw [e]; simp⟩) (fun m hm => ?_) (fun b u e => ?_) I.bare
  · have e : b = it := by simpa using hb
    subst e
    exact ⟨h1, hL, h2, h3⟩
  · obtain ⟨o, es, ep, ho, r⟩ := hm
    exact ⟨o, es, ep, k _ o (Ne.symm hL) ho, r⟩
  · refine (I.hok b u e).stay (fun c v hc q => k c v ?_ q) (fun _ q => q) fun _ _ q => q
    rcases hc with z | z
    · rw [z]; exact nit b u e
    · exact nit c _ z
theorem Inv.tok (I : Inv X pins σ H s) (t : Nat) : Inv X pins σ H { s with toks := t } := I.un (h' := s.heap) (t' := t) Un.refl I.hok
/-- all objects kept -/
theorem Inv.kept {t' : Nat} (I : Inv X pins σ H s) (k : ∀ b u, s.heap.get? b = some u → h'.get? b = some u) : Inv X pins σ H { s with heap := h', toks := t' } := I.un (Un.kept k) (I.hok.kept k)
/-- a new object laid and tracked -/
theorem Inv.laid {a : Addr} {o : HO} {t' : Nat} (I : Inv X pins σ H s) (k : ∀ b u, s.heap.get? b = some u → h'.get? b = some u) (hp : s.heap.objs.size ≤ a) (new : ObjOk X.prog X.w (upd H a o) h' a o) :
    Inv X pins σ (upd H a o) { s with heap := h', toks := t' } := I.un (Un.laid k hp (I.hok.fresh hp)) (I.hok.laid k hp new)
/-- an object written -/
theorem Inv.write {x e : Addr} {o : HO} {t' : Nat} (I : Inv X pins σ H s) (mu : Mut (H x)) (he : e = x ∨ H e = some (.own x)) (k : ∀ b u, b ≠ e → s.heap.get? b = some u → h'.get? b = some u) (heo : ∃ u, h'.get? e = some u)
    (new : ObjOk X.prog X.w (upd H x o) h' x o) : Inv X pins σ (upd H x o) { s with heap := h', toks := t' } := I.un (Un.write mu he k heo) (I.hok.write mu he k heo new)
theorem Inv.pins_of {pins' : List (Addr × Obj)} (I : Inv X pins σ H s) (h : ∀ p ∈ pins', s.heap.get? p.1 = some p.2 ∧ H p.1 = none ∧ p.1 ≠ X.env.locals ∧ p.1 ∉ X.fs ∧ ∀ v, p.2.data ≠ .cell v) : Inv X pins' σ H s :=
  ⟨I.ok, I.os, I.bare, I.base, I.loc, I.cell, I.free, I.freeC, fun p hp => (List.mem_append.mp hp).elim (fun z => I.pin p (List.mem_append_left _ z)) (h p), I.hok, I.len⟩

theorem nodup_ix {N : List Str} (hN : N.Nodup) {i j : Nat} {x : Str} (a : N[i]? = some x) (b : N[j]? = some x) : i = j := by
  obtain ⟨h1, e1⟩ := List.getElem?_eq_some_iff.mp a
  obtain ⟨h2, e2⟩ := List.getElem?_eq_some_iff.mp b
  exact (List.getElem_inj hN).mp (e1.trans e2.symm)

/-- a name is stored; what changed -/
theorem store_ok2 {M : Model} {A : Around} {E : Value → Shared → Prop} {i : Nat} {x : Str} {v : V} {u : Value} {Q : Unit → Shared → Prop} (I : Inv X pins σ H s) (hN : X.N.Nodup) (hi : X.N[i]? = some x) (hx : Loc X.env.scope x) (r : RelV v u)
    (h : ∀ s', Inv X pins (σ.set i (some v)) H s' → (∃ a, Heap.SameBut a s.heap s'.heap ∧ (a = X.env.locals ∨ X.env.cells.lookup x = some a)) → Q () s') (hf : X.fn x = true ∨ X.env.scope.names.lookup x = some .local := by first | exact .inl rfl | exact .inr rfl | assumption) : wpAny M A (storeName X.env x u) Q E s := by
  obtain ⟨m, hn, hl⟩ := id I.loc
  have hcls : (X.env.scope.kind == .class || (X.env.scope.kind == .module && X.env.locals != X.env.globals)) = false := by rw [I.ok.kind]; rfl
  have hiσ : i < σ.length := by rw [I.len]; exact (List.getElem?_eq_some_iff.mp hi).1
  have cne := I.cne
  have tracked : ∀ {a : Addr} {h' : Heap}, (∃ o, s.heap.get? a = some o ∧ H a = none) → Heap.SameBut a s.heap h' → HOk X.prog X.w H h' := fun {a h'} ha hs b ob e => by
    obtain ⟨_, _, hfree⟩ := ha
    refine (I.hok b ob e).stay (fun c w' hc q => (hs.2 c ?_).trans q) (fun _ q => q) fun _ _ q => q
    rintro rfl
    rcases hc with rfl | hc
    · rw [hfree] at e; cases e
    · rw [hfree] at hc; cases hc
  rcases hx with hk | hk
  · refine wpAny_storeName_local hk hn (fun h' hn' hs => ?_) hcls
    obtain ⟨oL, _, _, hoL, _⟩ := id hn
    refine h _ ⟨I.ok, I.os, I.bare, ⟨fun b o e n hb hx => ?_, fun b o e n hb hx => ?_, I.base.free, fun b o e hx => ?_, I.base.tups, I.base.frzs, I.base.tbls⟩, ⟨_, hn', fun j y v' e1 e2 e3 => ?_⟩, fun y c e => ?_, I.free, I.freeC, fun p hp => ?_, tracked ⟨oL, hoL, I.free⟩ hs, by simpa using I.len⟩ ⟨_, hs, .inl rfl⟩
    · exact (hs.2 b (Nat.ne_of_lt (Nat.lt_of_lt_of_le (Heap.lt_size e) I.ok.above))).trans (I.base.keep b o e n hb hx)
    · obtain ⟨sl, e1⟩ := I.base.slot b o e n hb hx
      exact ⟨sl, (hs.2 b (Nat.ne_of_lt (Nat.lt_of_lt_of_le (Heap.lt_size e) I.ok.above))).trans e1⟩
    · obtain ⟨o', e1⟩ := I.base.there b o e hx
      exact ⟨o', (hs.2 b (Nat.ne_of_lt (Nat.lt_of_lt_of_le (Heap.lt_size e) I.ok.above))).trans e1⟩
    · by_cases hj : j = i
      · subst hj
        rw [hi] at e1; cases e1
        rw [List.getElem?_set_self hiσ] at e2
        cases e2
        exact ⟨u, r, .inl ⟨hk, by simp⟩⟩
      · rw [List.getElem?_set_ne (Ne.symm hj)] at e2
        obtain ⟨u', r', q⟩ := hl j y v' e1 e2 e3
        refine ⟨u', r', ?_⟩
        rcases q with ⟨k, e⟩ | ⟨k, c, e, z⟩
        · refine .inl ⟨k, ?_⟩
          have : y ≠ x := fun e => hj (nodup_ix hN e1 (e ▸ hi))
          simp [this, e]
        · exact .inr ⟨k, c, e, z.sameBut hs (cne y c e)⟩
    · obtain ⟨w', z⟩ := I.cell y c e
      exact ⟨w', z.sameBut hs (cne y c e)⟩
    · obtain ⟨e, n, ne, nf, d⟩ := I.pin p hp
      exact ⟨(hs.2 p.1 ne).trans e, n, ne, nf, d⟩
  · have hfn : X.fn x = true := by
      rcases hf with z | z
      · exact z
      · rw [z] at hk; cases hk
    obtain ⟨c, hc⟩ := I.ok.has x (.inl hk)
    obtain ⟨w', z⟩ := I.cell x c hc
    refine wpAny_storeName_cell I.ok.kind hk hc z (fun h' hc' hs => ?_)
    obtain ⟨oc, hoc, hocd⟩ := id z
    refine h { s with heap := h' } ⟨I.ok, I.os, I.bare, ⟨fun b o e n hb hx => ?_, fun b o e n hb hx => ?_, I.base.free, fun b o e hx => ?_, I.base.tups, I.base.frzs, I.base.tbls⟩, ⟨m, hn.sameBut hs (Ne.symm (cne x c hc)), fun j y v' e1 e2 e3 => ?_⟩, fun y c' e => ?_, I.free, I.freeC, fun p hp => ?_, tracked ⟨oc, hoc, I.freeC x c hc⟩ hs, by simpa using I.len⟩ ⟨c, hs, .inr hc⟩
    · exact (hs.2 b (Nat.ne_of_lt (Nat.lt_of_lt_of_le (Heap.lt_size e) (I.ok.cab x c hfn hc)))).trans (I.base.keep b o e n hb hx)
    · obtain ⟨sl, e1⟩ := I.base.slot b o e n hb hx
      exact ⟨sl, (hs.2 b (Nat.ne_of_lt (Nat.lt_of_lt_of_le (Heap.lt_size e) (I.ok.cab x c hfn hc)))).trans e1⟩
    · obtain ⟨o', e1⟩ := I.base.there b o e hx
      exact ⟨o', (hs.2 b (Nat.ne_of_lt (Nat.lt_of_lt_of_le (Heap.lt_size e) (I.ok.cab x c hfn hc)))).trans e1⟩
    · by_cases hj : j = i
      · subst hj
        rw [hi] at e1; cases e1
        rw [List.getElem?_set_self hiσ] at e2
        cases e2
        exact ⟨u, r, .inr ⟨.inl hk, c, hc, hc'⟩⟩
      · rw [List.getElem?_set_ne (Ne.symm hj)] at e2
        obtain ⟨u', r', q⟩ := hl j y v' e1 e2 e3
        refine ⟨u', r', ?_⟩
        rcases q with q | ⟨k, c', e, z'⟩
        · exact .inl q
        · refine .inr ⟨k, c', e, z'.sameBut hs ?_⟩
          rintro rfl
          exact hj (nodup_ix hN e1 (I.ok.inj _ _ _ e hc ▸ hi))
    · by_cases hcc : c' = c
      · subst hcc; exact ⟨_, hc'⟩
      · obtain ⟨w2, z2⟩ := I.cell y c' e
        exact ⟨w2, z2.sameBut hs hcc⟩
    · obtain ⟨e, n, ne, nf, d⟩ := I.pin p hp
      refine ⟨(hs.2 p.1 ?_).trans e, n, ne, nf, d⟩
      intro q
      rw [q, hoc] at e
      have q' : oc = p.2 := Option.some.inj e
      exact d w' (by rw [← q']; exact hocd)
theorem store_ok {M : Model} {A : Around} {E : Value → Shared → Prop} {i : Nat} {x : Str} {v : V} {u : Value} {Q : Unit → Shared → Prop} (I : Inv X pins σ H s) (hN : X.N.Nodup) (hi : X.N[i]? = some x) (hx : Loc X.env.scope x) (r : RelV v u)
    (h : ∀ s', Inv X pins (σ.set i (some v)) H s' → Q () s') (hf : X.fn x = true ∨ X.env.scope.names.lookup x = some .local := by first | exact .inl rfl | exact .inr rfl | assumption) : wpAny M A (storeName X.env x u) Q E s :=
  store_ok2 I hN hi hx r (fun s' I' _ => h s' I') hf
/-- behind a call or a block, the state as it is -/
theorem Inv.call' {s' : Shared} {ch : List Addr} (I : Inv X pins σ H s) (ho : s'.os = s.os) (u : Un (frs X.stack) ch H H' s.heap s'.heap) (hok : HOk X.prog X.w H' s'.heap) (hg : AllBare s'.gens)
    (hch : ∀ b ∈ ch, (b ∈ X.ex ∨ X.s₀.heap.objs.size ≤ b) ∧ b ≠ X.env.locals ∧ (∀ x c, X.env.cells.lookup x = some c → c ≠ b) ∧ ∀ p ∈ X.pn ++ pins, p.1 ≠ b) : Inv X pins σ H' s' := by
  obtain ⟨h', g', d', t', o'⟩ := s'
  have e : o' = s.os := ho
  subst e
  exact I.call (g' := g') (t' := t') (d' := d') u hok hg hch
end

/-! ### the judgements -/
/-- an exception: its class, its own dict's address (where it has one), the abstract heap behind it -/
abbrev XK := Value → Option Addr → Hp → Prop
abbrev St := List (Option V)
abbrev VK := V → Hp → Prop
/-- an expression's reading; a test's; an argument list's -/
abbrev TE := St → Hp → VK → Prop
abbrev TT := St → Hp → (Bool → Hp → Prop) → Prop
abbrev TA := St → Hp → (List V → Hp → Prop) → Prop
/-- what is wanted behind a statement -/
structure Ends where
  nx : St → Hp → Prop
  rt : VK
  bk : St → Hp → Prop := fun _ _ => False
  ct : St → Hp → Prop := fun _ _ => False
abbrev TS := Ends → St → Hp → Prop

def EP (X : Cx) (pins : List (Addr × Obj)) (σ : St) (Q : VK) (u : Value) (s' : Shared) : Prop := ∃ v H', Inv X pins σ H' s' ∧ RelV v u ∧ Q v H'
def TP (X : Cx) (pins : List (Addr × Obj)) (σ : St) (Q : Bool → Hp → Prop) (b : Bool) (s' : Shared) : Prop := ∃ H', Inv X pins σ H' s' ∧ Q b H'
def AP (X : Cx) (pins : List (Addr × Obj)) (σ : St) (Q : List V → Hp → Prop) (us : List Value) (s' : Shared) : Prop := ∃ vs H', Inv X pins σ H' s' ∧ Vals vs us ∧ Q vs H'
def SP (X : Cx) (pins : List (Addr × Obj)) (D : Ends) (f : Flow) (s' : Shared) : Prop :=
  match f with
  | .next => ∃ σ' H', Inv X pins σ' H' s' ∧ D.nx σ' H'
  | .brk => ∃ σ' H', Inv X pins σ' H' s' ∧ D.bk σ' H'
  | .cont => ∃ σ' H', Inv X pins σ' H' s' ∧ D.ct σ' H'
  | .ret u => ∃ v σ' H', Inv X pins σ' H' s' ∧ RelV v u ∧ D.rt v H'

def PE (X : Cx) (e : Expr) (t : TE) : Prop :=
  ∀ (pins : List (Addr × Obj)) (s : Shared) (σ : St) (H : Hp) (Q : VK), Inv X pins σ H s → t σ H Q → wpAny (model X.prog X.w) X.A (eval e X.env) (EP X pins σ Q) X.xe s
def PT (X : Cx) (e : Expr) (t : TT) : Prop :=
  ∀ (pins : List (Addr × Obj)) (s : Shared) (σ : St) (H : Hp) (Q : Bool → Hp → Prop), Inv X pins σ H s → t σ H Q → wpAny (model X.prog X.w) X.A (isTrue e X.env (eval e X.env)) (TP X pins σ Q) X.xe s
/-- a test whatever its 'whole' is (and, or) -/
def PW (X : Cx) (e : Expr) (t : TT) : Prop :=
  ∀ (whole : Sem Value) (pins : List (Addr × Obj)) (s : Shared) (σ : St) (H : Hp) (Q : Bool → Hp → Prop), Inv X pins σ H s → t σ H Q → wpAny (model X.prog X.w) X.A (isTrue e X.env whole) (TP X pins σ Q) X.xe s
theorem PW.pt {X : Cx} {e : Expr} {t : TT} (h : PW X e t) : PT X e t := h _
/-- an argument list (no star), from the left -/
def PA (X : Cx) (es : List Expr) (t : TA) : Prop :=
  ∀ (pos : Pos) (pins : List (Addr × Obj)) (s : Shared) (σ : St) (H : Hp) (Q : List V → Hp → Prop), Inv X pins σ H s → t σ H Q → wpAny (model X.prog X.w) X.A (spliced (backTo pos (starEach es X.env))) (AP X pins σ Q) X.xe s
def PS (X : Cx) (st : Stmt) (t : TS) : Prop :=
  ∀ (pins : List (Addr × Obj)) (s : Shared) (σ : St) (H : Hp) (D : Ends), Inv X pins σ H s → t D σ H → wpAny (model X.prog X.w) X.A (exec st X.env) (SP X pins D) X.xe s
def PSs (X : Cx) (st : List Stmt) (t : TS) : Prop :=
  ∀ (pins : List (Addr × Obj)) (s : Shared) (σ : St) (H : Hp) (D : Ends), Inv X pins σ H s → t D σ H → wpAny (model X.prog X.w) X.A (execs st X.env) (SP X pins D) X.xe s
/-- weaken the end -/
theorem thn {α : Type} {t : Sem α} {Q Q' : α → Shared → Prop} {M : Model} {A : Around} {E : Value → Shared → Prop} {s : Shared} (h : wpAny M A t Q E s) (hQ : ∀ a s, Q a s → Q' a s) : wpAny M A t Q' E s := wpAny_mono h hQ fun _ _ x => x
end L2

namespace L2
open PySem PySem.Spec PyProof.Rows
section
variable {X : Cx}

/-! ### names and constants -/
def tVar (i : Nat) : TE := fun σ H Q => ∃ v, σ[i]? = some (some v) ∧ Q v H
def tC (v : V) : TE := fun _ H Q => Q v H
theorem pe_var {i : Nat} {x : Str} {pos : Pos} (hN : X.N[i]? = some x) (hv : Vis X.env.scope x) (hd : (x == ("__debug__" : Str)) = false := by decide) (hcd : (x == ("__classdict__" : Str)) = false := by decide) : PE X (.Name x pos) (tVar i) := by
  intro pins s σ H Q I h
  obtain ⟨v, e, h⟩ := h
  obtain ⟨m, hn, hl⟩ := I.loc
  obtain ⟨u, r, l⟩ := hl i x v hN e hv
  have fin : EP X pins σ Q u s := ⟨v, H, I, r, h⟩
  rcases l with ⟨hk, hm⟩ | ⟨hk, c, hc, hcell⟩
  · exact wpAny_Name (wpAny_loadName_local I.ok.kind hk hn hm fin) hd
  · rcases hk with hk | hk
    · exact wpAny_Name (wpAny_loadName_cell I.ok.kind hk hc hcell fin) hd
    · exact wpAny_Name (wpAny_loadName_free I.ok.kind hk hc hcell fin hcd) hd
theorem pe_int {i j pos} : PE X (.Constant (.int i) j pos) (tC (.int i)) := fun _ _ _ H _ I h => wpAny_Constant_int ⟨.int i, H, I.tok _, ⟨_, rfl⟩, h⟩
theorem pe_bl {b j pos} : PE X (.Constant (.bool b) j pos) (tC (.bl b)) := fun _ _ _ H _ I h => Constant_bool ⟨.bl b, H, I, rfl, h⟩
theorem pe_non {j pos} : PE X (.Constant .none j pos) (tC .non) := fun _ _ _ H _ I h => Constant_none ⟨.non, H, I, rfl, h⟩
theorem pe_str {x j pos} : PE X (.Constant (.str x) j pos) (tC (.str x)) := fun _ _ _ H _ I h => Calls.Constant_str ⟨.str x, H, I.tok _, ⟨_, rfl⟩, h⟩

/-- a global name of the def -/
def Gl (X : Cx) (x : Str) : Prop := X.env.kindOf x = some .globalImplicit
theorem ld_glob {E : Value → Shared → Prop} {pins : List (Addr × Obj)} {s : Shared} {σ : St} {H : Hp} {x : Str} {u : Value} {pos : Pos} {Q : Value → Shared → Prop} (I : Inv X pins σ H s) (hg : Gl X x) (hm : X.mg x = some u) (h : Q u s)
    (hd : (x == ("__debug__" : Str)) = false := by decide) : wpAny (model X.prog X.w) X.A (eval (.Name x pos) X.env) Q E s :=
  Calls.Name_function_global I.ok.kind hg (Calls.loadGlobal_global (by rw [I.ok.glob]; exact I.mod.glob.keeps I.bk) hm h) hd
theorem ld_blt {E : Value → Shared → Prop} {pins : List (Addr × Obj)} {s : Shared} {σ : St} {H : Hp} {x : Str} {u : Value} {pos : Pos} {Q : Value → Shared → Prop} (I : Inv X pins σ H s) (hg : Gl X x) (hm : X.mg x = none) (hv : bootBuiltins x = some u) (h : Q u s)
    (hn : x ≠ "__name__" := by decide) (hd : (x == ("__debug__" : Str)) = false := by decide) : wpAny (model X.prog X.w) X.A (eval (.Name x pos) X.env) Q E s := by
  obtain ⟨mb, h1, h2⟩ := I.mod.blt
  exact Calls.Name_function_global I.ok.kind hg (Calls.loadGlobal_builtin (by rw [I.ok.glob]; exact I.mod.glob.keeps I.bk) hm (by rw [I.ok.blt]; exact h1.keeps I.bk) ((h2 x hn).trans hv) h) hd
/-- a module's constant, a class, a function, as a value -/
theorem pe_glob {x : Str} {v : V} {u : Value} {pos : Pos} (hg : Gl X x) (hm : X.mg x = some u) (r : RelV v u) (hd : (x == ("__debug__" : Str)) = false := by decide) : PE X (.Name x pos) (tC v) :=
  fun _ _ _ H _ I h => ld_glob I hg hm ⟨v, H, I, r, h⟩ hd
theorem pe_bltn {x : Str} {v : V} {u : Value} {pos : Pos} (hg : Gl X x) (hm : X.mg x = none) (hv : bootBuiltins x = some u) (r : RelV v u) (hn : x ≠ "__name__" := by decide) (hd : (x == ("__debug__" : Str)) = false := by decide) : PE X (.Name x pos) (tC v) :=
  fun _ _ _ H _ I h => ld_blt I hg hm hv ⟨v, H, I, r, h⟩ hn hd

/-! ### arithmetic -/
variable {a b : Expr} {ta tb : TE} {pos : Pos}
/-! ### comparisons -/
def PC (X : Cx) (op : CmpOp) (a b : Expr) (t : TE) : Prop :=
  ∀ (pins : List (Addr × Obj)) (s : Shared) (σ : St) (H : Hp) (Q : VK), Inv X pins σ H s → t σ H Q →
    wpAny (model X.prog X.w) X.A (eval a X.env) (fun v s₁ => wpAny (model X.prog X.w) X.A (eval b X.env) (fun u s₂ => wpAny (model X.prog X.w) X.A (compareOp op v u) (EP X pins σ Q) X.xe s₂) X.xe s₁) X.xe s
theorem nobehind (b : Expr) {op : CmpOp} (h : op ≠ .In) (h2 : op ≠ .NotIn) : behindInMarks op b = false := by
  have e1 : (op == CmpOp.In) = false := by cases op <;> first | rfl | exact absurd rfl h
  have e2 : (op == CmpOp.NotIn) = false := by cases op <;> first | rfl | exact absurd rfl h2
  cases b <;> simp [behindInMarks, e1, e2]
/-- is None -/
def tIsN (ta : TE) : TE := fun σ H Q => ta σ H fun x H1 => Q (.bl (decide (x = .non))) H1
def tNotN (ta : TE) : TE := fun σ H Q => ta σ H fun x H1 => Q (.bl (!decide (x = .non))) H1
theorem RelV.none_iff {x : V} {v : Value} (r : RelV x v) : (v == Value.none) = decide (x = .non) := by
  cases x with
  | non => cases r; rfl
  | bl _ => cases r; rfl
  | int _ => obtain ⟨t, rfl⟩ := r; rfl
  | str _ => obtain ⟨t, rfl⟩ := r; rfl
  | byt _ => obtain ⟨t, rfl⟩ := r; rfl
  | flt _ => obtain ⟨t, rfl⟩ := r; rfl
  | ref _ => cases r; rfl
  | ty _ => cases r; rfl
theorem pc_isN {j pos'} (ha : PE X a ta) : PC X .Is a (.Constant .none j pos') (tIsN ta) := by
  intro pins s σ H Q I h
  refine thn (ha pins s σ H _ I h) fun v s1 ⟨x, H1, I1, r1, q1⟩ => ?_
  exact Constant_none (is_none_gen ⟨.bl _, H1, I1, by rw [r1.none_iff]; rfl, q1⟩)
/-- a comparison as a value, as a test -/
def tB (t : TE) : TT := fun σ H Q => t σ H fun x H1 => ∃ c, x = .bl c ∧ Q c H1
theorem pt_cmp {op : CmpOp} {t : TE} (h : PC X op a b t) (h1 : behindInMarks op b = false := by first | exact nobehind _ (by decide) (by decide) | rfl) : PT X (.Compare a [op] [b] pos) (tB t) := by
  intro pins s σ H Q I hw
  refine wpAny_isTrue_Compare1 (thn (h pins s σ H _ I hw) fun v s1 h1 => thn h1 fun u s2 h2 => thn h2 fun c s3 ⟨x, H1, I1, r1, q1⟩ => ?_) h1
  obtain ⟨d, rfl, q⟩ := q1
  cases r1
  exact wpAny_truthy_bool ⟨H1, I1, q⟩
/-- an expression whose value is a bool, as a test -/
theorem pt_val {e : Expr} {t : TE} (h : PE X e t) (he : ∀ whole, isTrue e X.env whole = (do let v ← whole; standAt e.pos; holding [v] (truthy v)) := by intro _; rfl) : PT X e (tB t) := by
  intro pins s σ H Q I hw
  refine isTrue_plain (thn (h pins s σ H _ I hw) fun v s1 ⟨x, H1, I1, r1, q1⟩ => ?_) (he _)
  obtain ⟨d, rfl, q⟩ := q1
  cases r1
  exact wpAny_truthy_bool ⟨H1, I1, q⟩

/-! ### and, or, not -/
variable {tA tB' : TT} {rest : List Expr}
def tAnd (t u : TT) : TT := fun σ H Q => t σ H fun c H1 => if c = true then u σ H1 Q else Q false H1
def tOr (t u : TT) : TT := fun σ H Q => t σ H fun c H1 => if c = true then Q true H1 else u σ H1 Q
def tNot (t : TT) : TT := fun σ H Q => t σ H fun c H1 => Q (!c) H1
theorem pw_and1 (ha : PT X a tA) : PW X (.BoolOp .And [a] pos) tA := by
  intro wh pins s σ H Q I h
  refine isTrue_and (thn (ha pins s σ H Q I h) fun c s1 e => ?_)
  cases c with
  | true => exact isTrue_and_nil e
  | false => exact e
theorem pw_or1 (ha : PT X a tA) : PW X (.BoolOp .Or [a] pos) tA := by
  intro wh pins s σ H Q I h
  refine isTrue_or (thn (ha pins s σ H Q I h) fun c s1 e => ?_)
  cases c with
  | false => exact isTrue_or_nil e
  | true => exact e
theorem pw_and (ha : PT X a tA) (hb : PW X (.BoolOp .And (b :: rest) pos) tB') : PW X (.BoolOp .And (a :: b :: rest) pos) (tAnd tA tB') := by
  intro wh pins s σ H Q I h
  refine isTrue_and (thn (ha pins s σ H _ I h) fun c s1 ⟨H1, I1, q1⟩ => ?_)
  cases c with
  | true => exact hb wh pins s1 σ H1 Q I1 q1
  | false => exact ⟨H1, I1, q1⟩
theorem pw_or (ha : PT X a tA) (hb : PW X (.BoolOp .Or (b :: rest) pos) tB') : PW X (.BoolOp .Or (a :: b :: rest) pos) (tOr tA tB') := by
  intro wh pins s σ H Q I h
  refine isTrue_or (thn (ha pins s σ H _ I h) fun c s1 ⟨H1, I1, q1⟩ => ?_)
  cases c with
  | true => exact ⟨H1, I1, q1⟩
  | false => exact hb wh pins s1 σ H1 Q I1 q1
theorem pt_not (ha : PT X a tA) : PT X (.UnaryOp .Not a pos) (tNot tA) := by
  intro pins s σ H Q I h
  exact isTrue_not (ha pins s σ H (fun c H1 => Q (!c) H1) I h)
/-- .. as values (bools) -/
def tAndV (ta tb : TE) : TE := fun σ H Q => ta σ H fun x H1 => ∃ c, x = .bl c ∧ if c = true then tb σ H1 Q else Q (.bl false) H1
def tOrV (ta tb : TE) : TE := fun σ H Q => ta σ H fun x H1 => ∃ c, x = .bl c ∧ if c = true then Q (.bl true) H1 else tb σ H1 Q
def tNotV (ta : TE) : TE := fun σ H Q => ta σ H fun x H1 => ∃ c, x = .bl c ∧ Q (.bl (!c)) H1
theorem pe_one {op} {t : TE} (h : PE X a t) : PE X (.BoolOp op [a] pos) t := fun pins s σ H Q I hw => BoolOp_one (h pins s σ H Q I hw)
theorem pe_and (ha : PE X a ta) (hb : PE X (.BoolOp .And (b :: rest) pos) tb) : PE X (.BoolOp .And (a :: b :: rest) pos) (tAndV ta tb) := by
  intro pins s σ H Q I h
  refine BoolOp_and (thn (ha pins s σ H _ I h) fun v s1 ⟨x, H1, I1, r1, q1⟩ => ?_)
  obtain ⟨c, rfl, q1⟩ := q1
  cases r1
  refine wpAny_truthy_bool ?_
  cases c with
  | true => exact hb pins s1 σ H1 Q I1 q1
  | false => exact ⟨.bl false, H1, I1, rfl, q1⟩
theorem pe_or (ha : PE X a ta) (hb : PE X (.BoolOp .Or (b :: rest) pos) tb) : PE X (.BoolOp .Or (a :: b :: rest) pos) (tOrV ta tb) := by
  intro pins s σ H Q I h
  refine BoolOp_or (thn (ha pins s σ H _ I h) fun v s1 ⟨x, H1, I1, r1, q1⟩ => ?_)
  obtain ⟨c, rfl, q1⟩ := q1
  cases r1
  refine wpAny_truthy_bool ?_
  cases c with
  | false => exact hb pins s1 σ H1 Q I1 q1
  | true => exact ⟨.bl true, H1, I1, rfl, q1⟩
theorem pe_not (ha : PE X a ta) : PE X (.UnaryOp .Not a pos) (tNotV ta) := by
  intro pins s σ H Q I h
  refine UnaryOp_ (thn (ha pins s σ H _ I h) fun v s1 ⟨x, H1, I1, r1, q1⟩ => ?_)
  obtain ⟨c, rfl, q1⟩ := q1
  cases r1
  exact not_of (wpAny_truthy_bool ⟨.bl (!c), H1, I1, rfl, q1⟩)
/-- a if t else b -/
def tIf (t : TT) (ta tb : TE) : TE := fun σ H Q => t σ H fun c H1 => if c = true then ta σ H1 Q else tb σ H1 Q
end
end L2

namespace L2
open PySem PySem.Spec PyProof.Rows

/-! ### a list, a tuple that is read: tracked, frozen, or an object of the module -/
def SqL (K : PySem.W.Frag) (H : Hp) (a : Addr) (xs : List V) : Prop :=
  Rd H a (.lst xs) ∨
    ∃ (o : Obj) (its : Array Value) (n : Nat), K.lookup a = some o ∧ o.cls = .type "list" ∧ o.dict = none ∧ o.data = .seq its n ∧ its.size ≤ sizeLine ∧ Vals xs its.toList
def SqT (K : PySem.W.Frag) (H : Hp) (a : Addr) (xs : List V) : Prop :=
  Rd H a (.tup xs) ∨
    ∃ (o : Obj) (its : Array Value) (n : Nat), K.lookup a = some o ∧ o.cls = .type "tuple" ∧ o.data = .seq its n ∧ its.size ≤ sizeLine ∧ Vals xs its.toList
def absV : Value → Option V
  | .none => some .non
  | .bool b => some (.bl b)
  | .int i _ => some (.int i)
  | .str x _ => some (.str x)
  | .bytes b _ => some (.byt b)
  | .float b _ => some (.flt b)
  | .ref a => some (.ref a)
  | .type n => some (.ty n)
  | _ => none
theorem RelV.abs {x : V} {u : Value} (r : RelV x u) : absV u = some x := by
  cases x with
  | non => cases r; rfl
  | bl _ => cases r; rfl
  | int _ => obtain ⟨t, rfl⟩ := r; rfl
  | str _ => obtain ⟨t, rfl⟩ := r; rfl
  | byt _ => obtain ⟨t, rfl⟩ := r; rfl
  | flt _ => obtain ⟨t, rfl⟩ := r; rfl
  | ref _ => cases r; rfl
  | ty _ => cases r; rfl
theorem RelV.inj {x y : V} {u : Value} (r : RelV x u) (q : RelV y u) : x = y := Option.some.inj (r.abs.symm.trans q.abs)
theorem Vals.inj : ∀ {xs ys : List V} {us : List Value}, Vals xs us → Vals ys us → xs = ys
  | _, _, _, .nil, .nil => rfl
  | _, _, _, .cons r t, .cons r' t' => by rw [r.inj r', Vals.inj t t']
section
variable {X : Cx} {pins : List (Addr × Obj)} {σ : St} {H : Hp} {s : Shared} {a : Addr} {xs ys : List V}
theorem SqL.of {K : PySem.W.Frag} (h : H a = some (.lst xs)) : SqL K H a xs := .inl (.inl h)
theorem SqT.of {K : PySem.W.Frag} (h : H a = some (.tup xs)) : SqT K H a xs := .inl (.inl h)
theorem Inv.list (I : Inv X pins σ H s) (h : SqL X.K H a xs) : ∃ its : List Value, Vals xs its ∧ PlainL s.heap a its.toArray ∧ xs.length ≤ sizeLine := by
  rcases h with h | ⟨o, its, n, hk, hc, hd, hs, hz, r⟩
  · obtain ⟨z, its, n, r, e⟩ := h.ok I.hok
    exact ⟨its, r, ⟨_, n, e, rfl, rfl, rfl⟩, z⟩
  · refine ⟨its.toList, r, ⟨o, n, I.kIn a o hk, hc, hd, by simpa using hs⟩, ?_⟩
    have e := r.length
    simp only [Array.length_toList] at e
    omega
theorem Inv.tuple (I : Inv X pins σ H s) (h : SqT X.K H a xs) : ∃ its : List Value, Vals xs its ∧ IsTup s.heap a its.toArray ∧ xs.length ≤ sizeLine := by
  rcases h with h | ⟨o, its, n, hk, hc, hs, hz, r⟩
  · obtain ⟨z, its, r, p⟩ := h.ok I.hok
    exact ⟨its, r, p, z⟩
  · refine ⟨its.toList, r, ⟨o, I.kIn a o hk, hc, n, by simpa using hs⟩, ?_⟩
    have e := r.length
    simp only [Array.length_toList] at e
    omega
theorem Inv.list_inj (I : Inv X pins σ H s) (h : SqL X.K H a xs) (h' : SqL X.K H a ys) : xs = ys := by
  obtain ⟨its, r, ⟨o, n, e, _, _, d⟩, _⟩ := I.list h
  obtain ⟨its', r', ⟨o', n', e', _, _, d'⟩, _⟩ := I.list h'
  rw [e] at e'; cases e'
  rw [d] at d'
  injection d' with d1 _
  have : its = its' := by simpa using congrArg Array.toList d1
  subst this
  exact r.inj r'
end

/-! ### another wish about exceptions -/
abbrev Cx.wish (X : Cx) (E : Value → Shared → Prop) : Cx := { X with xe := E }
/-- no exception leaves -/
abbrev Cx.nox (X : Cx) : Cx := X.wish fun _ _ => False
theorem Cx.Ok.wish {X : Cx} (ok : X.Ok) (E : Value → Shared → Prop) : (X.wish E).Ok :=
  ⟨ok.mod, ok.kind, ok.glob, ok.blt, ok.above, ok.inj, ok.has, ok.cab, ok.hd, ok.frames, ok.stk, ok.exf, ok.bs, ok.bsz, ok.noex, ok.exfs, ok.funs, ok.frf⟩
theorem Cx.Ok.unwish {X : Cx} {E : Value → Shared → Prop} (ok : (X.wish E).Ok) : X.Ok :=
  ⟨ok.mod, ok.kind, ok.glob, ok.blt, ok.above, ok.inj, ok.has, ok.cab, ok.hd, ok.frames, ok.stk, ok.exf, ok.bs, ok.bsz, ok.noex, ok.exfs, ok.funs, ok.frf⟩
section
variable {X : Cx} {pins : List (Addr × Obj)} {σ : St} {H : Hp} {s : Shared} {E : Value → Shared → Prop}
theorem Inv.wish (I : Inv X pins σ H s) (E : Value → Shared → Prop) : Inv (X.wish E) pins σ H s := ⟨I.ok.wish E, I.os, I.bare, I.base, I.loc, I.cell, I.free, I.freeC, I.pin, I.hok, I.len⟩
theorem Inv.unwish (I : Inv (X.wish E) pins σ H s) : Inv X pins σ H s := ⟨I.ok.unwish, I.os, I.bare, I.base, I.loc, I.cell, I.free, I.freeC, I.pin, I.hok, I.len⟩
theorem SP.unwish {D : Ends} {f : Flow} {s' : Shared} (h : SP (X.wish E) pins D f s') : SP X pins D f s' := by
  cases f with
  | next => obtain ⟨σ', H', I, q⟩ := h; exact ⟨σ', H', I.unwish, q⟩
  | brk => obtain ⟨σ', H', I, q⟩ := h; exact ⟨σ', H', I.unwish, q⟩
  | cont => obtain ⟨σ', H', I, q⟩ := h; exact ⟨σ', H', I.unwish, q⟩
  | ret u => obtain ⟨v, σ', H', I, r, q⟩ := h; exact ⟨v, σ', H', I.unwish, r, q⟩
theorem PE.nox {e : Expr} {t : TE} (h : PE X.nox e t) : PE X e t := fun pins s σ H Q I hw =>
  wpAny_mono (h pins s σ H Q (I.wish _) hw) (fun _ _ ⟨v, H', I', r, q⟩ => ⟨v, H', I'.unwish, r, q⟩) fun _ _ z => False.elim z
theorem PT.nox {e : Expr} {t : TT} (h : PT X.nox e t) : PT X e t := fun pins s σ H Q I hw =>
  wpAny_mono (h pins s σ H Q (I.wish _) hw) (fun _ _ ⟨H', I', q⟩ => ⟨H', I'.unwish, q⟩) fun _ _ z => False.elim z
theorem PSs.nox {st : List Stmt} {t : TS} (h : PSs X.nox st t) : PSs X st t := fun pins s σ H D I hw =>
  wpAny_mono (h pins s σ H D (I.wish _) hw) (fun _ _ q => q.unwish) fun _ _ z => False.elim z
end

/-! ### blocks and small statements -/
section
variable {X : Cx} {st : Stmt} {rest : List Stmt} {t u : TS} {e : Expr} {te : TE} {pos : Pos}
def tNext : TS := fun D σ H => D.nx σ H
def tSeq (t u : TS) : TS := fun D σ H => t { D with nx := u D } σ H
theorem pss_nil : PSs X [] tNext := fun _ _ σ H _ I h => wpAny_execs_nil ⟨σ, H, I, h⟩
theorem pss_cons (h1 : PS X st t) (h2 : PSs X rest u) : PSs X (st :: rest) (tSeq t u) := by
  intro pins s σ H D I h
  refine wpAny_execs_cons (thn (h1 pins s σ H { D with nx := u D } I h) fun f s1 q => ?_)
  cases f with
  | next =>
    obtain ⟨σ', H', I', q⟩ := q
    exact h2 pins s1 σ' H' D I' q
  | ret v => exact q
  | brk => exact q
  | cont => exact q
theorem pss_one (h1 : PS X st t) : PSs X [st] t := by
  intro pins s σ H D I h
  refine wpAny_execs_cons (thn (h1 pins s σ H D I h) fun f s1 q => ?_)
  cases f with
  | next => exact wpAny_execs_nil q
  | ret v => exact q
  | brk => exact q
  | cont => exact q
/-- in a def's body nothing is shown -/
theorem Inv.quiet {pins : List (Addr × Obj)} {σ : St} {H : Hp} {s : Shared} (I : Inv X pins σ H s) : interactive X.env = false := by simp [interactive, I.ok.kind]
/-- an expression whose value is dropped -/
def tDrop (te : TE) : TS := fun D σ H => te σ H fun _ H1 => D.nx σ H1
theorem ps_expr (he : PE X e te) (hs : swapsWith e none pos.line X.env = pure false := by rfl) : PS X (.Expr e pos) (tDrop te) := by
  intro pins s σ H D I h
  exact wpAny_Expr_any (thn (he pins s σ H _ I h) fun v s1 ⟨x, H1, I1, r1, q1⟩ => ⟨σ, H1, I1, q1⟩) I.quiet hs
def tRet (te : TE) : TS := fun D σ H => te σ H D.rt
theorem ps_ret (he : PE X e te) : PS X (.Return (some e) pos) (tRet te) := by
  intro pins s σ H D I h
  exact wpAny_Return_some (thn (he pins s σ H _ I h) fun v s1 ⟨x, H1, I1, r1, q1⟩ => ⟨x, σ, H1, I1, r1, q1⟩)
def tRetN : TS := fun D _ H => D.rt .non H
def tIfS (c : TT) (t u : TS) : TS := fun D σ H => c σ H fun b H1 => if b = true then t D σ H1 else u D σ H1
theorem ps_if {c : Expr} {a b : List Stmt} {tc : TT} (hc : PT X c tc) (ha : PSs X a t) (hb : PSs X b u) : PS X (.If c a b pos) (tIfS tc t u) := by
  intro pins s σ H D I h
  refine wpAny_If (thn (hc pins s σ H _ I h) fun d s1 ⟨H1, I1, q1⟩ => ?_)
  cases d with
  | true => exact ha pins s1 σ H1 D I1 q1
  | false => exact hb pins s1 σ H1 D I1 q1
end

/-! ### targets -/
abbrev TG := V → St → Hp → (St → Hp → Prop) → Prop
def PG (X : Cx) (target : Expr) (t : TG) : Prop :=
  ∀ (pins : List (Addr × Obj)) (s : Shared) (σ : St) (H : Hp) (v : V) (u : Value) (Q : St → Hp → Prop), Inv X pins σ H s → RelV v u → t v σ H Q →
    wpAny (model X.prog X.w) X.A (assign target X.env u) (fun _ s' => ∃ σ' H', Inv X pins σ' H' s' ∧ Q σ' H') X.xe s
/-- o[i] = v, by values -/
abbrev TSet := V → V → V → Hp → (Hp → Prop) → Prop
def PSet (X : Cx) (t : TSet) : Prop :=
  ∀ (pins : List (Addr × Obj)) (s : Shared) (σ : St) (H : Hp) (o i v : V) (ov iv u : Value) (Q : Hp → Prop), Inv X pins σ H s → RelV o ov → RelV i iv → RelV v u → t o i v H Q →
    wpAny (model X.prog X.w) X.A (setItem ov iv u) (fun _ s' => ∃ H', Inv X pins σ H' s' ∧ Q H') X.xe s
section
variable {X : Cx} {pos : Pos}
def gName (i : Nat) : TG := fun v σ H Q => Q (σ.set i (some v)) H
theorem pg_name {i : Nat} {x : Str} (hN : X.N.Nodup) (hi : X.N[i]? = some x) (hx : Loc X.env.scope x) (hf : X.fn x = true ∨ X.env.scope.names.lookup x = some .local := by first | exact .inl rfl | exact .inr rfl | assumption) : PG X (.Name x pos) (gName i) := by
  intro pins s σ H v u Q I r h
  exact wpAny_assign_Name (store_ok I hN hi hx r (fun s' I' => ⟨_, H, I', h⟩) hf)
/-- o[i] = .. -/
def gSub (to ti : TE) (t : TSet) : TG := fun v σ H Q => to σ H fun o H1 => ti σ H1 fun i H2 => t o i v H2 fun H3 => Q σ H3
theorem pg_sub {o i : Expr} {to ti : TE} {t : TSet} (ho : PE X o to) (hi : PE X i ti) (hs : PSet X t)
    (ha : ∀ v, assign (.Subscript o i pos) X.env v = (do
      let ov ← holding [v] (eval o X.env)
      let iv ← holding [v, ov] (eval i X.env)
      standAt pos
      holding [v, ov, iv] (setItem ov iv v)
      release [v, ov, iv] []) := by intro _; rfl) : PG X (.Subscript o i pos) (gSub to ti t) := by
  intro pins s σ H v u Q I r h
  rw [ha]
  refine wpAny_bind (wpAny_holding (thn (ho pins s σ H _ I h) fun ov s1 ⟨x, H1, I1, r1, q1⟩ => ?_))
  refine wpAny_bind (wpAny_holding (thn (hi pins s1 σ H1 _ I1 q1) fun iv s2 ⟨y, H2, I2, r2, q2⟩ => ?_))
  refine wpAny_bind (wpAny_standAt (wpAny_bind (wpAny_holding (thn (hs pins s2 σ H2 x y v ov iv u _ I2 r1 r2 r q2) fun _ s3 ⟨H3, I3, q3⟩ => ?_))))
  exact wpAny_release ⟨σ, H3, I3, q3⟩
/-- target = value -/
def tAsg (te : TE) (g : TG) : TS := fun D σ H => te σ H fun x H1 => g x σ H1 D.nx
theorem ps_asg {tg e : Expr} {te : TE} {g : TG} (he : PE X e te) (hg : PG X tg g) (hs : swapsWithSole [tg] e pos.line X.env = pure false := by rfl) (hw : swappedStores [tg] e X.env = pure none := by rfl)
    (h1 : (assignEach [tg] X.env).map (·.2) = [assign tg X.env] := by rfl) : PS X (.Assign [tg] e pos) (tAsg te g) := by
  intro pins s σ H D I h
  refine wpAny_Assign_stores (thn (he pins s σ H _ I h) fun v s1 ⟨x, H1, I1, r1, q1⟩ => ?_) hs hw
  rw [h1]
  exact thn (hg pins s1 σ H1 x v _ I1 r1 q1) fun _ s2 q => q
/-- name = value -/
theorem ps_set {i : Nat} {x : Str} {e : Expr} {te : TE} {pos' : Pos} (hN : X.N.Nodup) (hi : X.N[i]? = some x) (hx : Loc X.env.scope x) (he : PE X e te) (hs : swapsWith e (some (.Name x pos')) pos.line X.env = pure false := by rfl) (hf : X.fn x = true ∨ X.env.scope.names.lookup x = some .local := by first | exact .inl rfl | exact .inr rfl | assumption) :
    PS X (.Assign [.Name x pos'] e pos) (tAsg te (gName i)) := by
  intro pins s σ H D I h
  refine wpAny_Assign_Name (thn (he pins s σ H _ I h) fun v s1 ⟨y, H1, I1, r1, q1⟩ => ?_) hs
  exact store_ok I1 hN hi hx r1 (fun s2 I2 => ⟨_, H1, I2, q1⟩) hf
end

/-! ### while -/
section
variable {X : Cx} {pos : Pos}
end

/-! ### what a loop or a comprehension walks -/
/-- at turn i: it yields x (the heap may grow), or it stops -/
structure It where
  go : Nat → Hp → Prop
  yld : Nat → Hp → V → Hp → Prop
  stop : Nat → Hp → Prop
/-- the iterator's own objects may turn: they are not the frame's, not pinned, younger than the entry (or a comprehension's own) -/
def FpOk (X : Cx) (pins : List (Addr × Obj)) (H : Hp) (b : Addr) : Prop :=
  H b = none ∧ b ≠ X.env.locals ∧ b ∉ X.fs ∧ (b ∈ X.ex ∨ X.s₀.heap.objs.size ≤ b) ∧ (∀ x c, X.env.cells.lookup x = some c → c ≠ b) ∧ ∀ p ∈ X.pn ++ pins, p.1 ≠ b
theorem Inv.fpOk {X : Cx} {pins : List (Addr × Obj)} {σ : St} {H H' : Hp} {s : Shared} {b : Addr} (I : Inv X pins σ H s) (hb : s.heap.objs.size ≤ b) (hn : H' b = none) : FpOk X pins H' b := by
  refine ⟨hn, Nat.ne_of_gt (Nat.lt_of_lt_of_le I.lt hb), I.nofs hb, .inr (Nat.le_trans I.sz hb), fun x c e z => ?_, fun p hp z => ?_⟩
  · obtain ⟨v, q⟩ := I.cell x c e
    exact absurd (Nat.lt_of_lt_of_le q.lt (by rw [z]; exact hb)) (Nat.lt_irrefl _)
  · exact absurd (Nat.lt_of_lt_of_le (Heap.lt_size (I.pin p hp).1) (by rw [z]; exact hb)) (Nat.lt_irrefl _)
structure Turn (P : Program) (w : World) (K : PySem.W.Frag) (tg : Expr) (J : It) (fp : List Addr) (it : Addr) (tn : Nat → Heap → Prop) : Prop where
  mem : it ∈ fp
  obj : ∀ i h, tn i h → ∀ b ∈ fp, ∃ o, h.get? b = some o ∧ ∀ v, o.data ≠ .cell v
  keep : ∀ i h h', tn i h → (∀ b ∈ fp, ∀ o, h.get? b = some o → h'.get? b = some o) → tn i h'
  item : ∀ (X : Cx), X.prog = P → X.w = w → X.K = K → X.calm = true → ∀ (i : Nat) (pins : List (Addr × Obj)) (s : Shared) (σ : St) (H : Hp) (E : Value → Shared → Prop), Inv X pins σ H s → (∀ b ∈ fp, FpOk X pins H b) → tn i s.heap → J.go i H →
    wpAny (model P w) X.A (pyNext (.ref it)) (fun r s1 => ∃ u, r = some u ∧
      wpAny (model P w) X.A (letOwnedTupleGo tg (.ref it) u) (fun _ s2 => ∃ x H', Inv X pins σ H' s2 ∧ RelV x u ∧ J.yld i H x H' ∧ tn (i + 1) s2.heap ∧ ∀ b ∈ fp, H' b = none) E s1) E s
  done : ∀ (X : Cx), X.prog = P → X.w = w → X.K = K → X.calm = true → ∀ (i : Nat) (pins : List (Addr × Obj)) (s : Shared) (σ : St) (H : Hp) (E : Value → Shared → Prop), Inv X pins σ H s → (∀ b ∈ fp, FpOk X pins H b) → tn i s.heap → J.stop i H →
    wpAny (model P w) X.A (pyNext (.ref it)) (fun r s1 => r = none ∧ Inv X pins σ H s1) E s
  self : ∀ (A : Around) (i : Nat) (s : Shared) (Q : Value → Shared → Prop) (E : Value → Shared → Prop), tn i s.heap → Q (.ref it) s → wpAny (model P w) A (pyIter (.ref it)) Q E s
abbrev TI := St → Hp → (It → Hp → Prop) → Prop
/-- an iterator has come -/
def PIE (X : Cx) (pins : List (Addr × Obj)) (σ : St) (tg : Expr) (R : It → Hp → Prop) (itv : Value) (s2 : Shared) : Prop :=
  ∃ (it : Addr) (fp : List Addr) (tn : Nat → Heap → Prop) (J : It) (H' : Hp), itv = .ref it ∧ Inv X pins σ H' s2 ∧ Turn X.prog X.w X.K tg J fp it tn ∧ tn 0 s2.heap ∧ (∀ b ∈ fp, FpOk X pins H' b) ∧ R J H'
def PI (X : Cx) (tg iter : Expr) (wi : TI) : Prop :=
  ∀ (pins : List (Addr × Obj)) (s : Shared) (σ : St) (H : Hp) (R : It → Hp → Prop), Inv X pins σ H s → wi σ H R →
    wpAny (model X.prog X.w) X.A (eval iter X.env) (fun v s1 => wpAny (model X.prog X.w) X.A (pyIter v) (PIE X pins σ tg R) X.xe s1) X.xe s

/-- the step ahead of the store is nothing for an iterator that keeps no tuple -/
theorem go_of {M : Model} {A : Around} {E : Value → Shared → Prop} {s : Shared} {tg : Expr} {it : Addr} {u : Value} {o : Obj} {n : String} {vs : Array Value} {Q : Unit → Shared → Prop} (ho : s.heap.get? it = some o) (hc : o.cls = .type n) (hd : o.data = .fields vs)
    (hn : ["enumerate", "zip", "dict_itemiterator", "dict_reverseitemiterator", "odict_iterator", "itertools.zip_longest", "itertools.pairwise"].contains n = false) (hQ : Q () s) : wpAny M A (letOwnedTupleGo tg (.ref it) u) Q E s := by
  unfold letOwnedTupleGo
  cases tg <;> first
    | exact wpAny_pure hQ
    | (cases u <;> first
        | exact wpAny_pure hQ
        | (refine wpAny_bind (wpAny_load ho ?_)
           rw [hc, hd]
           show wpAny M A (if (["enumerate", "zip", "dict_itemiterator", "dict_reverseitemiterator", "odict_iterator", "itertools.zip_longest", "itertools.pairwise"].contains n && vs[0]? == some (rawInt _)) = true then _ else _) Q E s
           rw [if_neg (by intro h; rw [hn, Bool.false_and] at h; cases h)]
           exact wpAny_pure hQ))

/-- the list at a, as it stands at each turn (a loop may append to it) -/
def Itl (K : PySem.W.Frag) (a : Addr) : It :=
  ⟨fun i H => ∃ xs x, SqL K H a xs ∧ xs[i]? = some x, fun i H x H' => H' = H ∧ ∀ xs, SqL K H a xs → xs[i]? = some x, fun i H => ∃ xs, SqL K H a xs ∧ xs.length ≤ i⟩
/-- lo, lo + 1, .. (n of them) -/
def Itr (lo : Int) (n : Nat) : It := ⟨fun i _ => i < n, fun i H x H' => H' = H ∧ x = .int (lo + i), fun i _ => n ≤ i⟩
theorem turn_list {P : Program} {w : World} {K : PySem.W.Frag} {tg : Expr} (a it : Addr) : Turn P w K tg (Itl K a) [it] it (fun i h => h.IsListIter it a i) where
  mem := by simp
  obj := fun i h st b hb => by
    have e : b = it := by simpa using hb
    subst e
    obtain ⟨o, e, c, d⟩ := st
    exact ⟨o, e, fun v z => by rw [d] at z; cases z⟩
  keep := fun i h h' st k => st.at fun o e => k it (by simp) o e
  item := by
    intro X hP hw hK hc i pins s σ H E I hf st hg
    subst hP hw hK
    obtain ⟨xs, x, hq, hx⟩ := hg
    obtain ⟨its, rv, p, hz⟩ := I.list hq
    obtain ⟨u, hu, ru⟩ := rv.get hx
    obtain ⟨f0, f1, f2, f3, f4, f5⟩ := hf it (by simp)
    refine wpAny_pyNext_list_item st p.isList (x := u) (by simpa using hu) fun h' st' sb => ?_
    have I1 : Inv X pins σ H { s with heap := h' } := I.turned (t' := s.toks) (fun b o hb e => (sb.2 b hb).trans e) f0 f1 f3 f4 f5
    obtain ⟨o, e, c, d⟩ := id st'
    exact ⟨u, rfl, go_of (s := { s with heap := h' }) e c d (by decide) ⟨x, H, I1, ru, ⟨rfl, fun ys hy => by rw [I.list_inj hy hq]; exact hx⟩, st', fun b hb => (hf b hb).1⟩⟩
  done := by
    intro X hP hw hK hc i pins s σ H E I hf st hg
    subst hP hw hK
    obtain ⟨xs, hq, hx⟩ := hg
    obtain ⟨its, rv, p, hz⟩ := I.list hq
    obtain ⟨f0, f1, f2, f3, f4, f5⟩ := hf it (by simp)
    have hl := rv.length
    exact wpAny_pyNext_list_end (I.ok.hd hc) st p.isList (by simp; omega) fun h' eb => ⟨rfl, I.turned (t' := s.toks) (fun b o hb e => eb b o hb e) f0 f1 f3 f4 f5⟩
  self := fun _ _ _ _ _ st h => wpAny_pyIter_listiter st h
theorem turn_range {P : Program} {w : World} {K : PySem.W.Frag} {tg : Expr} (it : Addr) (lo : Int) (n : Nat) : Turn P w K tg (Itr lo n) [it] it (fun i h => IsRangeIter h it (lo + (i : Nat) * 1) ((n : Int) - (i : Nat)) 1) where
  mem := by simp
  obj := fun i h st b hb => by
    have e : b = it := by simpa using hb
    subst e
    exact ⟨_, st, fun v z => by
      have z' : Data.fields _ = Data.cell v := z
      cases z'⟩
  keep := fun i h h' st k => k it (by simp) _ st
  item := by
    intro X hP hw hK hc i pins s σ H E I hf st hg
    subst hP hw hK
    obtain ⟨f0, f1, f2, f3, f4, f5⟩ := hf it (by simp)
    have W := Walks.range (prog := X.prog) (w := X.w) (I.ok.hd hc) it lo 1 n
    refine W.item i s _ _ hg st fun v h' tk hv st' kk => ?_
    obtain ⟨t, rfl⟩ := hv
    have I1 : Inv X pins σ H { s with heap := h', toks := tk } := I.turned (fun b o hb e => kk b o (by simpa using hb) e) f0 f1 f3 f4 f5
    refine ⟨_, rfl, go_of (s := { s with heap := h', toks := tk }) (n := "range_iterator") st' rfl rfl (by decide) ⟨.int (lo + i), H, I1, ⟨t, ?_⟩, ⟨rfl, rfl⟩, st', fun b hb => (hf b hb).1⟩⟩
    rw [Int.mul_one]
  done := by
    intro X hP hw hK hc i pins s σ H E I hf st hg
    subst hP hw hK
    obtain ⟨f0, f1, f2, f3, f4, f5⟩ := hf it (by simp)
    exact wpAny_pyNext_range_end (I.ok.hd hc) st (by have : n ≤ i := hg; omega) fun h' eb => ⟨rfl, I.turned (t' := s.toks) (fun b o hb e => eb b o hb e) f0 f1 f3 f4 f5⟩
  self := fun _ _ _ _ _ st h => wpAny_pyIter_rangeiter st h
end L2

namespace L2
open PySem PySem.Spec PyProof.Rows
section
variable {X : Cx} {tg : Expr}
def iList (K : PySem.W.Frag) (tl : TE) : TI := fun σ H R => tl σ H fun x H1 => ∃ a, x = .ref a ∧ (∃ xs, SqL K H1 a xs) ∧ R (Itl K a) H1
theorem pi_list {l : Expr} {tl : TE} (hl : PE X l tl) : PI X tg l (iList X.K tl) := by
  intro pins s σ H R I h
  refine thn (hl pins s σ H _ I h) fun v s1 ⟨x, H1, I1, r1, q1⟩ => ?_
  obtain ⟨a, e, ⟨xs, hq⟩, q⟩ := q1
  subst e
  cases r1
  obtain ⟨its, rv, p, hz⟩ := I1.list hq
  refine wpAny_pyIter_list p.isList ?_
  refine ⟨s1.heap.objs.size, [s1.heap.objs.size], _, _, H1, rfl, I1.kept (t' := s1.toks) fun b o e => Heap.get?_push_of_some _ e, turn_list a _, ⟨_, Heap.get?_push_size _ rfl, rfl, rfl⟩, fun b hb => ?_, q⟩
  have e : b = s1.heap.objs.size := by simpa using hb
  subst e
  exact I1.fpOk (Nat.le_refl _) (I1.hok.fresh (Nat.le_refl _))
/-- a range object just made, walked -/
theorem range_it {pins : List (Addr × Obj)} {σ : St} {H : Hp} {s : Shared} {R : It → Hp → Prop} {E : Value → Shared → Prop} {lo hi : Int} {t u v : Tok} {tk : Nat} (I : Inv X pins σ H s) (h1 : -(2 ^ 62) ≤ lo) (h2 : lo < 2 ^ 62) (h3 : -(2 ^ 62) ≤ hi) (h4 : hi < 2 ^ 62)
    (q : R (Itr lo (hi - lo).toNat) H) : wpAny (model X.prog X.w) X.A (pyIter (.ref s.heap.objs.size)) (PIE X pins σ tg R) E { s with heap := s.heap.push { cls := .type "range", data := .fields #[.int lo t, .int hi u, .int 1 v] }, toks := tk } := by
  refine wpAny_pyIter_range (IsRange.new ..) (small_one h1 h2 h3 h4) ?_
  have I1 : Inv X pins σ H { s with heap := s.heap.push { cls := .type "range", data := .fields #[.int lo t, .int hi u, .int 1 v] }, toks := tk } := I.kept fun b o e => Heap.get?_push_of_some _ e
  refine ⟨(s.heap.push { cls := .type "range", data := .fields #[.int lo t, .int hi u, .int 1 v] }).objs.size, [(s.heap.push { cls := .type "range", data := .fields #[.int lo t, .int hi u, .int 1 v] }).objs.size], _, _, H, rfl,
    I1.kept (t' := tk) fun b o e => Heap.get?_push_of_some _ e, turn_range _ lo (hi - lo).toNat, ?_, fun b hb => ?_, q⟩
  · have e1 : lo + ((0 : Nat) : Int) * 1 = lo := by simp
    have e2 : (((hi - lo).toNat : Nat) : Int) - ((0 : Nat) : Int) = Builtin.Range.rangeSize lo hi 1 := by rw [rangeSize_one]; split <;> omega
    show IsRangeIter _ _ (lo + ((0 : Nat) : Int) * 1) ((((hi - lo).toNat : Nat) : Int) - ((0 : Nat) : Int)) 1
    rw [e1, e2]
    exact Heap.get?_push_size _ rfl
  · have e : b = (s.heap.push { cls := .type "range", data := .fields #[.int lo t, .int hi u, .int 1 v] }).objs.size := by simpa using hb
    subst e
    exact I1.fpOk (Nat.le_refl _) (I1.hok.fresh (Nat.le_refl _))
def iRng1 (ta : TA) : TI := fun σ H R => ta σ H fun vs H1 => ∃ j : Int, vs = [.int j] ∧ -(2 ^ 62) ≤ j ∧ j < 2 ^ 62 ∧ R (Itr 0 j.toNat) H1
def iRng2 (ta : TA) : TI := fun σ H R => ta σ H fun vs H1 => ∃ i j : Int, vs = [.int i, .int j] ∧ (-(2 ^ 62) ≤ i ∧ i < 2 ^ 62 ∧ -(2 ^ 62) ≤ j ∧ j < 2 ^ 62) ∧ R (Itr i (j - i).toNat) H1
theorem pi_range1 {a : Expr} {ta : TA} {p pos : Pos} (hg : Gl X "range") (hm : X.mg "range" = none) (ha : PA X [a] ta) (hs : starEach [a] X.env = [(false, eval a X.env)] := by rfl) : PI X tg (.Call (.Name "range" p) [a] [] pos) (iRng1 ta) := by
  intro pins s σ H R I h
  refine Call_ (ld_blt I hg hm boot_range (PyProof.Rows.callWith_type1 (thn (ha pos pins s σ H _ I h) fun us s1 ⟨vs, H1, I1, r1, q1⟩ => ?_) hs rfl))
  obtain ⟨j, e, q1, q2, q⟩ := q1
  subst e
  cases r1 with
  | cons r rr =>
    cases rr
    obtain ⟨t, rfl⟩ := r
    exact call_range_1 (range_it I1 (by omega) (by omega) q1 q2 (by simpa using q))
/-! ### for -/
/-- W: the invariant by the turn and a measure; N: what the body is to reach -/
def tFor (wi : TI) (g : TG) (tb : TS) : TS := fun D σ H => wi σ H fun J H1 => ∃ W : Nat → Nat → St → Hp → Prop, (∃ m, W 0 m σ H1) ∧ ∀ i m σ H, W i m σ H →
  (J.stop i H ∧ D.nx σ H) ∨ (J.go i H ∧ ∃ N : St → Hp → Prop, (∀ σ' H', N σ' H' → ∃ m', m' < m ∧ W (i + 1) m' σ' H') ∧ ∀ x H', J.yld i H x H' → g x σ H' fun σ2 H2 => tb { D with nx := N, ct := N, bk := D.nx } σ2 H2)
/-- the records at fp as they stand -/
def pinsAt (fp : List Addr) (h : Heap) : List (Addr × Obj) := fp.filterMap fun b => (h.get? b).map fun o => (b, o)
theorem mem_pinsAt {fp : List Addr} {h : Heap} {b : Addr} {o : Obj} (hb : b ∈ fp) (e : h.get? b = some o) : (b, o) ∈ pinsAt fp h := List.mem_filterMap.mpr ⟨b, hb, by rw [e]; rfl⟩
theorem of_pinsAt {fp : List Addr} {h : Heap} {p : Addr × Obj} (hp : p ∈ pinsAt fp h) : p.1 ∈ fp ∧ h.get? p.1 = some p.2 := by
  obtain ⟨b, hb, e⟩ := List.mem_filterMap.mp hp
  cases q : h.get? b with
  | none => rw [q] at e; cases e
  | some o =>
    rw [q] at e
    have e' : (b, o) = p := Option.some.inj e
    subst e'
    exact ⟨hb, q⟩
theorem Inv.pinned {pins : List (Addr × Obj)} {σ : St} {H : Hp} {s : Shared} {fp : List Addr} (I : Inv X pins σ H s) (hf : ∀ b ∈ fp, FpOk X pins H b) (ho : ∀ b ∈ fp, ∃ o, s.heap.get? b = some o ∧ ∀ v, o.data ≠ .cell v) : Inv X (pins ++ pinsAt fp s.heap) σ H s :=
  I.pins_of fun p hp => (List.mem_append.mp hp).elim (fun z => I.pin p (List.mem_append_right _ z)) fun z => by
    obtain ⟨hb, e⟩ := of_pinsAt z
    obtain ⟨f0, f1, f2, _⟩ := hf p.1 hb
    obtain ⟨o, e', d⟩ := ho p.1 hb
    rw [e] at e'; cases e'
    exact ⟨e, f0, f1, f2, d⟩
theorem Inv.unpinned {pins pl : List (Addr × Obj)} {σ : St} {H : Hp} {s : Shared} (I : Inv X (pins ++ pl) σ H s) : Inv X pins σ H s := I.pins_of fun p hp => I.pin p (List.mem_append_right _ (List.mem_append_left _ hp))
theorem ps_for {iter : Expr} {body : List Stmt} {wi : TI} {g : TG} {tb : TS} {pos : Pos} (hp : PassesOwn (model X.prog X.w) X.A X.env X.xe) (hc : X.calm = true) (hi : PI X tg iter wi) (hg : PG X tg g) (hb : PSs X body tb)
    (hs : ∀ x, foldedSetIterable iter X.env x = pure x := by intro _; rfl) : PS X (.For tg iter body [] pos) (tFor wi g tb) := by
  intro pins s σ H D I h
  refine wpAny_For (thn (hi pins s σ H _ I h) fun v s1 h1 => thn h1 fun itv s2 h2 => ?_) hs
  obtain ⟨it, fp, tn, J, H2, e, I2, T, st2, f2, W, ⟨m0, w0⟩, turn⟩ := h2
  subst e
  -- what stays true of the iterator's objects through the loop
  have stat : ∀ {H' : Hp}, (∀ b ∈ fp, H' b = none) → ∀ b ∈ fp, FpOk X pins H' b := fun hn b hb => ⟨hn b hb, (f2 b hb).2⟩
  refine codeAny_forLoop_any (fun n s' => ∃ i σ' H', Inv X pins σ' H' s' ∧ tn i s'.heap ∧ (∀ b ∈ fp, H' b = none) ∧ W i n σ' H') ?_ m0 ⟨0, σ, H2, I2, st2, fun b hb => (f2 b hb).1, w0⟩
  rintro n s3 ⟨i, σ3, H3, I3, st3, fr3, w3⟩
  rcases turn i n σ3 H3 w3 with ⟨stop, qn⟩ | ⟨go, N, hN, step⟩
  · refine wpAny_passesOwn hp (thn (T.done X rfl rfl rfl hc i pins s3 σ3 H3 X.xe I3 (stat fr3) st3 stop) fun r s4 ⟨hr, I4⟩ => ?_)
    subst hr
    exact wpAny_execs_nil ⟨σ3, H3, I4, qn⟩
  · refine wpAny_passesOwn hp (thn (T.item X rfl rfl rfl hc i pins s3 σ3 H3 X.xe I3 (stat fr3) st3 go) fun r s4 ⟨u, hr, h4⟩ => ?_)
    subst hr
    refine wpAny_passesOwn hp (thn h4 fun _ s5 ⟨x, H5, I5, r5, y5, st5, fr5⟩ => ?_)
    have I5' := I5.pinned (stat fr5) (T.obj _ _ st5)
    refine wpAny_passesOwn hp (thn (hg _ s5 σ3 H5 x u _ I5' r5 (step x H5 y5)) fun _ s6 ⟨σ6, H6, I6, q6⟩ => ?_)
    refine wpAny_passesOwn hp (thn (hb _ s6 σ6 H6 _ I6 q6) fun f s7 q7 => ?_)
    have again : ∀ {σ7 : St} {H7 : Hp}, Inv X (pins ++ pinsAt fp s5.heap) σ7 H7 s7 → N σ7 H7 → ∃ m, m < n ∧ ∃ i σ' H', Inv X pins σ' H' s7 ∧ tn i s7.heap ∧ (∀ b ∈ fp, H' b = none) ∧ W i m σ' H' := fun {σ7 H7} I7 n7 => by
      obtain ⟨m', hm, w7⟩ := hN σ7 H7 n7
      refine ⟨m', hm, i + 1, σ7, H7, I7.unpinned, T.keep _ _ _ st5 fun b hb o e => (I7.pin (b, o) (List.mem_append_right _ (List.mem_append_right _ (mem_pinsAt hb e)))).1, fun b hb => ?_, w7⟩
      obtain ⟨o, e, d⟩ := T.obj _ _ st5 b hb
      exact (I7.pin (b, o) (List.mem_append_right _ (List.mem_append_right _ (mem_pinsAt hb e)))).2.1
    cases f with
    | next => obtain ⟨σ7, H7, I7, n7⟩ := q7; exact again I7 n7
    | cont => obtain ⟨σ7, H7, I7, n7⟩ := q7; exact again I7 n7
    | brk => obtain ⟨σ7, H7, I7, q7⟩ := q7; exact ⟨σ7, H7, I7.unpinned, q7⟩
    | ret v => obtain ⟨x7, σ7, H7, I7, r7, q7⟩ := q7; exact ⟨x7, σ7, H7, I7.unpinned, r7, q7⟩
end

/-! ### the forms one uses -/
/-- over a list that the body leaves as it is -/
theorem for_list {K : PySem.W.Frag} {a : Addr} {xs : List V} {g : TG} {tb : TS} {D : Ends} {σ : St} {H : Hp} (Pv : Nat → St → Hp → Prop) (h0 : Pv 0 σ H) (hl : ∀ i σ H, i ≤ xs.length → Pv i σ H → SqL K H a xs)
    (hs : ∀ i x σ H, xs[i]? = some x → Pv i σ H → g x σ H fun σ2 H2 => tb { D with nx := Pv (i + 1), ct := Pv (i + 1), bk := D.nx } σ2 H2) (hd : ∀ σ H, Pv xs.length σ H → D.nx σ H) :
    ∃ W : Nat → Nat → St → Hp → Prop, (∃ m, W 0 m σ H) ∧ ∀ i m σ H, W i m σ H →
      ((Itl K a).stop i H ∧ D.nx σ H) ∨ ((Itl K a).go i H ∧ ∃ N : St → Hp → Prop, (∀ σ' H', N σ' H' → ∃ m', m' < m ∧ W (i + 1) m' σ' H') ∧ ∀ x H', (Itl K a).yld i H x H' → g x σ H' fun σ2 H2 => tb { D with nx := N, ct := N, bk := D.nx } σ2 H2) := by
  refine ⟨fun i m σ H => m = xs.length - i ∧ i ≤ xs.length ∧ Pv i σ H, ⟨xs.length, by simp, Nat.zero_le _, h0⟩, ?_⟩
  rintro i m σ H ⟨rfl, hi, p⟩
  have q := hl i σ H hi p
  by_cases hlt : i < xs.length
  · refine .inr ⟨⟨xs, xs[i], q, by simp [hlt]⟩, Pv (i + 1), fun σ' H' p' => ⟨xs.length - (i + 1), by omega, rfl, hlt, p'⟩, fun x H' y => ?_⟩
    obtain ⟨e, y⟩ := y
    subst e
    exact hs i x σ _ (y xs q) p
  · have e : i = xs.length := by omega
    subst e
    exact .inl ⟨⟨xs, q, Nat.le_refl _⟩, hd σ H p⟩
theorem for_range {lo : Int} {n : Nat} {g : TG} {tb : TS} {D : Ends} {σ : St} {H : Hp} (Pv : Nat → St → Hp → Prop) (h0 : Pv 0 σ H)
    (hs : ∀ i σ H, i < n → Pv i σ H → g (.int (lo + i)) σ H fun σ2 H2 => tb { D with nx := Pv (i + 1), ct := Pv (i + 1), bk := D.nx } σ2 H2) (hd : ∀ σ H, Pv n σ H → D.nx σ H) :
    ∃ W : Nat → Nat → St → Hp → Prop, (∃ m, W 0 m σ H) ∧ ∀ i m σ H, W i m σ H →
      ((Itr lo n).stop i H ∧ D.nx σ H) ∨ ((Itr lo n).go i H ∧ ∃ N : St → Hp → Prop, (∀ σ' H', N σ' H' → ∃ m', m' < m ∧ W (i + 1) m' σ' H') ∧ ∀ x H', (Itr lo n).yld i H x H' → g x σ H' fun σ2 H2 => tb { D with nx := N, ct := N, bk := D.nx } σ2 H2) := by
  refine ⟨fun i m σ H => m = n - i ∧ i ≤ n ∧ Pv i σ H, ⟨n, by simp, Nat.zero_le _, h0⟩, ?_⟩
  rintro i m σ H ⟨rfl, hi, p⟩
  by_cases hlt : i < n
  · refine .inr ⟨hlt, Pv (i + 1), fun σ' H' p' => ⟨n - (i + 1), by omega, rfl, hlt, p'⟩, fun x H' y => ?_⟩
    obtain ⟨e, y⟩ := y
    subst e y
    exact hs i σ _ hlt p
  · have e : i = n := by omega
    subst e
    exact .inl ⟨Nat.le_refl _, hd σ H p⟩
end L2

namespace L2
open PySem PySem.Spec PyProof.Rows

abbrev R2 := V → V → Hp → VK → Prop
/-- a two-place operation on values: f is binaryOp op, inplaceOp op or compareOp op -/
def OpR (X : Cx) (f : Value → Value → Sem Value) (r : R2) : Prop :=
  ∀ (pins : List (Addr × Obj)) (s : Shared) (σ : St) (H : Hp) (x y : V) (v u : Value) (Q : VK), Inv X pins σ H s → RelV x v → RelV y u → r x y H Q →
    wpAny (model X.prog X.w) X.A (f v u) (EP X pins σ Q) X.xe s
/-- a one-place operation -/
def UnR (X : Cx) (f : Value → Sem Value) (r : V → Hp → VK → Prop) : Prop :=
  ∀ (pins : List (Addr × Obj)) (s : Shared) (σ : St) (H : Hp) (x : V) (v : Value) (Q : VK), Inv X pins σ H s → RelV x v → r x H Q →
    wpAny (model X.prog X.w) X.A (f v) (EP X pins σ Q) X.xe s
/-- a call of a value that is known (a builtin, a type) with values -/
def CallR (X : Cx) (f : Value) (r : List V → Hp → VK → Prop) : Prop :=
  ∀ (pins : List (Addr × Obj)) (s : Shared) (σ : St) (H : Hp) (xs : List V) (us : List Value) (Q : VK), Inv X pins σ H s → Vals xs us → r xs H Q →
    wpAny (model X.prog X.w) X.A (call f us) (EP X pins σ Q) X.xe s
def tOp (r : R2) (ta tb : TE) : TE := fun σ H Q => ta σ H fun x H1 => tb σ H1 fun y H2 => r x y H2 Q
def tUn (r : V → Hp → VK → Prop) (ta : TE) : TE := fun σ H Q => ta σ H fun x H1 => r x H1 Q
/-- ints in, under C, and a value out -/
def rI (C : Int → Int → Prop) (g : Int → Int → V) : R2 := fun x y H Q => ∃ i j, x = .int i ∧ y = .int j ∧ C i j ∧ Q (g i j) H
def rI0 (g : Int → Int → V) : R2 := fun x y H Q => ∃ i j, x = .int i ∧ y = .int j ∧ Q (g i j) H
def rU (g : Int → V) : V → Hp → VK → Prop := fun x H Q => ∃ i, x = .int i ∧ Q (g i) H

section
variable {X : Cx} {a b c : Expr} {ta tb tc : TE} {pos : Pos}

theorem binT (ha : PE X a ta) (hb : PE X b tb) {pins : List (Addr × Obj)} {s : Shared} {σ : St} {H : Hp} {R : V → V → Hp → Prop} (I : Inv X pins σ H s)
    (h : ta σ H fun x H1 => tb σ H1 fun y H2 => R x y H2) {Q : Value → Shared → Prop} {f : Value → Value → Sem Value}
    (hf : ∀ v u s2 x y H2, Inv X pins σ H2 s2 → RelV x v → RelV y u → R x y H2 → wpAny (model X.prog X.w) X.A (f v u) Q X.xe s2) :
    wpAny (model X.prog X.w) X.A (eval a X.env) (fun v s₁ => wpAny (model X.prog X.w) X.A (eval b X.env) (fun u s₂ => wpAny (model X.prog X.w) X.A (f v u) Q X.xe s₂) X.xe s₁) X.xe s := by
  refine thn (ha pins s σ H _ I h) fun v s1 ⟨x, H1, I1, r1, q1⟩ => ?_
  refine thn (hb pins s1 σ H1 _ I1 q1) fun u s2 ⟨y, H2, I2, r2, q2⟩ => ?_
  exact hf v u s2 x y H2 I2 r1 r2 q2

theorem pe_op {op : Operator} {r : R2} (ho : OpR X (binaryOp op) r) (ha : PE X a ta) (hb : PE X b tb) : PE X (.BinOp a op b pos) (tOp r ta tb) := by
  intro pins s σ H Q I h
  exact wpAny_BinOp (binT ha hb I h fun v u s2 x y H2 I2 rx ry q => ho pins s2 σ H2 x y v u Q I2 rx ry q)
theorem pe_un {op : UnaryOp} {r : V → Hp → VK → Prop} (ho : UnR X (unaryOp op) r) (ha : PE X a ta) : PE X (.UnaryOp op a pos) (tUn r ta) := by
  intro pins s σ H Q I h
  exact UnaryOp_ (thn (ha pins s σ H _ I h) fun v s1 ⟨x, H1, I1, r1, q1⟩ => ho pins s1 σ H1 x v Q I1 r1 q1)
/-! ### ints -/
theorem opI {f : Value → Value → Sem Value} {C : Int → Int → Prop} {g : Int → Int → Int}
    (rule : ∀ (i j : Int) (t u : Tok) (s : Shared) (Q : Value → Shared → Prop) (E : Value → Shared → Prop), C i j → Q (.int (g i j) s.toks) { s with toks := s.toks + 1 } → wpAny (model X.prog X.w) X.A (f (.int i t) (.int j u)) Q E s) :
    OpR X f (rI C fun i j => .int (g i j)) := by
  intro pins s σ H x y v u Q I rx ry h
  obtain ⟨i, j, rfl, rfl, hc, q⟩ := h
  obtain ⟨t, rfl⟩ := rx
  obtain ⟨t', rfl⟩ := ry
  exact rule i j t t' s _ _ hc ⟨.int (g i j), H, I.tok _, ⟨_, rfl⟩, q⟩
theorem opI0 {f : Value → Value → Sem Value} {g : Int → Int → Int}
    (rule : ∀ (i j : Int) (t u : Tok) (s : Shared) (Q : Value → Shared → Prop) (E : Value → Shared → Prop), Q (.int (g i j) s.toks) { s with toks := s.toks + 1 } → wpAny (model X.prog X.w) X.A (f (.int i t) (.int j u)) Q E s) :
    OpR X f (rI0 fun i j => .int (g i j)) := by
  intro pins s σ H x y v u Q I rx ry h
  obtain ⟨i, j, rfl, rfl, q⟩ := h
  obtain ⟨t, rfl⟩ := rx
  obtain ⟨t', rfl⟩ := ry
  exact rule i j t t' s _ _ ⟨.int (g i j), H, I.tok _, ⟨_, rfl⟩, q⟩
theorem opB0 {f : Value → Value → Sem Value} {g : Int → Int → Bool}
    (rule : ∀ (i j : Int) (t u : Tok) (s : Shared) (Q : Value → Shared → Prop) (E : Value → Shared → Prop), Q (.bool (g i j)) s → wpAny (model X.prog X.w) X.A (f (.int i t) (.int j u)) Q E s) :
    OpR X f (rI0 fun i j => .bl (g i j)) := by
  intro pins s σ H x y v u Q I rx ry h
  obtain ⟨i, j, rfl, rfl, q⟩ := h
  obtain ⟨t, rfl⟩ := rx
  obtain ⟨t', rfl⟩ := ry
  exact rule i j t t' s _ _ ⟨.bl (g i j), H, I, rfl, q⟩

def CPow (i j : Int) : Prop := 0 ≤ j ∧ j ≤ 1000000 ∧ i.natAbs < 2 ^ 64
def CMul (i j : Int) : Prop := (-(2 ^ 64) < i ∧ i < 2 ^ 64) ∨ (-(2 ^ 64) < j ∧ j < 2 ^ 64)
theorem CMul.ok {i j : Int} (h : CMul i j) : IntMulOk i j := by
  rcases h with ⟨h1, h2⟩ | ⟨h1, h2⟩
  · exact .of_left (intBits_le_64 h1 h2)
  · exact .of_right (intBits_le_64 h1 h2)
theorem op_add : OpR X (binaryOp .Add) (rI0 fun i j => .int (i + j)) := opI0 fun _ _ _ _ _ _ _ q => add_int q
theorem op_sub : OpR X (binaryOp .Sub) (rI0 fun i j => .int (i - j)) := opI0 fun _ _ _ _ _ _ _ q => sub_int q
theorem op_mul : OpR X (binaryOp .Mult) (rI CMul fun i j => .int (i * j)) := opI fun _ _ _ _ _ _ _ hc q => mul_int q hc.ok
/-- % by a positive divisor of any size -/
theorem op_mod : OpR X (binaryOp .Mod) (rI (fun _ j => 0 < j) fun i j => .int (i % j)) := opI fun i j _ _ _ _ _ hc q => by
  have h1 : (0 : Int) < j := hc
  exact mod_int' (by omega) (by rw [Int.fmod_eq_emod_of_nonneg i (by omega)]; exact q)
theorem op_pow : OpR X (binaryOp .Pow) (rI CPow fun i j => .int (i ^ j.toNat)) := opI fun _ _ _ _ _ _ _ hc q => pow_int_small hc.1 hc.2.1 hc.2.2 q
theorem unI {f : Value → Sem Value} {g : Int → Int}
    (rule : ∀ (i : Int) (t : Tok) (s : Shared) (Q : Value → Shared → Prop) (E : Value → Shared → Prop), Q (.int (g i) s.toks) { s with toks := s.toks + 1 } → wpAny (model X.prog X.w) X.A (f (.int i t)) Q E s) :
    UnR X f (rU fun i => .int (g i)) := by
  intro pins s σ H x v Q I rx h
  obtain ⟨i, rfl, q⟩ := h
  obtain ⟨t, rfl⟩ := rx
  exact rule i t s _ _ ⟨.int (g i), H, I.tok _, ⟨_, rfl⟩, q⟩
theorem un_neg : UnR X (unaryOp .USub) (rU fun i => .int (-i)) := unI fun _ _ _ _ _ q => neg_int q
/-! ### bools among ints: n += (a < b) -/
end

/-! ### comparisons -/
/-- the scalars that == tells apart as data does -/
def scal : V → V → Bool
  | .non, .non => true | .non, .int _ => true | .int _, .non => true | .non, .bl _ => true | .bl _, .non => true | .non, .str _ => true | .str _, .non => true
  | .int _, .int _ => true | .bl _, .bl _ => true | .str _, .str _ => true | .byt _, .byt _ => true
  | .int _, .str _ => true | .str _, .int _ => true | .bl _, .str _ => true | .str _, .bl _ => true
  | _, _ => false
def rEq : R2 := fun x y H Q => scal x y = true ∧ Q (.bl (decide (x = y))) H
def rNe : R2 := fun x y H Q => scal x y = true ∧ Q (.bl (!decide (x = y))) H

theorem dec_int {i j : Int} : decide (V.int i = V.int j) = (i == j) := by
  rw [Bool.eq_iff_iff]
  simp
theorem dec_bl {i j : Bool} : decide (V.bl i = V.bl j) = (i == j) := by
  rw [Bool.eq_iff_iff]
  simp
theorem dec_str {i j : Str} : decide (V.str i = V.str j) = (i == j) := by
  rw [Bool.eq_iff_iff]
  simp
theorem dec_byt {i j : Array UInt8} : decide (V.byt i = V.byt j) = (i.toList == j.toList) := by
  rw [Bool.eq_iff_iff]
  cases i
  cases j
  simp

section
variable {X : Cx} {a b c : Expr} {ta tb tc : TE} {pos : Pos}
theorem fin_bl {pins : List (Addr × Obj)} {σ : St} {H : Hp} {s : Shared} {Q : VK} {k k' : Bool} (I : Inv X pins σ H s) (q : Q (.bl k) H) (e : k = k') : EP X pins σ Q (.bool k') s := by
  subst e
  exact ⟨.bl k, H, I, rfl, q⟩
theorem op_eq : OpR X (compareOp .Eq) rEq := by
  intro pins s σ H x y v u Q I rx ry h
  obtain ⟨hs, q⟩ := h
  cases x with
  | non =>
    cases rx
    cases y with
    | non => cases ry; exact PySem.EqNone.eq_none_none (fin_bl I q (by simp))
    | bl j => cases ry; exact PySem.EqNone.eq_none_bool (fin_bl I q (by simp))
    | int j => obtain ⟨t', rfl⟩ := ry; exact PySem.EqNone.eq_none_int (fin_bl I q (by simp))
    | str j => obtain ⟨t', rfl⟩ := ry; exact PySem.EqNone.eq_none_str (fin_bl I q (by simp))
    | _ => exact absurd (show false = true from hs) Bool.false_ne_true
  | bl i =>
    cases rx
    cases y with
    | non => cases ry; exact PySem.EqNone.eq_bool_none (fin_bl I q (by simp))
    | bl j => cases ry; exact eq_bool (fin_bl I q dec_bl)
    | str j => obtain ⟨t', rfl⟩ := ry; exact PySem.EqMixed.eq_bool_str (fin_bl I q (by simp))
    | _ => exact absurd (show false = true from hs) Bool.false_ne_true
  | int i =>
    obtain ⟨t, rfl⟩ := rx
    cases y with
    | non => cases ry; exact PySem.EqNone.eq_int_none (fin_bl I q (by simp))
    | int j => obtain ⟨t', rfl⟩ := ry; exact eq_int (fin_bl I q dec_int)
    | str j => obtain ⟨t', rfl⟩ := ry; exact PySem.EqMixed.eq_int_str (fin_bl I q (by simp))
    | _ => exact absurd (show false = true from hs) Bool.false_ne_true
  | str i =>
    obtain ⟨t, rfl⟩ := rx
    cases y with
    | non => cases ry; exact PySem.EqNone.eq_str_none (fin_bl I q (by simp))
    | bl j => cases ry; exact PySem.EqMixed.eq_str_bool (fin_bl I q (by simp))
    | int j => obtain ⟨t', rfl⟩ := ry; exact PySem.EqMixed.eq_str_int (fin_bl I q (by simp))
    | str j => obtain ⟨t', rfl⟩ := ry; exact eq_str (fin_bl I q dec_str)
    | _ => exact absurd (show false = true from hs) Bool.false_ne_true
  | byt i =>
    obtain ⟨t, rfl⟩ := rx
    cases y with
    | byt j => obtain ⟨t', rfl⟩ := ry; exact PySem.W.eq_bytes (fin_bl I q dec_byt)
    | _ => exact absurd (show false = true from hs) Bool.false_ne_true
  | _ => cases y <;> exact absurd (show false = true from hs) Bool.false_ne_true
theorem op_ne : OpR X (compareOp .NotEq) rNe := by
  intro pins s σ H x y v u Q I rx ry h
  obtain ⟨hs, q⟩ := h
  cases x with
  | non =>
    cases rx
    cases y with
    | non => cases ry; exact PySem.EqNone.ne_none_none (fin_bl I q (by simp))
    | bl j => cases ry; exact PySem.EqNone.ne_none_bool (fin_bl I q (by simp))
    | int j => obtain ⟨t', rfl⟩ := ry; exact PySem.EqNone.ne_none_int (fin_bl I q (by simp))
    | str j => obtain ⟨t', rfl⟩ := ry; exact PySem.EqNone.ne_none_str (fin_bl I q (by simp))
    | _ => exact absurd (show false = true from hs) Bool.false_ne_true
  | bl i =>
    cases rx
    cases y with
    | non => cases ry; exact PySem.EqNone.ne_bool_none (fin_bl I q (by simp))
    | bl j => cases ry; exact ne_bool (fin_bl I q (congrArg not dec_bl))
    | str j => obtain ⟨t', rfl⟩ := ry; exact PySem.EqMixed.ne_bool_str (fin_bl I q (by simp))
    | _ => exact absurd (show false = true from hs) Bool.false_ne_true
  | int i =>
    obtain ⟨t, rfl⟩ := rx
    cases y with
    | non => cases ry; exact PySem.EqNone.ne_int_none (fin_bl I q (by simp))
    | int j => obtain ⟨t', rfl⟩ := ry; exact ne_int (fin_bl I q (congrArg not dec_int))
    | str j => obtain ⟨t', rfl⟩ := ry; exact PySem.EqMixed.ne_int_str (fin_bl I q (by simp))
    | _ => exact absurd (show false = true from hs) Bool.false_ne_true
  | str i =>
    obtain ⟨t, rfl⟩ := rx
    cases y with
    | non => cases ry; exact PySem.EqNone.ne_str_none (fin_bl I q (by simp))
    | bl j => cases ry; exact PySem.EqMixed.ne_str_bool (fin_bl I q (by simp))
    | int j => obtain ⟨t', rfl⟩ := ry; exact PySem.EqMixed.ne_str_int (fin_bl I q (by simp))
    | str j => obtain ⟨t', rfl⟩ := ry; exact ne_str (fin_bl I q (congrArg not dec_str))
    | _ => exact absurd (show false = true from hs) Bool.false_ne_true
  | byt i =>
    obtain ⟨t, rfl⟩ := rx
    cases y with
    | byt j => obtain ⟨t', rfl⟩ := ry; exact PySem.W.ne_bytes (fin_bl I q (congrArg not dec_byt))
    | _ => exact absurd (show false = true from hs) Bool.false_ne_true
  | _ => cases y <;> exact absurd (show false = true from hs) Bool.false_ne_true

theorem op_lt : OpR X (compareOp .Lt) (rI0 fun i j => .bl (decide (i < j))) := opB0 fun _ _ _ _ _ _ _ q => lt_int q
theorem op_le : OpR X (compareOp .LtE) (rI0 fun i j => .bl (decide (i ≤ j))) := opB0 fun _ _ _ _ _ _ _ q => le_int q
theorem op_gt : OpR X (compareOp .Gt) (rI0 fun i j => .bl (decide (j < i))) := opB0 fun _ _ _ _ _ _ _ q => gt_int q
/-- two rules for one operation: by cases -/
theorem OpR.or {f : Value → Value → Sem Value} {r r' : R2} (h : OpR X f r) (h' : OpR X f r') : OpR X f (fun x y H Q => r x y H Q ∨ r' x y H Q) := by
  intro pins s σ H x y v u Q I rx ry q
  rcases q with q | q
  · exact h pins s σ H x y v u Q I rx ry q
  · exact h' pins s σ H x y v u Q I rx ry q

theorem nomark (b : Expr) {op : CmpOp} (h : op ≠ .In := by decide) (h2 : op ≠ .NotIn := by decide) : behindInMarks op b = false := by
  have e1 : (op == CmpOp.In) = false := by cases op <;> first | rfl | exact absurd rfl h
  have e2 : (op == CmpOp.NotIn) = false := by cases op <;> first | rfl | exact absurd rfl h2
  cases b <;> simp [behindInMarks, e1, e2]
/-- a comparison as a value; hm: nomark b, or (for in, not in) by with_unfolding_all rfl -/
theorem pe_cmpR {op : CmpOp} {r : R2} (ho : OpR X (compareOp op) r) (ha : PE X a ta) (hb : PE X b tb) (hm : behindInMarks op b = false) : PE X (.Compare a [op] [b] pos) (tOp r ta tb) := by
  intro pins s σ H Q I h
  exact wpAny_Compare1 (binT ha hb I h fun v u s2 x y H2 I2 rx ry q => ho pins s2 σ H2 x y v u Q I2 rx ry q) hm
/-- a reading of a value as a test -/
def tTest (t : TE) : TT := fun σ H Q => t σ H fun x H' => ∃ k, x = .bl k ∧ Q k H'
theorem pt_cmpR {op : CmpOp} {r : R2} (ho : OpR X (compareOp op) r) (ha : PE X a ta) (hb : PE X b tb) (hm : behindInMarks op b = false) : PT X (.Compare a [op] [b] pos) (tTest (tOp r ta tb)) := by
  intro pins s σ H Q I h
  refine wpAny_isTrue_Compare1 (thn (ha pins s σ H _ I h) fun v s1 ⟨x, H1, I1, r1, q1⟩ => thn (hb pins s1 σ H1 _ I1 q1) fun u s2 ⟨y, H2, I2, r2, q2⟩ =>
    thn (ho pins s2 σ H2 x y v u _ I2 r1 r2 q2) fun c s3 ⟨z, H3, I3, r3, k, e, q3⟩ => ?_) hm
  subst e
  cases r3
  exact wpAny_truthy_bool ⟨H3, I3, q3⟩
/-- a op1 b op2 c -/
def tChain (r r' : R2) (ta tb tc : TE) : TE := fun σ H Q => ta σ H fun x H1 => tb σ H1 fun y H2 => r x y H2 fun z H3 => ∃ k, z = .bl k ∧
  (if k = true then tc σ H3 fun w' H4 => r' y w' H4 Q else Q (.bl false) H3)
/-! ### truth -/
theorem line63 : (sizeLine : Nat) < 2 ^ 63 := by rw [sizeLine_eq]; decide
/-! ### strs and bytes -/
/-! ### scalar builtins, by CallR -/
theorem vals1 {x : V} {us : List Value} (r : Vals [x] us) : ∃ u, us = [u] ∧ RelV x u := by
  cases r with
  | cons r1 r2 => cases r2; exact ⟨_, rfl, r1⟩
theorem vals2 {x y : V} {us : List Value} (r : Vals [x, y] us) : ∃ u w', us = [u, w'] ∧ RelV x u ∧ RelV y w' := by
  cases r with
  | cons r1 r2 =>
    cases r2 with
    | cons r3 r4 => cases r4; exact ⟨_, _, rfl, r1, r3⟩
theorem call_min2 (hc : X.calm = true) : CallR X (.builtin "min") (fun xs H Q => ∃ i j, xs = [.int i, .int j] ∧ Q (.int (if j < i then j else i)) H) := by
  intro pins s σ H xs us Q I r h
  obtain ⟨i, j, rfl, q⟩ := h
  obtain ⟨u, w', rfl, ⟨t, rfl⟩, ⟨t', rfl⟩⟩ := vals2 r
  refine min_two_ints (I.ok.hd hc) fun h' tk k => ⟨_, H, I.kept k, ?_, q⟩
  by_cases hj : j < i
  · rw [if_pos hj, if_pos hj]; exact ⟨_, rfl⟩
  · rw [if_neg hj, if_neg hj]; exact ⟨_, rfl⟩
theorem call_int1 : CallR X (.type "int") (fun xs H Q => (∃ i, xs = [.int i] ∧ Q (.int i) H) ∨ ∃ k, xs = [.bl k] ∧ Q (.int (if k then 1 else 0)) H) := by
  intro pins s σ H xs us Q I r h
  rcases h with ⟨i, rfl, q⟩ | ⟨k, rfl, q⟩
  · obtain ⟨u, rfl, t, rfl⟩ := vals1 r
    exact call_int_int ⟨.int i, H, I, ⟨_, rfl⟩, q⟩
  · obtain ⟨u, rfl, r1⟩ := vals1 r
    cases r1
    exact call_int_bool ⟨.int (if k then 1 else 0), H, I.tok _, ⟨_, rfl⟩, q⟩
/-- len of a str, a bytes, a list, a tuple -/
def LenV (K : PySem.W.Frag) (x : V) (H : Hp) (n : Nat) : Prop :=
  match x with
  | .str y => y.length ≤ sizeLine ∧ n = y.length
  | .byt y => y.size ≤ sizeLine ∧ n = y.size
  | .ref p => (∃ xs, SqL K H p xs ∧ n = xs.length) ∨ ∃ xs, SqT K H p xs ∧ n = xs.length
  | _ => False
theorem call_len : CallR X (.builtin "len") (fun xs H Q => ∃ x n, xs = [x] ∧ LenV X.K x H n ∧ Q (.int n) H) := by
  intro pins s σ H xs us Q I r h
  obtain ⟨x, n, rfl, e, q⟩ := h
  obtain ⟨u, rfl, rx⟩ := vals1 r
  have hl := line63
  have hs : sizeLine = 16777216 := sizeLine_eq
  cases x with
  | str y =>
    obtain ⟨t, rfl⟩ := rx
    obtain ⟨hy, e'⟩ : y.length ≤ sizeLine ∧ n = y.length := e
    subst e'
    exact len_str (by omega) ⟨.int _, H, I.tok _, ⟨_, rfl⟩, q⟩
  | byt y =>
    obtain ⟨t, rfl⟩ := rx
    obtain ⟨hy, e'⟩ : y.size ≤ sizeLine ∧ n = y.size := e
    subst e'
    exact PySem.W.len_bytes (by omega) ⟨.int _, H, I.tok _, ⟨_, rfl⟩, q⟩
  | ref p =>
    cases rx
    have e' : (∃ xs, SqL X.K H p xs ∧ n = xs.length) ∨ ∃ xs, SqT X.K H p xs ∧ n = xs.length := e
    rcases e' with ⟨xs, hx, e'⟩ | ⟨xs, hx, e'⟩
    · subst e'
      obtain ⟨its, r', pl, hz⟩ := I.list hx
      have hlen := r'.length
      exact Calls.call_len_list pl.isList (by simp only [List.size_toArray]; omega) ⟨.int xs.length, H, I.tok _, ⟨_, by simp only [List.size_toArray]; rw [hlen]⟩, q⟩
    · subst e'
      obtain ⟨its, r', pl, hz⟩ := I.tuple hx
      have hlen := r'.length
      exact len_tuple pl (by simp only [List.size_toArray]; omega) ⟨.int xs.length, H, I.tok _, ⟨_, by simp only [List.size_toArray]; rw [hlen]⟩, q⟩
  | _ => exact (show False from e).elim
end
end L2

namespace L2
open PySem PySem.Spec PyProof.Rows

/-! ### an instance, its attributes a map -/
structure ObjM (h : Heap) (x dx C : Addr) (mA : Str → Option Value) : Prop where
  obj : h.get? x = some (PySem.W.instObj C dx)
  ns : h.Ns1 dx mA
  ne : dx ≠ x

theorem lookIn_ns {h : Heap} {dx : Addr} {mA : Str → Option Value} (n : h.Ns1 dx mA) : ∃ od, h.get? dx = some od ∧ ∀ name, PySem.W.lookIn name od = some (mA name) := by
  obtain ⟨o, es, ep, ho, hd, hk, _, hm⟩ := n
  refine ⟨o, ho, fun name => ?_⟩
  have e := hm name
  unfold nsFind findBy at e
  rw [← Array.find?_toList] at e
  unfold PySem.W.lookIn
  rw [hd]
  dsimp only
  split
  · rename_i y q
    rw [q] at e
    exact congrArg some e
  · rename_i q
    rw [q] at e
    have a : es.toList.any (·.refKey) = false := by
      rw [List.any_eq_false]
      intro y hy
      obtain ⟨z, t, hkey⟩ := hk y (Array.mem_toList_iff.mp hy)
      simp [DictEntry.refKey, hkey]
    have a' : ¬ es.toList.any (·.refKey) = true := by rw [a]; exact Bool.false_ne_true
    rw [if_neg a']
    exact congrArg some e

theorem ObjM.look {h : Heap} {x dx C : Addr} {mA : Str → Option Value} (I : ObjM h x dx C mA) : ∃ od, PySem.W.InstAt h x (PySem.W.instObj C dx) C (some od) ∧ ∀ name, PySem.W.lookIn name od = some (mA name) :=
  let ⟨od, ho, hl⟩ := lookIn_ns I.ns
  ⟨od, ⟨I.obj, rfl, rfl, ho⟩, hl⟩

section
variable {prog : Program} {w : World} {A : Around} {E : Value → Shared → Prop} {s : Shared} {K : PySem.W.Frag} {x dx C f : Addr} {mA : Str → Option Value} {name : Str} {v : Value}

end

/-! ### the attributes as a list of pairs -/
section
variable {P : Program} {w : World} {H H' : Hp} {h h' : Heap} {a C dx : Addr} {fs fs' : List (Str × V)}
theorem ins_get (hok : HOk P w H h) (e : H a = some (.ins C dx fs)) : ∃ mA, ObjM h a dx C mA ∧ (∀ f, RelO (fs.lookup f) (mA f)) ∧ PySem.Within mA (fs.map (·.1)) ∧ fs.length ≤ 1000 ∧ H dx = some (.own a) := by
  obtain ⟨d, z, ne, ob, mA, n, r, q⟩ := (show ObjOk P w H h a (.ins C dx fs) from hok a _ e)
  exact ⟨mA, ⟨ob, n, ne⟩, r, q, z, d⟩
end

/-! ### what of the text a class must have -/
structure Cls (K : PySem.W.Frag) (C : Addr) : Prop where
  pg : PySem.W.plainGet K C Str.empty = true
  hd : PySem.W.hasDictIn K C = true
  po : PySem.W.plainOver K C = true
  sa : PySem.W.findIn K (.ref C) "__setattr__" = some (some (.builtin "object.__setattr__"))
theorem Cls.get {K : PySem.W.Frag} {C : Addr} (c : Cls K C) (f : Str) : PySem.W.plainGet K C f = true := c.pg
/-- a constant of the class -/
structure Con (K : PySem.W.Frag) (C : Addr) (f : Str) (v : V) (u : Value) : Prop where
  at_ : PySem.W.findIn K (.ref C) f = some (some u)
  rel : RelV v u
  get : PySem.W.specialIn K u "__get__" = some none
  cp : PySem.W.copiedNames.contains f = false
/-- a method: a plain def of the class or of one above it -/
structure Meth (K : PySem.W.Frag) (C : Addr) (m : Str) (f : Addr) : Prop where
  at_ : PySem.W.findIn K (.ref C) m = some (some (.ref f))
  fn : PySem.W.isFn K (.ref f) = true
  kp : PySem.W.keepIn K (.ref f) = true

section
variable {X : Cx} {pins : List (Addr × Obj)} {σ : St} {H : Hp} {s : Shared} {a C dx : Addr} {fs : List (Str × V)} {f : Str} {v : V} {A : Around} {E : Value → Shared → Prop}

/-- a new instance, tracked, without attributes -/
theorem Inv.made (I : Inv X pins σ H s) : Inv X pins σ (upd (upd H s.heap.objs.size (.own (s.heap.objs.size + 1))) (s.heap.objs.size + 1) (.ins C s.heap.objs.size []))
    { s with heap := (s.heap.push PySem.W.emptyDict).push (PySem.W.instObj C s.heap.objs.size) } := by
  have e1 : (s.heap.push PySem.W.emptyDict).get? s.heap.objs.size = some PySem.W.emptyDict := Heap.get?_push_size s.heap rfl
  have e2 : ((s.heap.push PySem.W.emptyDict).push (PySem.W.instObj C s.heap.objs.size)).get? (s.heap.objs.size + 1) = some (PySem.W.instObj C s.heap.objs.size) := by
    have := Heap.get?_push_size (s.heap.push PySem.W.emptyDict) (o := PySem.W.instObj C s.heap.objs.size) rfl
    rwa [Heap.size_push] at this
  have e3 : (s.heap.push PySem.W.emptyDict).Ns s.heap.objs.size (fun _ => none) := ⟨PySem.W.emptyDict, #[], _, e1, rfl, (fun e he => absurd he (by simp)), fun _ => rfl⟩
  have I1 := I.laid (a := s.heap.objs.size) (o := .own (s.heap.objs.size + 1)) (h' := s.heap.push PySem.W.emptyDict) (t' := s.toks) (fun b u q => Heap.get?_push_of_some _ q) (Nat.le_refl _) ⟨_, e1⟩
  refine I1.laid (a := s.heap.objs.size + 1) (o := .ins C s.heap.objs.size []) (t' := s.toks) (fun b u q => Heap.get?_push_of_some _ q) (Nat.le_of_eq (Heap.size_push _ _)) ?_
  have ne : s.heap.objs.size ≠ s.heap.objs.size + 1 := Nat.ne_of_lt (Nat.lt_succ_self _)
  refine ⟨by rw [upd_ne ne, upd_same], Nat.zero_le _, ne, e2, fun _ => none, (Heap.Ns1.of_empty e3).at fun o q => Heap.get?_push_of_some _ q, fun _ => True.intro, fun y hy => absurd rfl hy⟩

end

/-! ### readings and rules -/
section
variable {X : Cx} {o e value : Expr} {f : Str} {pos pos' tpos : Pos} {ta tv : TE}
end

/-! ### isinstance -/
section
variable {X : Cx} {pins : List (Addr × Obj)} {σ : St} {H : Hp} {s : Shared} {A : Around} {E : Value → Shared → Prop} {Q : Value → Shared → Prop} {c : Value} {b : Bool}
/-- the type of a value, as the fragment's deciders take it; for an instance its class -/
inductive TyOf (K : PySem.W.Frag) (H : Hp) : V → Value → Prop where
  | non : TyOf K H .non (.type "NoneType")
  | bl (x : Bool) : TyOf K H (.bl x) (.type "bool")
  | int (i : Int) : TyOf K H (.int i) (.type "int")
  | str (x : Str) : TyOf K H (.str x) (.type "str")
  | flt (x : UInt64) : TyOf K H (.flt x) (.type "float")
  | lst {a : Addr} {xs : List V} (e : H a = some (.lst xs)) : TyOf K H (.ref a) (.type "list")
  | frz {a : Addr} {o : Obj} {xs : List V} (e : H a = some (.frz o (.lst xs))) : TyOf K H (.ref a) (.type "list")
  | tup {a : Addr} {xs : List V} (e : H a = some (.tup xs)) : TyOf K H (.ref a) (.type "tuple")
  | dK {a : Addr} {kvs : List (Key × V)} (e : H a = some (.dK kvs)) : TyOf K H (.ref a) (.type "dict")
  | dT {a : Addr} {kvs : List (List Key × V)} (e : H a = some (.dT kvs)) : TyOf K H (.ref a) (.type "dict")
  | ins {a C dx : Addr} {fs : List (Str × V)} (e : H a = some (.ins C dx fs)) (cl : Cls K C) (ha : PySem.W.findIn K (.ref C) "__class__" = some (some (.builtin "object.__class__")))
      (hn : PySem.W.specialIn K (.builtin "object.__class__") "__get__" = some (some (.builtin "getset_descriptor.__get__"))) (htk : PySem.W.takesIn K (.builtin "object.__class__") = some true)
      (hm : PySem.W.mroIn K C (.type "object") = some true) : TyOf K H (.ref a) (.ref C)
/-- isinstance(x, c) for one class c, a built-in or an own one: kitOne's answer -/
theorem isinst_ok {x : V} {u t : Value} (I : Inv X pins σ H s) (rx : RelV x u) (ty : TyOf X.K H x t) (e : PySem.W.kitOne X.K t c = some b) (h : ∀ tk, Q (.bool b) { s with toks := tk }) :
    wpAny (model X.prog X.w) A (call (.builtin "isinstance") [u, c]) Q E s := by
  cases ty with
  | non => cases (show u = Value.none from rx); exact PySem.W.kia_one PySem.W.kitx_none I.kIn True.intro e (fun z => nomatch z) h
  | bl y => cases (show u = Value.bool y from rx); exact PySem.W.kia_one PySem.W.kitx_bool I.kIn True.intro e (fun z => nomatch z) h
  | int i => obtain ⟨t, q⟩ := (show ∃ t, u = Value.int i t from rx); cases q; exact PySem.W.kia_one PySem.W.kitx_int I.kIn True.intro e (fun z => nomatch z) h
  | str y => obtain ⟨t, q⟩ := (show ∃ t, u = Value.str y t from rx); cases q; exact PySem.W.kia_one PySem.W.kitx_str I.kIn True.intro e (fun z => nomatch z) h
  | flt y => obtain ⟨t, q⟩ := (show ∃ t, u = Value.float y t from rx); cases q; exact PySem.W.kia_one PySem.W.kitx_float I.kIn True.intro e (fun z => nomatch z) h
  | @lst a xs ea =>
    cases (show u = Value.ref a from rx)
    obtain ⟨_, _, n, _, h1⟩ := (show ObjOk X.prog X.w H s.heap a (.lst xs) from I.hok a _ ea)
    exact PySem.W.kia_one PySem.W.kitx_list I.kIn ⟨_, h1, rfl⟩ e (fun z => nomatch z) h
  | @frz a ob xs ea =>
    cases (show u = Value.ref a from rx)
    obtain ⟨_, _, _, n, _, h1⟩ := (show ObjOk X.prog X.w H s.heap a (.frz ob (.lst xs)) from I.hok a _ ea)
    exact PySem.W.kia_one PySem.W.kitx_list I.kIn ⟨_, h1, rfl⟩ e (fun z => nomatch z) h
  | @tup a xs ea =>
    cases (show u = Value.ref a from rx)
    obtain ⟨_, _, _, p⟩ := (show ObjOk X.prog X.w H s.heap a (.tup xs) from I.hok a _ ea)
    obtain ⟨o, h1, h2, _⟩ := p
    exact PySem.W.kia_one PySem.W.kitx_tuple I.kIn ⟨o, h1, h2⟩ e (fun z => nomatch z) h
  | @dK a kvs ea =>
    cases (show u = Value.ref a from rx)
    obtain ⟨_, _, vs, _, p⟩ := (show ObjOk X.prog X.w H s.heap a (.dK kvs) from I.hok a _ ea)
    obtain ⟨o, es, ep, h1, h2, _⟩ := p
    exact PySem.W.kia_one PySem.W.kitx_dict I.kIn ⟨o, h1, h2.1⟩ e (fun z => nomatch z) h
  | @dT a kvs ea =>
    cases (show u = Value.ref a from rx)
    obtain ⟨_, _, xs, _, o, es, ep, h1, h2, _⟩ := (show ObjOk X.prog X.w H s.heap a (.dT kvs) from I.hok a _ ea)
    exact PySem.W.kia_one PySem.W.kitx_dict I.kIn ⟨o, h1, h2.1⟩ e (fun z => nomatch z) h
  | @ins a C dx fs ea cl ha hn htk hm =>
    cases (show u = Value.ref a from rx)
    obtain ⟨mA, O, _⟩ := ins_get I.hok ea
    obtain ⟨od, J, _⟩ := O.look
    exact PySem.W.kia_one (PySem.W.kitx_own (cl.get _) cl.hd ha hn htk hm) I.kIn J e (fun z => nomatch z) h
end
end L2

namespace L2
open PySem PySem.Spec PyProof.Rows

/-! ### room -/
structure Room (k : Nat) (A : Around) : Prop where
  hd : A.handled = none
  dp : A.depth + 3 * k + 5 < recursionLimit
  un : A.units + 16 * k + 200 < cLine
theorem Room.mono {j k : Nat} {A : Around} (r : Room k A) (h : j ≤ k) : Room j A := ⟨r.hd, by have := r.dp; omega, by have := r.un; omega⟩
theorem Room.deeper {k : Nat} {A : Around} (r : Room (k + 1) A) (env : Env) : Room k (A.deeper env) :=
  ⟨r.hd, by have := r.dp; show A.depth + 1 + 3 * k + 5 < _; omega, by have := r.un; show A.units + 3 + 16 * k + 200 < _; omega⟩
theorem Room.depth {k : Nat} {A : Around} (r : Room k A) : A.depth < recursionLimit := by have := r.dp; omega
theorem Room.units {k : Nat} {A : Around} (r : Room k A) : A.units + 64 < cLine := by have := r.un; omega
/-! ### argument lists and displays -/
def tNil : TA := fun _ H Q => Q [] H
def tCons (ta : TE) (tr : TA) : TA := fun σ H Q => ta σ H fun x H1 => tr σ H1 fun xs H2 => Q (x :: xs) H2
section
variable {X : Cx} {e : Expr} {es : List Expr} {te : TE} {t : TA} {pos : Pos}
theorem pa_nil : PA X [] tNil := fun _ _ _ _ H Q I h => Calls.spliced_nil ⟨[], H, I, .nil, h⟩
theorem pa_cons (ha : PE X e te) (hr : PA X es t) (hs : starEach (e :: es) X.env = (false, eval e X.env) :: starEach es X.env := by rfl) : PA X (e :: es) (tCons te t) := by
  intro pos pins s σ H Q I h
  rw [hs]
  show wpAny _ _ (spliced ((false, eval e X.env) :: backTo pos (starEach es X.env))) _ _ s
  refine Calls.spliced_cons (thn (ha pins s σ H _ I h) fun u s1 ⟨x, H1, I1, r1, q1⟩ => ?_)
  exact thn (hr pos pins s1 σ H1 _ I1 q1) fun us s2 ⟨xs, H2, I2, r2, q2⟩ => ⟨x :: xs, H2, I2, .cons r1 r2, q2⟩

/-- a tuple, a list of written items -/
def tTup (t : TA) : TE := fun σ H Q => t σ H fun xs H1 => xs.length ≤ sizeLine ∧ ∀ p, H1 p = none → Q (.ref p) (upd H1 p (.tup xs))
def tLst (t : TA) : TE := fun σ H Q => t σ H fun xs H1 => xs.length ≤ sizeLine ∧ ∀ p, H1 p = none → Q (.ref p) (upd H1 p (.lst xs))
theorem pe_tup {x1} (h : PA X es t) : PE X (.Tuple es x1 pos) (tTup t) := by
  intro pins s σ H Q I hq
  refine wpAny_Tuple_spliced (thn (h pos pins s σ H _ I hq) fun us s1 ⟨xs, H1, I1, r, z, q⟩ => ⟨by rw [← r.length]; exact z, ?_⟩)
  have hf : H1 s1.heap.objs.size = none := I1.hok.fresh (Nat.le_refl _)
  refine ⟨.ref s1.heap.objs.size, upd H1 s1.heap.objs.size (.tup xs), I1.laid (t' := s1.toks) (fun b u e => Heap.get?_push_of_some _ e) (Nat.le_refl _) ?_, rfl, q _ hf⟩
  exact ⟨z, us, r, ⟨_, Heap.get?_push_size _ rfl, rfl, _, rfl⟩⟩
theorem pe_lst (h : PA X es t) : PE X (.List es pos) (tLst t) := by
  intro pins s σ H Q I hq
  refine wpAny_List_spliced (thn (h pos pins s σ H _ I hq) fun us s1 ⟨xs, H1, I1, r, z, q⟩ => ⟨by rw [← r.length]; exact z, ?_⟩)
  have hf : H1 s1.heap.objs.size = none := I1.hok.fresh (Nat.le_refl _)
  refine ⟨.ref s1.heap.objs.size, upd H1 s1.heap.objs.size (.lst xs), I1.laid (t' := s1.toks) (fun b u e => Heap.get?_push_of_some _ e) (Nat.le_refl _) ?_, rfl, q _ hf⟩
  exact ⟨z, us, 0, r, Heap.get?_push_size _ rfl⟩
end

/-! ### what a def promises -/
/-- a def's promise: the bound arguments in the parameters' order, the heap, the wanted end, the wanted exception -/
abbrev Sp := List V → Hp → VK → XK → Prop
/-- how an exception lies behind a call (file 08 gives it): the callers' frames, abstract heap and state ahead of the call, the wish, the exception, the state -/
abbrev CXT := List Env → Hp → Shared → XK → Value → Shared → Prop

/-- the state at a call -/
structure Env0 (P : Program) (w : World) (K : PySem.W.Frag) (mg : Str → Option Value) (base : Heap) (A : Around) (outer : List Env) (s : Shared) (H : Hp) : Prop where
  frames : A.frames = some outer
  mod : Mod K mg base
  bs : ∀ b o, base.get? b = some o → s.heap.get? b = some o ∧ H b = none
  bsz : base.objs.size ≤ s.heap.objs.size
  funs : s.heap.FunFrames base outer
  frf : ∀ b ∈ frs outer, H b = none
  hok : HOk P w H s.heap
  bare : AllBare s.gens
/-- a call's end -/
def CE (outer : List Env) (P : Program) (w : World) (H : Hp) (s : Shared) (Q : VK) (u : Value) (s' : Shared) : Prop :=
  ∃ v H', s'.os = s.os ∧ AllBare s'.gens ∧ Un (frs outer) [] H H' s.heap s'.heap ∧ HOk P w H' s'.heap ∧ RelV v u ∧ Q v H'
def CR (CX : CXT) (outer : List Env) (P : Program) (w : World) (H : Hp) (s : Shared) (Q : VK) (E : XK) (r : Result) (s' : Shared) : Prop :=
  match r with
  | .ok (.ret u) => CE outer P w H s Q u s'
  | .ok _ => False
  | .error e => CX outer H s E e s'
structure FnOk (P : Program) (w : World) (K : PySem.W.Frag) (mg : Str → Option Value) (base : Heap) (CX : CXT) (k : Nat) (f : Addr) (fd : FuncData) (ps : List Str) (sp : Sp) : Prop where
  len : ∀ vs H Q E, sp vs H Q E → vs.length = ps.length
  run : ∀ (A : Around) (outer : List Env) (s : Shared) (H : Hp) (args : Args) (us : List Value) (vs : List V) (Q : VK) (E : XK), Room k A → Env0 P w K mg base A outer s H → BindsTo s fd args (ps.zip us) → Vals vs us → sp vs H Q E →
    codeAny (model P w) A (.call (.ref f) args) (CR CX outer P w H s Q E) s
theorem FnOk.mono {P : Program} {w : World} {K : PySem.W.Frag} {mg : Str → Option Value} {base : Heap} {CX : CXT} {j k : Nat} {f : Addr} {fd : FuncData} {ps : List Str} {sp : Sp} (F : FnOk P w K mg base CX j f fd ps sp) (h : j ≤ k) :
    FnOk P w K mg base CX k f fd ps sp := ⟨F.len, fun A outer s H args us vs Q E hr => F.run A outer s H args us vs Q E (hr.mono h)⟩
section
variable {X : Cx} {pins : List (Addr × Obj)} {σ : St} {H : Hp} {s s' : Shared}
/-- from a body: what a callee wants -/
theorem Inv.env0 (I : Inv X pins σ H s) : Env0 X.prog X.w X.K X.mg X.base X.A X.stack s H :=
  ⟨I.ok.frames, I.ok.mod, I.bs, Nat.le_trans I.ok.bsz I.sz, I.stack, I.stkFree, I.hok, I.bare⟩
/-- behind a call -/
theorem Inv.after {Q : VK} {u : Value} (I : Inv X pins σ H s) (h : CE X.stack X.prog X.w H s Q u s') : EP X pins σ Q u s' := by
  obtain ⟨v, H', os, bare, un, hok, r, q⟩ := h
  obtain ⟨hh, g, d, t, os'⟩ := s'
  obtain rfl : os' = s.os := os
  exact ⟨v, H', I.call (h' := hh) (g' := g) (d' := d) (t' := t) (ch := []) un hok bare (fun b z => absurd z (by simp)), r, q⟩
end

/-! ### calls -/
/-- f(..): the written arguments, then the defaults dvs; E: what is wanted of an exception -/
def tCall (sp : Sp) (dvs : List V) (E : XK) (t : TA) : TE := fun σ H Q => t σ H fun vs H1 => sp (vs ++ dvs) H1 Q E
/-- how the parameters are bound: us the positional arguments, kw the keywords' values by name, ds the defaults that fill up -/
def Binds (K : PySem.W.Frag) (fd : FuncData) (ps : List Str) (ds : List Value) : Prop :=
  ∀ (s : Shared) (us : List Value), K.In s.heap → (us ++ ds).length = ps.length → BindsTo s fd ⟨us, []⟩ (ps.zip (us ++ ds))
/-- every parameter is given -/
theorem Binds.all {K : PySem.W.Frag} {fd : FuncData} {ps : List Str} (h : ∀ us : List Value, us.length = ps.length → bindArgs fd ⟨us, []⟩ = pure (ps.zip us)) : Binds K fd ps [] := fun s us _ hl => by
  rw [List.append_nil] at hl ⊢
  exact .of_eq (h us hl)

/-- an exception of a callee reaches what this body wants of exceptions -/
def Passes (CX : CXT) (X : Cx) (E : XK) : Prop := ∀ (pins : List (Addr × Obj)) (σ : St) (H : Hp) (s : Shared) (e : Value) (s' : Shared), Inv X pins σ H s → CX X.stack H s E e s' → X.xe e s'

section
variable {X : Cx} {CX : CXT} {k : Nat} {f C : Addr} {fd : FuncData} {ps : List Str} {sp : Sp} {dvs : List V} {ds : List Value} {E : XK} {x m : Str} {p pos apos : Pos} {e o : Expr} {es : List Expr} {ta : TE} {t : TA}

/-- the callee runs -/
theorem run_fn {pins : List (Addr × Obj)} {σ : St} {H : Hp} {s : Shared} {Q : VK} {us : List Value} {vs : List V} (F : FnOk X.prog X.w X.K X.mg X.base CX k f fd ps sp) (hr : Room k X.A) (hb : Binds X.K fd ps ds) (hd : Vals dvs ds) (hx : Passes CX X E)
    (I : Inv X pins σ H s) (r : Vals vs us) (h : sp (vs ++ dvs) H Q E) : wpAny (model X.prog X.w) X.A (call (.ref f) us) (EP X pins σ Q) X.xe s := by
  have r2 : Vals (vs ++ dvs) (us ++ ds) := r.append hd
  have hl : (us ++ ds).length = ps.length := by rw [← r2.length]; exact F.len _ _ _ _ h
  refine wpAny_call (codeAny_mono (F.run X.A X.stack s H ⟨us, []⟩ (us ++ ds) (vs ++ dvs) Q E hr I.env0 (hb s us I.kIn hl) r2 h) fun r s' hq => ?_)
  cases r with
  | error e => exact hx pins σ H s e s' I hq
  | ok fl =>
    cases fl with
    | ret u => exact I.after hq
    | next => exact False.elim hq
    | brk => exact False.elim hq
    | cont => exact False.elim hq

theorem pe_call (F : FnOk X.prog X.w X.K X.mg X.base CX k f fd ps sp) (hr : Room k X.A) (hg : Gl X x) (hm : X.mg x = some (.ref f)) (hk : PySem.W.keepIn X.K (.ref f) = true) (hb : Binds X.K fd ps ds) (hd : Vals dvs ds) (hx : Passes CX X E)
    (ha : PA X (e :: es) t) (hdb : (x == ("__debug__" : Str)) = false := by decide) (he : starEach (e :: es) X.env = (false, eval e X.env) :: starEach es X.env := by rfl) (hpl : (backTo pos (starEach es X.env)).any (·.1) = false := by rfl) :
    PE X (.Call (.Name x p) (e :: es) [] pos) (tCall sp dvs E t) := by
  intro pins s σ H Q I h
  refine wpAny_Call_Name_kw (ld_glob I hg hm ?_ hdb)
  refine PySem.W.callWith_K (h₀ := X.base) I.ok.mod.kin hk (thn (ha pos pins s σ H _ I h) fun us s1 ⟨vs, H1, I1, r, q⟩ => ⟨I1.kIn, ?_⟩) he hpl
  exact run_fn F hr hb hd hx I1 r q
/-- what a class must have to be made -/
structure Mk (K : PySem.W.Frag) (C f : Addr) : Prop where
  makes : PySem.W.makesIn K C = true
  init : PySem.W.findIn K (.ref C) "__init__" = some (some (.ref f))
  fn : PySem.W.isFn K (.ref f) = true
  kp : PySem.W.keepIn K (.ref C) = true

end

/-! ### keywords -/
section
variable {X : Cx} {CX : CXT} {k : Nat} {f C : Addr} {fd : FuncData} {ps ks : List Str} {sp : Sp} {E : XK} {x m : Str} {p pos apos kpos : Pos} {e o : Expr} {es : List Expr} {kws : List Keyword} {te ta : TE} {t tk : TA} {nm : Option Str}
/-- how a call with keywords binds: g puts the positional values us and the keywords' values ws (names ks) in the parameters' order, defaults among them -/
structure KBinds (K : PySem.W.Frag) (fd : FuncData) (ps ks : List Str) (g : List Value → List Value → List Value) (gV : List V → List V → List V) : Prop where
  to : ∀ (s : Shared) (us ws : List Value), K.In s.heap → (g us ws).length = ps.length → BindsTo s fd ⟨us, ks.zip ws⟩ (ps.zip (g us ws))
  rel : ∀ {vs : List V} {us : List Value} {zs : List V} {ws : List Value}, Vals vs us → Vals zs ws → Vals (gV vs zs) (g us ws)
variable {g : List Value → List Value → List Value} {gV : List V → List V → List V}
end

/-! ### a def's body keeps its promise -/
/-- names: the parameters first -/
structure FnScope (N P : List Str) (sc : Scope) : Prop where
  kind : sc.kind = .function
  co : sc.isCoroutine = false
  gen : sc.isGenerator = false
  nd : N.Nodup
  pre : N.take P.length = P
  par : ∀ x ∈ P, sc.names.lookup x = some .local ∨ sc.names.lookup x = some .cell
  nofree : ∀ y ∈ sc.names, y.2 ≠ .free

theorem bindL_out {kindOf : Str → Option NameKind} {x : Str} : ∀ {binds : List (Str × Value)} {m : Str → Option Value}, (∀ v, (x, v) ∉ binds) → bindL kindOf binds m x = m x
  | [], _, _ => rfl
  | (n, v) :: r, m, h => by
    unfold bindL
    rw [bindL_out fun w hw => h w (List.mem_cons_of_mem _ hw)]
    split
    · have : x ≠ n := by rintro rfl; exact h v List.mem_cons_self
      simp [this]
    · rfl
theorem bindC_out {kindOf : Str → Option NameKind} {x : Str} : ∀ {binds : List (Str × Value)} {m : Str → Option Value}, (∀ v, (x, v) ∉ binds) → bindC kindOf binds m x = m x
  | [], _, _ => rfl
  | (n, v) :: r, m, h => by
    unfold bindC
    rw [bindC_out fun w hw => h w (List.mem_cons_of_mem _ hw)]
    split
    · rfl
    · have : x ≠ n := by rintro rfl; exact h v List.mem_cons_self
      simp [this]
theorem bindL_get {kindOf : Str → Option NameKind} {x : Str} {v : Value} : ∀ {P : List Str} {vs : List Value} {i : Nat} {m : Str → Option Value}, P.Nodup → P[i]? = some x → vs[i]? = some v → kindOf x = some .local →
    bindL kindOf (P.zip vs) m x = some v
  | [], _, _, _, _, h, _, _ => by simp at h
  | _ :: _, [], _, _, _, _, h, _ => by simp at h
  | p :: P, w :: vs, 0, m, nd, h1, h2, hk => by
    simp at h1 h2; subst h1; subst h2
    show bindL kindOf ((p, w) :: P.zip vs) m p = _
    unfold bindL
    rw [bindL_out fun v hv => (List.nodup_cons.mp nd).1 (List.of_mem_zip hv).1, if_pos hk]
    simp
  | p :: P, w :: vs, i + 1, m, nd, h1, h2, hk => by
    show bindL kindOf ((p, w) :: P.zip vs) m x = _
    unfold bindL
    exact bindL_get (i := i) (List.nodup_cons.mp nd).2 (by simpa using h1) (by simpa using h2) hk
theorem bindC_get {kindOf : Str → Option NameKind} {x : Str} {v : Value} : ∀ {P : List Str} {vs : List Value} {i : Nat} {m : Str → Option Value}, P.Nodup → P[i]? = some x → vs[i]? = some v → kindOf x ≠ some .local →
    bindC kindOf (P.zip vs) m x = some v
  | [], _, _, _, _, h, _, _ => by simp at h
  | _ :: _, [], _, _, _, _, h, _ => by simp at h
  | p :: P, w :: vs, 0, m, nd, h1, h2, hk => by
    simp at h1 h2; subst h1; subst h2
    show bindC kindOf ((p, w) :: P.zip vs) m p = _
    unfold bindC
    rw [bindC_out fun v hv => (List.nodup_cons.mp nd).1 (List.of_mem_zip hv).1, if_neg hk]
    simp
  | p :: P, w :: vs, i + 1, m, nd, h1, h2, hk => by
    show bindC kindOf ((p, w) :: P.zip vs) m x = _
    unfold bindC
    exact bindC_get (i := i) (List.nodup_cons.mp nd).2 (by simpa using h1) (by simpa using h2) hk

/-- the names' values at the entry -/
def start (N : List Str) (vs : List V) : St := vs.map some ++ List.replicate (N.length - vs.length) none

/-- the context of a def's body, at its entry; an exception leaves the frame, then lies as CX says -/
def cxOf (CX : CXT) (P : Program) (w : World) (K : PySem.W.Frag) (mg : Str → Option Value) (base : Heap) (N : List Str) (qual : Str) (scope : Scope) (f : Addr) (cd : Value) (A : Around) (outer : List Env) (s : Shared) (H : Hp) (E : XK) : Cx where
  prog := P
  w := w
  K := K
  mg := mg
  base := base
  A := A.deeper (envOfC qual scope s.heap.objs.size f cd)
  N := N
  s₀ := s
  H₀ := H
  env := envOfC qual scope s.heap.objs.size f cd
  outer := outer
  stack := envOfC qual scope s.heap.objs.size f cd :: outer
  ex := []
  calm := true
  fn := fun _ => true
  pn := []
  xe := fun e s' => wpAny (model P w) (A.deeper (envOfC qual scope s.heap.objs.size f cd)) (leaving (envOfC qual scope s.heap.objs.size f cd) e) (fun _ s'' => CX outer H s E e s'') (fun e' s'' => CX outer H s E e' s'') s'

theorem cell_has {sc : Scope} {n : Nat} {x : Str} (h : sc.names.lookup x = some .cell) : ∃ c, (cellsFrom n sc.names []).lookup x = some c := by
  have q := PySem.W.cellsFrom_some sc.names n [] (.inl h)
  exact Option.isSome_iff_exists.mp q

theorem inv_start {CX : CXT} {P : Program} {w : World} {K : PySem.W.Frag} {mg : Str → Option Value} {base : Heap} {N ps : List Str} {qual : Str} {scope : Scope} {f : Addr} {cd : Value} {A : Around} {outer : List Env} {s s1 : Shared} {H : Hp} {E : XK} {us : List Value} {vs : List V}
    (S : FnScope N ps scope) (hd : A.handled = none) (e0 : Env0 P w K mg base A outer s H) (hl : vs.length = ps.length) (r : Vals vs us)
    (x : InCallC s s.heap.objs.size (bindL (envOfC qual scope s.heap.objs.size f cd).kindOf (ps.zip us) fun _ => none) (cellsFrom (s.heap.objs.size + 1) scope.names []) (bindC (envOfC qual scope s.heap.objs.size f cd).kindOf (ps.zip us) fun _ => none) s1) :
    Inv (cxOf CX P w K mg base N qual scope f cd A outer s H E) [] (start N vs) H s1 := by
  have hpl : ps.length ≤ N.length := by have := congrArg List.length S.pre; rw [List.length_take] at this; omega
  obtain ⟨h1, tk, rfl, hk⟩ := x.done
  have noA : ∀ b : Addr, b ∉ (cxOf CX P w K mg base N qual scope f cd A outer s H E).ex := fun b z => absurd (show b ∈ ([] : List Addr) from z) (by simp)
  refine ⟨⟨e0.mod, S.kind, rfl, rfl, Nat.le_refl _, fun y z c h1 h2 => ?_, fun y hy => ?_, fun y c _ h => ?_, fun _ => hd, Around.frames_deeper e0.frames, .inr ⟨rfl, rfl⟩, fun b z => absurd z (noA b), e0.bs, e0.bsz, fun b _ _ => noA b, fun b z => absurd z (noA b), e0.funs, e0.frf⟩,
    rfl, e0.bare, Un.kept hk, ⟨_, x.toInCall.ns, fun i y v h1 h2 h3 => ?_⟩, fun y c h => ⟨_, x.cell y c h⟩, e0.hok.fresh (Nat.le_refl _), fun y c h => ?_, fun p hp => absurd (show p ∈ ([] : List (Addr × Obj)) from hp) (by simp), e0.hok.kept hk, ?_⟩
  · exact name_of_addr x.apart (PySem.mem_of_lookup h1) (PySem.mem_of_lookup h2)
  · have hy : scope.names.lookup y = some .cell ∨ scope.names.lookup y = some .free := hy
    rcases hy with hy | hy
    · exact cell_has hy
    · exact absurd rfl (S.nofree _ (PySem.mem_of_lookup hy))
  · exact Nat.le_of_lt (x.above y c (PySem.mem_of_lookup h))
  · have hi : i < vs.length := by
      unfold start at h2
      by_cases hi : i < vs.length
      · exact hi
      · rw [List.getElem?_append_right (by simpa using hi)] at h2
        rw [List.getElem?_replicate] at h2
        split at h2 <;> cases h2
    have ha : vs[i]? = some v := by
      unfold start at h2
      rw [List.getElem?_append_left (by simpa using hi), List.getElem?_map] at h2
      cases e : vs[i]? with
      | none => rw [e] at h2; cases h2
      | some a => rw [e] at h2; cases h2; rfl
    obtain ⟨u, hu, rv⟩ := r.get ha
    have hp : ps[i]? = some y := by
      rw [← S.pre, List.getElem?_take_of_lt (by omega)]; exact h1
    have ndP : ps.Nodup := by rw [← S.pre]; exact S.nd.sublist (List.take_sublist _ _)
    refine ⟨u, rv, ?_⟩
    rcases S.par y (List.mem_of_getElem? hp) with k | k
    · exact .inl ⟨k, bindL_get ndP hp hu k⟩
    · obtain ⟨c, e⟩ := cell_has (n := s.heap.objs.size + 1) k
      refine .inr ⟨.inl k, c, e, ?_⟩
      have q := x.cell y c e
      rw [bindC_get ndP hp hu (by show scope.names.lookup y ≠ _; rw [k]; decide)] at q
      exact q
  · exact e0.hok.fresh (Nat.le_of_lt (x.above y c (PySem.mem_of_lookup h)))
  · unfold start
    show _ = N.length
    rw [List.length_append, List.length_map, List.length_replicate]
    omega

/-- THE RULE: a def (or a method) of the text, by its body. The body's reading t is chosen for each entry; it is run at the parameters' values -/
theorem fn_of {CX : CXT} {P : Program} {w : World} {K : PySem.W.Frag} {mg : Str → Option Value} {base : Heap} {k : Nat} {f : Addr} {name qual : Str} {params : Arguments} {body : List Stmt} {scope : Scope} {dV kV doc pm cdv ct oc : Value} {an od : Option Addr}
    {osl : Array (Option Value)} {N ps : List Str} {sp : Sp} (lk : K.lookup f = some ⟨oc, od, .func (PySem.W.fnOf name qual params body scope dV kV doc pm an cdv ct), osl⟩) (hcd : PySem.W.codeIn K cdv qual = true) (S : FnScope N ps scope)
    (len : ∀ vs H Q E, sp vs H Q E → vs.length = ps.length)
    (hbody : ∀ (A : Around) (outer : List Env) (s : Shared) (H : Hp) (vs : List V) (Q : VK) (E : XK), Room k (A.deeper (envOfC qual scope s.heap.objs.size f cdv)) → sp vs H Q E →
      ∃ t, PSs (cxOf CX P w K mg base N qual scope f cdv A outer s H E) body t ∧ t { nx := fun _ H' => Q .non H', rt := Q } (start N vs) H) :
    FnOk P w K mg base CX (k + 1) f (PySem.W.fnOf name qual params body scope dV kV doc pm an cdv ct) ps sp := by
  refine ⟨len, fun A outer s H args us vs Q E hr e0 hb r hsp => ?_⟩
  have hl := len _ _ _ _ hsp
  have KX : K.In s.heap := e0.mod.kin.keeps fun b o e => (e0.bs b o e).1
  have lim : s.heap.NoLimit := e0.mod.nolimit.keeps fun b o e => (e0.bs b o e).1
  have hkind : ∀ y ∈ ps.zip us, scope.names.lookup y.1 = some .local ∨ (scope.names.lookup y.1 = some .cell ∧ ((cellsFrom (s.heap.objs.size + 1) scope.names []).lookup y.1).isSome = true) := fun ⟨n, v⟩ hy => by
    rcases S.par n (List.of_mem_zip hy).1 with q | q
    · exact .inl q
    · exact .inr ⟨q, PySem.W.cellsFrom_some _ _ _ (.inl q)⟩
  refine codeAny_call_function hr.depth (KX _ _ lk) rfl S.co S.gen rfl (PySem.W.codeRec_of KX hcd) (hb _ _ _ _ ?_)
  refine wpAny_newFunctionEnv_cells S.kind hkind fun env he s1 x => ?_
  subst he
  refine ⟨lim.keeps x.toInCall.keep, codeAny_func ?_⟩
  obtain ⟨t, ht, hq⟩ := hbody A outer s H vs Q E (hr.deeper _) hsp
  have I : Inv (cxOf CX P w K mg base N qual scope f cdv A outer s H E) [] (start N vs) H s1 := inv_start S hr.hd e0 hl r x
  refine wpAny_mono (ht [] s1 (start N vs) H _ I hq) (fun fl s' hs => ?_) fun e s' hs => hs
  have fin : ∀ {σ' : St} {H' : Hp} {v : V} {u : Value}, Inv (cxOf CX P w K mg base N qual scope f cdv A outer s H E) [] σ' H' s' → RelV v u → Q v H' → CE outer P w H s Q u s' :=
    fun {σ' H' v u} J rv q => ⟨v, H', J.os, J.bare, J.base, J.hok, rv, q⟩
  cases fl with
  | ret u =>
    obtain ⟨v, σ', H', J, rv, q⟩ := hs
    exact fin J rv q
  | next =>
    obtain ⟨σ', H', J, q⟩ := hs
    exact fin (v := V.non) (u := Value.none) J rfl q
  | brk =>
    obtain ⟨_, _, _, q⟩ := hs
    exact False.elim q
  | cont =>
    obtain ⟨_, _, _, q⟩ := hs
    exact False.elim q
end L2

namespace L2
open PySem PySem.Spec PyProof.Rows
section
variable {X : Cx} {x : Str} {p pos : Pos} {e : Expr} {es : List Expr} {t : TA} {id T : String} {r : List V → Hp → VK → Prop}

def tCB (r : List V → Hp → VK → Prop) (t : TA) : TE := fun σ H Q => t σ H fun vs H1 => r vs H1 Q
/-- f(e, ..), f a built-in function -/
theorem pe_callB (hc : CallR X (.builtin id) r) (hg : Gl X x) (hm : X.mg x = none) (hv : bootBuiltins x = some (.builtin id)) (ha : PA X (e :: es) t) (hn : x ≠ "__name__" := by decide) (hdb : (x == ("__debug__" : Str)) = false := by decide)
    (he : starEach (e :: es) X.env = (false, eval e X.env) :: starEach es X.env := by rfl) (hpl : (backTo pos (starEach es X.env)).any (·.1) = false := by rfl) : PE X (.Call (.Name x p) (e :: es) [] pos) (tCB r t) := by
  intro pins s σ H Q I h
  refine wpAny_Call_Name_kw (ld_blt I hg hm hv ?_ hn hdb)
  exact PyProof.Rows.callWith_builtin1 (thn (ha pos pins s σ H _ I h) fun us s1 ⟨vs, H1, I1, r1, q1⟩ => hc pins s1 σ H1 vs us Q I1 r1 q1) he hpl
/-- T(e, ..), T a built-in type -/
theorem pe_callTy (hc : CallR X (.type T) r) (hg : Gl X x) (hm : X.mg x = none) (hv : bootBuiltins x = some (.type T)) (ha : PA X (e :: es) t) (hn : x ≠ "__name__" := by decide) (hdb : (x == ("__debug__" : Str)) = false := by decide)
    (he : starEach (e :: es) X.env = (false, eval e X.env) :: starEach es X.env := by rfl) (hpl : (backTo pos (starEach es X.env)).any (·.1) = false := by rfl) : PE X (.Call (.Name x p) (e :: es) [] pos) (tCB r t) := by
  intro pins s σ H Q I h
  refine wpAny_Call_Name_kw (ld_blt I hg hm hv ?_ hn hdb)
  exact PyProof.Rows.callWith_type1 (thn (ha pos pins s σ H _ I h) fun us s1 ⟨vs, H1, I1, r1, q1⟩ => hc pins s1 σ H1 vs us Q I1 r1 q1) he hpl
end
end L2

namespace HT
open PySem PyProof.Rows

section
open PySem.SeqAt
open PySem.AutoSeq1 (wpAny_loadPart')
open PySem.MeetsSeq PySem.MeetsSeq2 PySem.MeetsSeq3

end

section
variable {prog : Program} {w : World} {A : Around} {E : Value → Shared → Prop} {s : Shared}

/-! ### t[a:b], not the whole -/
/-- a slice's bound as a place among n (d where it is left out) -/
def sIx (n d : Nat) : Option Int → Nat
  | none => d
  | some v => if v < 0 then (v + (n : Int)).toNat else min v.toNat n
end
end HT

namespace L2
open PySem PySem.Spec PyProof.Rows

/-! ### the parts of a slice -/
abbrev TO := St → Hp → (Option Int → Hp → Prop) → Prop
/-- a slice's part (left out, or an int) -/
def PO (X : Cx) (e : Option Expr) (t : TO) : Prop :=
  ∀ (pins : List (Addr × Obj)) (s : Shared) (σ : St) (H : Hp) (Q : Option Int → Hp → Prop), Inv X pins σ H s → t σ H Q →
    wpAny (model X.prog X.w) X.A (evalPart e X.env) (fun u s' => ∃ o H', Inv X pins σ H' s' ∧ IsPart u o ∧ Q o H') X.xe s
def tNoPart : TO := fun _ H Q => Q none H
def tPart (t : TE) : TO := fun σ H Q => t σ H fun x H1 => ∃ i, x = .int i ∧ Q (some i) H1

theorem intsAre_of {ns : List Int} : ∀ {us : List Value}, Vals (ns.map V.int) us → IntsAre us ns := by
  induction ns with
  | nil => intro us r; rw [List.map_nil] at r; cases r; exact .nil
  | cons n ns ih =>
    intro us r
    rw [List.map_cons] at r
    cases r with
    | cons r1 r2 =>
      obtain ⟨t, e⟩ := r1
      subst e
      exact .cons n t (ih r2)

section
variable {X : Cx} {e : Expr} {te : TE} {lo hi : Option Expr} {tl th : TO} {pos p2 : Pos}

theorem po_some (h : PE X e te) : PO X (some e) (tPart te) := by
  intro pins s σ H Q I hw
  rw [evalPart_some]
  refine thn (h pins s σ H _ I hw) fun u s1 ⟨x, H1, I1, r1, q1⟩ => ?_
  obtain ⟨i, rfl, q⟩ := q1
  obtain ⟨t, rfl⟩ := r1
  exact ⟨some i, H1, I1, .int i t, q⟩

/-- what a slice of a value is, by values: the slice object stands at sl -/
def SlR (X : Cx) (r : V → Option Int → Option Int → Hp → VK → Prop) : Prop :=
  ∀ (pins : List (Addr × Obj)) (s : Shared) (σ : St) (H : Hp) (x : V) (v vl vu : Value) (lo hi : Option Int) (sl : Addr) (Q : VK), Inv X pins σ H s → RelV x v → s.heap.IsSliceOf sl vl vu .none → IsPart vl lo → IsPart vu hi → r x lo hi H Q →
    ∃ T id, typeLookup (.type T) "__getitem__" = pure (some (.builtin id)) ∧ s.TypeIs v T ∧ wpAny (model X.prog X.w) X.A (getItem v (.ref sl)) (EP X pins σ Q) X.xe s
theorem SlR.or {r r' : V → Option Int → Option Int → Hp → VK → Prop} (h : SlR X r) (h' : SlR X r') : SlR X (fun x lo hi H Q => r x lo hi H Q ∨ r' x lo hi H Q) := by
  intro pins s σ H x v vl vu lo hi sl Q I rx hs pl pu q
  rcases q with q | q
  · exact h pins s σ H x v vl vu lo hi sl Q I rx hs pl pu q
  · exact h' pins s σ H x v vl vu lo hi sl Q I rx hs pl pu q
def tSl (r : V → Option Int → Option Int → Hp → VK → Prop) (te : TE) (tl th : TO) : TE := fun σ H Q => te σ H fun x H1 => tl σ H1 fun l H2 => th σ H2 fun u H3 => r x l u H3 Q
/-- a[lo:hi], any a -/
theorem pe_slice {r : V → Option Int → Option Int → Hp → VK → Prop} (hr : SlR X r) (he : PE X e te) (hl : PO X lo tl) (hu : PO X hi th) : PE X (.Subscript e (.Slice lo hi none p2) pos) (tSl r te tl th) := by
  intro pins s σ H Q I h
  refine Subscript_ (thn (he pins s σ H _ I h) fun v s1 ⟨x, H1, I1, r1, q1⟩ => ?_)
  refine wpAny_Slice (thn (hl pins s1 σ H1 _ I1 q1) fun vl s2 ⟨l, H2, I2, pl, q2⟩ => thn (hu pins s2 σ H2 _ I2 q2) fun vu s3 ⟨u, H3, I3, pu, q3⟩ => ?_)
  rw [evalPart_none]
  refine wpAny_pure ?_
  have I4 : Inv X pins σ H3 { s3 with heap := s3.heap.push { cls := .type "slice", data := .fields #[vl, vu, .none] } } := I3.kept (t' := s3.toks) fun b ob q => Heap.get?_push_of_some _ q
  obtain ⟨T, id, hT, ht, hg⟩ := hr pins { s3 with heap := s3.heap.push { cls := .type "slice", data := .fields #[vl, vu, .none] } } σ H3 x v vl vu l u s3.heap.objs.size Q I4 r1 (Heap.IsSliceOf.new ..) pl pu q3
  show wpAny (model X.prog X.w) X.A (subscriptTail e (.Slice lo hi none p2) v (.ref s3.heap.objs.size)) (EP X pins σ Q) X.xe { s3 with heap := s3.heap.push { cls := .type "slice", data := .fields #[vl, vu, .none] } }
  exact tail_any (ops := [.ref s3.heap.objs.size, v]) ht hT hg (by with_unfolding_all rfl)

/-- the items of xs[lo:hi] -/
def cutV (xs : List V) (lo hi : Option Int) : List V := (xs.drop (HT.sIx xs.length 0 lo)).take (HT.sIx xs.length xs.length hi - HT.sIx xs.length 0 lo)
theorem cutV_length (xs : List V) (lo hi : Option Int) : (cutV xs lo hi).length ≤ xs.length := by
  unfold cutV
  rw [List.length_take, List.length_drop]
  omega
/-! ### t < u, t + u -/
end
end L2

namespace L2
open PySem PySem.Spec PyProof.Rows

/-! ### places -/
/-- the place that an index of any sign means -/
def ixN (n : Nat) (i : Int) : Option Nat := if 0 ≤ i then (if i < n then some i.toNat else none) else if -(n : Int) ≤ i then some (i + n).toNat else none
def atI {α : Type} (xs : List α) (i : Int) : Option α := (ixN xs.length i).bind fun j => xs[j]?
theorem ixN_seq {n : Nat} {i : Int} {j : Nat} (h : ixN n i = some j) : seqIndex? i n = some j ∧ j < n ∧ -(n : Int) ≤ i ∧ i < n := by
  unfold ixN at h
  by_cases h0 : 0 ≤ i
  · rw [if_pos h0] at h
    by_cases h1 : i < n
    · rw [if_pos h1] at h
      have e : i.toNat = j := Option.some.inj h
      exact ⟨by rw [seqIndex_of h0 h1, e], by omega, by omega, h1⟩
    · rw [if_neg h1] at h; cases h
  · rw [if_neg h0] at h
    by_cases h1 : -(n : Int) ≤ i
    · rw [if_pos h1] at h
      have e : (i + n).toNat = j := Option.some.inj h
      exact ⟨by rw [seqIndex_neg (by omega) h1, e], by omega, h1, by omega⟩
    · rw [if_neg h1] at h; cases h
theorem atI_get {α : Type} {xs : List α} {i : Int} {v : α} (h : atI xs i = some v) : ∃ j, seqIndex? i xs.length = some j ∧ xs[j]? = some v ∧ j < xs.length ∧ -(xs.length : Int) ≤ i ∧ i < xs.length := by
  unfold atI at h
  cases e : ixN xs.length i with
  | none => rw [e] at h; cases h
  | some j =>
    rw [e] at h
    obtain ⟨h1, h2, h3, h4⟩ := ixN_seq e
    exact ⟨j, h1, h, h2, h3, h4⟩
theorem atI_nat {α : Type} {xs : List α} {j : Nat} {v : α} (h : xs[j]? = some v) : atI xs (j : Int) = some v := by
  have hj : j < xs.length := (List.getElem?_eq_some_iff.mp h).1
  have e : ixN xs.length (j : Int) = some j := by
    unfold ixN
    rw [if_pos (by omega), if_pos (by omega)]; simp
  unfold atI; rw [e]; exact h
/-! ### what may be subscripted -/
/-- what stands as an index of a plain subscript -/
def PlainIx (b : Expr) : Prop := ∀ o i, subscripted b false o i = operate [o, i] (getItem o i)
/-- a subscript by values -/
def IxR (X : Cx) (r : R2) : Prop :=
  ∀ (value slice : Expr) (pins : List (Addr × Obj)) (s : Shared) (σ : St) (H : Hp) (x y : V) (v u : Value) (Q : VK), Inv X pins σ H s → RelV x v → RelV y u → r x y H Q →
    subscripted slice false v u = operate [v, u] (getItem v u) → wpAny (model X.prog X.w) X.A (subscriptTail value slice v u) (EP X pins σ Q) X.xe s
/-- a call of a builtin's method by values: the receiver, the arguments -/
def MtR (X : Cx) (id : String) (r : V → List V → Hp → VK → Prop) : Prop :=
  ∀ (pins : List (Addr × Obj)) (s : Shared) (σ : St) (H : Hp) (x : V) (xs : List V) (v : Value) (us : List Value) (Q : VK), Inv X pins σ H s → RelV x v → Vals xs us → r x xs H Q →
    wpAny (model X.prog X.w) X.A (call (.builtin id) (v :: us)) (EP X pins σ Q) X.xe s
section
variable {X : Cx} {a b : Expr} {ta tb : TE} {pos : Pos}
theorem IxR.or {r r' : R2} (h : IxR X r) (h' : IxR X r') : IxR X (fun x y H Q => r x y H Q ∨ r' x y H Q) := by
  intro value slice pins s σ H x y v u Q I rx ry q hs
  rcases q with q | q
  · exact h value slice pins s σ H x y v u Q I rx ry q hs
  · exact h' value slice pins s σ H x y v u Q I rx ry q hs
theorem MtR.or {id : String} {r r' : V → List V → Hp → VK → Prop} (h : MtR X id r) (h' : MtR X id r') : MtR X id (fun x xs H Q => r x xs H Q ∨ r' x xs H Q) := by
  intro pins s σ H x xs v us Q I rx rs q
  rcases q with q | q
  · exact h pins s σ H x xs v us Q I rx rs q
  · exact h' pins s σ H x xs v us Q I rx rs q
/-- a[b] -/
theorem pe_ix {r : R2} (hr : IxR X r) (ha : PE X a ta) (hb : PE X b tb) (hs : PlainIx b) : PE X (.Subscript a b pos) (tOp r ta tb) := by
  intro pins s σ H Q I h
  exact Subscript_ (binT ha hb I h fun v u s2 x y H2 I2 rx ry q => hr a b pins s2 σ H2 x y v u Q I2 rx ry q (hs _ _))

def rIxL (K : PySem.W.Frag) : R2 := fun x y H Q => ∃ p xs i v, x = .ref p ∧ y = .int i ∧ SqL K H p xs ∧ atI xs i = some v ∧ Q v H
def rIxT (K : PySem.W.Frag) : R2 := fun x y H Q => ∃ p xs i v, x = .ref p ∧ y = .int i ∧ SqT K H p xs ∧ atI xs i = some v ∧ Q v H
theorem ix_list : IxR X (rIxL X.K) := by
  intro value slice pins s σ H x y v u Q I rx ry h hs
  obtain ⟨p, xs, i, z, rfl, rfl, hq, he, q⟩ := h
  cases rx
  obtain ⟨t, rfl⟩ := ry
  obtain ⟨its, r, pl, hz⟩ := I.list hq
  obtain ⟨j, h1, h2, h3, h4, h5⟩ := atI_get he
  obtain ⟨w, ew, rw'⟩ := r.get h2
  have hl := r.length
  have hn := line63
  have fin : EP X pins σ Q w s := ⟨z, H, I, rw', q⟩
  by_cases h0 : 0 ≤ i
  · have hj : i.toNat = j := by
      rw [seqIndex_of h0 h5] at h1
      exact Option.some.inj h1
    exact item_listR pl.isList h0 (by omega) (by rw [hj]; simpa using ew) fin hs
  · have hj : (i + (its.toArray.size : Int)).toNat = j := by
      rw [seqIndex_neg (by omega) h4] at h1
      rw [List.size_toArray, ← hl]
      exact Option.some.inj h1
    exact subscriptTail_builtinR (x := w) pl.isList.typeIs slot_list_getitem.lookup
      (wpAny_getItem_list_neg (Q := fun r s' => r = w ∧ EP X pins σ Q r s') pl.isList (by omega) (by rw [List.size_toArray] <;> omega) (by omega) (by rw [hj]; simpa using ew) ⟨rfl, fin⟩) hs
theorem ix_tup : IxR X (rIxT X.K) := by
  intro value slice pins s σ H x y v u Q I rx ry h hs
  obtain ⟨p, xs, i, z, rfl, rfl, hq, he, q⟩ := h
  cases rx
  obtain ⟨t, rfl⟩ := ry
  obtain ⟨its, r, pl, hz⟩ := I.tuple hq
  obtain ⟨j, h1, h2, h3, h4, h5⟩ := atI_get he
  obtain ⟨w, ew, rw'⟩ := r.get h2
  have hl := r.length
  have hn := line63
  have fin : EP X pins σ Q w s := ⟨z, H, I, rw', q⟩
  exact subscriptTail_builtinR (x := w) pl.typeIs slot_tuple_getitem.lookup
    (getItem_tuple (j := j) (Q := fun r s' => r = w ∧ EP X pins σ Q r s') pl (by omega) (by omega) (by rw [List.size_toArray, ← hl]; exact h1) (by simpa using ew) ⟨rfl, fin⟩) hs
/-! ### xs[i] = v, any sign -/
/-- the list's object behind a store -/
theorem mapSeq_set (its : List Value) (n j : Nat) (u : Value) : Obj.mapSeq (·.setIfInBounds j u) { cls := .type "list", data := .seq its.toArray n } = { cls := .type "list", data := .seq (its.set j u).toArray n } := by
  simp [Obj.mapSeq]
theorem Inv.lst {pins : List (Addr × Obj)} {σ : St} {H : Hp} {s : Shared} {p : Addr} {xs : List V} (I : Inv X pins σ H s) (h : H p = some (.lst xs)) :
    ∃ (its : List Value) (n : Nat), Vals xs its ∧ s.heap.get? p = some { cls := .type "list", data := .seq its.toArray n } ∧ xs.length ≤ sizeLine := by
  obtain ⟨z, its, n, r, e⟩ := I.hok p _ h
  exact ⟨its, n, r, e, z⟩
/-- the list at p is written by an update of its object -/
theorem Inv.lstUpd {pins : List (Addr × Obj)} {σ : St} {H : Hp} {s : Shared} {p : Addr} {xs ys : List V} {its its' : List Value} {n n' : Nat} {f : Obj → Obj} (I : Inv X pins σ H s) (h : H p = some (.lst xs))
    (ho : s.heap.get? p = some { cls := .type "list", data := .seq its.toArray n }) (hf : f { cls := .type "list", data := .seq its.toArray n } = { cls := .type "list", data := .seq its'.toArray n' }) (r : Vals ys its') (hz : ys.length ≤ sizeLine) (t : Nat) :
    Inv X pins σ (upd H p (.lst ys)) { s with heap := s.heap.update p f, toks := t } := by
  have e : (s.heap.update p f).get? p = some { cls := .type "list", data := .seq its'.toArray n' } := by
    rw [Heap.get?_update_self f ho (by rw [hf] <;> rfl), hf]
  refine I.write (x := p) (e := p) (by rw [h]; trivial) (.inl rfl) (fun b u hb q => (Heap.get?_update_other _ _ (Ne.symm hb)).trans q) ⟨_, e⟩ ?_
  exact ⟨hz, its', n', r, e⟩
def rSetL : V → V → V → Hp → (Hp → Prop) → Prop := fun o i v H Q => ∃ p xs k j, o = .ref p ∧ i = .int k ∧ H p = some (.lst xs) ∧ ixN xs.length k = some j ∧ Q (upd H p (.lst (xs.set j v)))
theorem set_list : PSet X rSetL := by
  intro pins s σ H o i v ov iv u Q I ro ri rv h
  obtain ⟨p, xs, k, j, rfl, rfl, hp, hj, q⟩ := h
  cases ro
  obtain ⟨t, rfl⟩ := ri
  obtain ⟨its, n, r, ho, hz⟩ := I.lst hp
  obtain ⟨h1, h2, h3, h4⟩ := ixN_seq hj
  have hl := r.length
  have hn := line63
  have I' : Inv X pins σ (upd H p (.lst (xs.set j v))) { s with heap := s.heap.update p (Obj.mapSeq (·.setIfInBounds j u)) } :=
    I.lstUpd hp ho (mapSeq_set its n j u) (r.set rv j) (by rw [List.length_set]; exact hz) s.toks
  by_cases h0 : 0 ≤ k
  · have hk : k.toNat = j := by
      rw [seqIndex_of h0 h4] at h1
      exact Option.some.inj h1
    exact PySem.W.ki_setAt ho h0 (by omega) (by rw [List.size_toArray, ← hl]; exact h4) (by rw [hk]; exact ⟨_, I', q⟩)
  · have hk : (k + (its.toArray.size : Int)).toNat = j := by
      rw [seqIndex_neg (by omega) h3] at h1
      rw [List.size_toArray, ← hl]
      exact Option.some.inj h1
    exact PySem.W.ki_setBack ho (by omega) (by rw [List.size_toArray, ← hl]; exact h3) (by omega) (by rw [hk]; exact ⟨_, I', q⟩)

/-! ### slices -/
theorem slice_bounds (lo hi : Option Int) (n : Nat) : (sliceBounds lo hi none n).1 = ((HT.sIx n 0 lo : Nat) : Int) ∧ (sliceBounds lo hi none n).2.1 = ((HT.sIx n n hi : Nat) : Int) ∧ (sliceBounds lo hi none n).2.2 = 1 := by
  refine ⟨?_, ?_, rfl⟩
  · cases lo with
    | none => simp [sliceBounds, HT.sIx]
    | some i =>
      simp only [sliceBounds, HT.sIx, Option.getD_none, show (1 : Int) > 0 by decide, if_true]
      by_cases h : i < 0
      · simp only [h, if_true] <;> omega
      · simp only [h, if_false] <;> omega
  · cases hi with
    | none => simp [sliceBounds, HT.sIx]
    | some i =>
      simp only [sliceBounds, HT.sIx, Option.getD_none, show (1 : Int) > 0 by decide, if_true]
      by_cases h : i < 0
      · simp only [h, if_true] <;> omega
      · simp only [h, if_false] <;> omega
theorem slicePick_cut (its : List Value) (lo hi : Option Int) : slicePick its.toArray lo hi none = ((its.drop (HT.sIx its.length 0 lo)).take (HT.sIx its.length its.length hi - HT.sIx its.length 0 lo)).toArray := by
  obtain ⟨h1, h2, h3⟩ := slice_bounds lo hi its.toArray.size
  unfold slicePick
  rw [h1, h2, h3]
  simp only [sliceRange_one, pick_run, List.size_toArray] <;> rfl
/-- xs[lo:hi] of a list: a new list -/
def rSlL (K : PySem.W.Frag) : V → Option Int → Option Int → Hp → VK → Prop := fun x lo hi H Q => ∃ a xs, x = .ref a ∧ SqL K H a xs ∧ ∀ p, H p = none → Q (.ref p) (upd H p (.lst (cutV xs lo hi)))
theorem sl_list : SlR X (rSlL X.K) := by
  intro pins s σ H x v vl vu lo hi sl Q I rx hs pl pu h
  obtain ⟨a, xs, rfl, hx, q⟩ := h
  cases rx
  obtain ⟨its, r, ht, hz⟩ := I.list hx
  have hlen := r.length
  refine ⟨"list", _, slot_list_getitem.lookup, ht.isList.typeIs, ?_⟩
  refine wpAny_getItem_list_slice ht.isList hs pl pu .none (by simp) ?_ (by rw [List.size_toArray] <;> omega)
  rw [slicePick_cut, ← hlen]
  refine ⟨.ref s.heap.objs.size, _, I.laid (t' := s.toks) (o := .lst (cutV xs lo hi)) (fun b ob q => Heap.get?_push_of_some _ q) (Nat.le_refl _) ?_, rfl, q _ (I.hok.fresh (Nat.le_refl _))⟩
  exact ⟨Nat.le_trans (cutV_length xs lo hi) hz, _, 0, (r.drop (HT.sIx xs.length 0 lo)).take (HT.sIx xs.length xs.length hi - HT.sIx xs.length 0 lo), Heap.get?_push_size _ rfl⟩

/-! ### in, not in: flat items -/
/-! ### len, list(x), tuple(x) of any list or tuple that is read -/
theorem CallR.or {f : Value} {r r' : List V → Hp → VK → Prop} (h : CallR X f r) (h' : CallR X f r') : CallR X f (fun xs H Q => r xs H Q ∨ r' xs H Q) := by
  intro pins s σ H xs us Q I rs q
  rcases q with q | q
  · exact h pins s σ H xs us Q I rs q
  · exact h' pins s σ H xs us Q I rs q
/-! ### the call of a builtin's method: o.m(..) -/
variable {o e : Expr} {es : List Expr} {to : TE} {t : TA} {name : Str} {apos cpos : Pos} {T id : String} {r : V → List V → Hp → VK → Prop}
end
end L2

namespace L2
open PySem PySem.Spec PyProof.Rows

/-! ### lists of values -/
theorem Vals.one : ∀ {x : V} {us : List Value}, Vals [x] us → ∃ u, us = [u] ∧ RelV x u
  | _, _, .cons r .nil => ⟨_, rfl, r⟩
theorem Vals.two : ∀ {x y : V} {us : List Value}, Vals [x, y] us → ∃ u v, us = [u, v] ∧ RelV x u ∧ RelV y v
  | _, _, _, .cons r (.cons q .nil) => ⟨_, _, rfl, r, q⟩
section
variable {X : Cx} {pins : List (Addr × Obj)} {σ : St} {H : Hp} {s : Shared} {l b : Addr} {xs ys zs : List V}

/-! ### the two steps: a tracked list is rewritten, a new list is laid -/
theorem Inv.lnew {its : List Value} {t' : Nat} (I : Inv X pins σ H s) (hv : Vals ys its) (hz : ys.length ≤ sizeLine) :
    Inv X pins σ (upd H s.heap.objs.size (.lst ys)) { s with heap := s.heap.push { cls := .type "list", data := .seq its.toArray }, toks := t' } :=
  I.laid (fun _ _ q => Heap.get?_push_of_some _ q) (Nat.le_refl _) ⟨hz, its, 0, hv, Heap.get?_push_size _ rfl⟩
theorem Inv.fresh (I : Inv X pins σ H s) : H s.heap.objs.size = none := I.hok.fresh (Nat.le_refl _)
theorem Inv.lstM (I : Inv X pins σ H s) (hH : H l = some (.lst xs)) : xs.length ≤ sizeLine ∧ ∃ (its : List Value) (n : Nat), Vals xs its ∧ xs.length = its.length ∧ s.heap.get? l = some { cls := .type "list", data := .seq its.toArray n } := by
  obtain ⟨z, its, n, r, e⟩ := I.hok l _ hH
  exact ⟨z, its, n, r, r.length, e⟩

end

section
variable {X : Cx}

/-! ### methods -/
/-! ### list + list, list += list, list * int -/
def rCat : R2 := fun x y H Q => ∃ l b xs zs, x = .ref l ∧ y = .ref b ∧ H l = some (.lst xs) ∧ H b = some (.lst zs) ∧ xs.length + zs.length ≤ sizeLine ∧ ∀ p, H p = none → Q (.ref p) (upd H p (.lst (xs ++ zs)))
theorem op_cat : OpR X (binaryOp .Add) rCat := by
  intro pins s σ H x y v u Q I rx ry h
  obtain ⟨l, b, xs, zs, rfl, rfl, hH, hB, hz, q⟩ := h
  cases rx
  cases ry
  obtain ⟨z, its, n, r, hl, e⟩ := I.lstM hH
  obtain ⟨z2, its2, n2, r2, hl2, e2⟩ := I.lstM hB
  refine PySem.P.add_list e e2 ?_ (by rw [List.size_toArray, List.size_toArray]; omega)
  have ea : its.toArray ++ its2.toArray = (its ++ its2).toArray := by simp
  rw [ea]
  exact ⟨.ref _, _, I.lnew (t' := s.toks) (r.append r2) (by rw [List.length_append]; omega), rfl, q _ I.fresh⟩
/-! ### del xs[i] -/
end

/-! ### xs[a:b] = ys -/
section
variable {prog : Program} {w : World} {A : Around} {E : Value → Shared → Prop} {s : Shared}
end

section
variable {X : Cx}
end
end L2

namespace Att
open PySem PySem.W PySem.Calls PyProof.Rows

/-! ### the script -/
theorem ints_of_wellAll {P : Params} {h : Heap} : ∀ (ns : List Int) (vs : List Value), WellAll P h vs (ns.map WData.int) → IntsAre vs ns := by
  intro ns
  induction ns with
  | nil =>
    intro vs w
    rw [List.map_nil] at w
    cases w
    exact .nil
  | cons n ns ih =>
    intro vs w
    rw [List.map_cons] at w
    cases w with
    | cons a b =>
      cases a
      exact .cons _ _ (ih _ b)

theorem script_of {l : OpenLaw} {n : Nat} (hn : l.most = some n) {P : Params} {h : Heap} {args : List WData} {vals : List Value}
    (hpre : l.row.toRowW.claim.pre args = true) (hwl : WellAll P h vals args) :
    ∃ a vs ns, vals = [Value.ref a] ∧ args = [WData.list (ns.map WData.int)] ∧ h.get? a = some { cls := .type "list", data := .seq vs.toArray } ∧ IntsAre vs ns ∧ ns.length ≤ n := by
  have hsh : WShape.hasAll [] args [.list .int] = true := (pre_splitW hpre).1
  have hc : l.pre.holds [] { args := args } = true := (pre_splitW hpre).2
  obtain ⟨d, r, rfl, h1, h2⟩ := hasAllW_cons hsh
  obtain rfl := hasAllW_nil h2
  obtain ⟨xs, rfl, h3⟩ := hasW_list h1
  obtain ⟨ns, rfl⟩ := items_int h3
  have hlen : ns.length ≤ n := by
    unfold OpenLaw.pre at hc
    have h4 : (WTm.not (.lt (.lit (.int (n : Int))) (.len (.arg 0)))).holds [] { args := [.list (ns.map .int)] } = true := by
      have h4 := (holds_andW hc).1
      rw [hn] at h4
      exact h4
    have h5 := condW_of h4 (w_not (w_lt w_lit (w_len_list (w_arg rfl))))
    rw [List.length_map] at h5
    refine Nat.le_of_not_lt fun q => ?_
    have q' : (n : Int) < ((ns.length : Nat) : Int) := by omega
    first
      | (rw [decide_eq_true q'] at h5; exact absurd h5 (by decide))
      | (simp at h5; omega)
  cases hwl with
  | cons w1 w2 =>
    cases w2
    cases w1 with
    | list ho hall => exact ⟨_, _, ns, rfl, rfl, ho, ints_of_wellAll ns _ hall, hlen⟩

theorem post_true (l : OpenLaw) (args : List WData) : l.row.toRowW.claim.post args (.bool true) args = true :=
  postW_of (r := l.row.toRowW) (X := (true == true))
    (show WShape.has [] (.bool true) .bool = true by first | rfl | decide | simp [WShape.has, WShape.arms, WShape.armsAll])
    (show (WTm.eq .res (.lit (.bool true))).value [] { args := args, res := some (.bool true), after := args } = some (.bool (true == true)) from w_eq_bool (w_res rfl) w_lit) rfl

/-! ### the attachment: holds_open's last premise (the goal 'hc' behind k_head) from a wpAny of the law's body -/
/-- the same from a codeAny of the CALL (for a layer whose function contracts speak of calls) -/
theorem attach_call {l : OpenLaw} {n : Nat} {q : Program} {loose : List Str} {XP : (Str → Option Value) → Heap → Prop} {YP : World → Heap → Prop} {d : DefRec}
    (hn : l.most = some n) (hdf : d.params.defaults = [])
    (call : ∀ (w : World) (s₀ s₁ : Shared) (mg mb : Str → Option Value) (fa : Addr) (o : Obj) (pm cd doc : Value) (a : Addr) (vs : List Value) (ns : List Int),
      Ground q loose [] XP w s₀ mg mb s₁.heap → YP w s₁.heap →
      s₁.heap.get? fa = some o → o.data = .func (docDef d.name d.params d.body d.scope pm cd doc) → s₁.heap.CodeRec cd d.name → mg d.name = some (.ref fa) →
      s₁.heap.get? a = some { cls := .type "list", data := .seq vs.toArray } → IntsAre vs ns → ns.length ≤ n → s₁.gens = #[] →
      codeAny (model l.prog w) callerA (.call (.ref fa) ⟨[.ref a], []⟩) (fun r s' => r = .ok (.ret (.bool true)) ∧ OldK s₁.heap s'.heap ∧ s'.os = s₁.os ∧ AllBare s'.gens) s₁) :
    WalkO q loose XP YP l.row.toRowW d [] (fun f vs => PySem.call f vs) := by
  intro w s₀ s₁ mg mb G Y fa o pm cd doc dV kV ho hd hcd hD hmg hg args vals as hpre hlay hrd hwl hlo
  obtain rfl : dV = .none := Dflts.none hD hdf
  obtain rfl : kV = .none := Dflts.noKw hD
  obtain ⟨a, vs, ns, rfl, rfl, hobj, hints, hlen⟩ := script_of hn hpre hwl
  refine enter_call (codeAny_mono (call w s₀ s₁ mg mb fa o pm cd doc a vs ns G Y ho (fd_plain hd) hcd hmg hobj hints hlen hg) fun r s' hq => ?_)
  obtain ⟨rfl, h2, h3, h4⟩ := hq
  exact ⟨.inl ⟨.bool true, .bool true, [], rfl, fun _ => rfl, .bool true, post_true l _, fun _ => ⟨List.Pairwise.nil, fun _ hm => (nomatch hm)⟩⟩, h2, h3, h4⟩

/-! ### rules over ANY heap (no ledger) from facts about the written part K: the library's own take a ledger (News) for what they write -/
section
variable {prog : Program} {w : World} {A : Around} {E : Value → Shared → Prop} {s : Shared} {K : Frag}

/-! the whole heap as the ledger: makes every rule that writes through a ledger a rule over any heap -/
def ledger (h : Heap) (L d : Addr) : List (Addr × Obj) := (List.range h.objs.size).filterMap fun a => if a = L ∨ a = d then none else (h.get? a).map fun o => (a, o)
end
end Att

namespace L2
open PySem PySem.Spec PyProof.Rows

theorem vals_ints : ∀ {vs : List Value} {ns : List Int}, IntsAre vs ns → Vals (ns.map V.int) vs
  | _, _, .nil => .nil
  | _, _, .cons n t h => .cons ⟨t, rfl⟩ (vals_ints h)

/-- nothing is tracked but the script, known to the object (or it is an object of the module) -/
def Only (H : Hp) : Prop := ∀ b, H b = none ∨ ∃ o xs, H b = some (.frz o (.lst xs))

/-- THE HEAD: the law's promise, at the heap behind the top. F, the promise of the law's def, may use that base is part of the heap (so K.In base, base.Ns mainGlobals mg stand in Mod) -/
theorem law_call {P : Program} {w : World} {K : PySem.W.Frag} {mg mb : Str → Option Value} {CX : CXT} {k : Nat} {fa a : Addr} {fd : FuncData} {x : Str} {sp : Sp} {s₁ : Shared} {vs : List Value} {ns : List Int}
    (KX : K.In s₁.heap) (hns : s₁.heap.Ns mainGlobals mg) (hb : s₁.heap.Ns builtinsNs mb) (hbb : ∀ x : Str, x ≠ "__name__" → mb x = bootBuiltins x) (hlim : s₁.heap.NoLimit) (hg : s₁.gens = #[])
    (ha : s₁.heap.get? a = some { cls := .type "list", data := .seq vs.toArray }) (hi : IntsAre vs ns) (hl : ns.length ≤ sizeLine) (hr : Room k callerA)
    (F : ∀ base : Heap, K.In base → base.Ns mainGlobals mg → FnOk P w K mg base CX k fa fd [x] sp) (hbind : ∀ (s : Shared) (u : Value), BindsTo s fd ⟨[u], []⟩ [(x, u)])
    (hsp : ∀ H : Hp, Only H → SqL K H a (ns.map V.int) → sp [.ref a] H (fun v _ => v = .bl true) fun _ _ _ => False)
    (hCX : ∀ H e s', CX [] H s₁ (fun _ _ _ => False) e s' → False) :
    codeAny (model P w) callerA (.call (.ref fa) ⟨[.ref a], []⟩) (fun r s' => r = .ok (.ret (.bool true)) ∧ OldK s₁.heap s'.heap ∧ s'.os = s₁.os ∧ AllBare s'.gens) s₁ := by
  have rv := vals_ints hi
  have lenV := hi.length
  -- from an abstract heap in which nothing but the script may be tracked
  have core : ∀ H : Hp, Only H → SqL K H a (ns.map V.int) → HOk P w H s₁.heap → (∀ b, H b ≠ none → b = a) → (H a ≠ none → K.lookup a = none) →
      codeAny (model P w) callerA (.call (.ref fa) ⟨[.ref a], []⟩) (fun r s' => r = .ok (.ret (.bool true)) ∧ OldK s₁.heap s'.heap ∧ s'.os = s₁.os ∧ AllBare s'.gens) s₁ := by
    intro H hO hS hok hA hK
    have base_of : ∀ {b : Addr} {o : Obj}, s₁.heap.get? b = some o → H b = none → (hidT s₁.heap H).get? b = some o := fun e n => hidT_get e n
    have noA : ∀ {b : Addr} {o : Obj} {es : Array DictEntry} {ep : Nat}, s₁.heap.get? b = some o → o.data = .dict es ep → H b = none := fun {b o es ep} e d => by
      cases q : H b with
      | none => rfl
      | some u =>
        have e' : b = a := hA b (by rw [q]; simp)
        subst e'
        rw [ha] at e; cases e
        have d' : Data.seq vs.toArray _ = Data.dict es ep := d
        cases d'
    have nsK : ∀ {b : Addr} {m : Str → Option Value}, s₁.heap.Ns b m → (hidT s₁.heap H).Ns b m := fun {b m} ⟨o, es, ep, e, d, r⟩ => ⟨o, es, ep, base_of e (noA e d), d, r⟩
    have hKb : K.In (hidT s₁.heap H) := fun b o e => base_of (KX b o e) (by
      cases q : H b with
      | none => rfl
      | some u =>
        have e' : b = a := hA b (by rw [q]; simp)
        subst e'
        rw [hK (by rw [q]; simp)] at e; cases e)
    have hM : Mod K mg (hidT s₁.heap H) := ⟨hKb, nsK hns, ⟨mb, nsK hb, hbb⟩, let ⟨mc, h1, h2⟩ := hlim; ⟨mc, nsK h1, h2⟩⟩
    have e0 : Env0 P w K mg (hidT s₁.heap H) callerA [] s₁ H := ⟨rfl, hM, fun b o e => of_hidT e, Nat.le_of_eq (hidT_size _ _), trivial, fun b hb => absurd (show b ∈ ([] : List Addr) from hb) (by simp), hok, .of_eq hg⟩
    refine codeAny_mono ((F _ hKb (nsK hns)).run callerA [] s₁ H ⟨[.ref a], []⟩ [.ref a] [.ref a] _ _ hr e0 (hbind s₁ (.ref a)) (.cons rfl .nil) (hsp H hO hS)) fun r s' h => ?_
    cases r with
    | error e => exact (hCX H e s' h).elim
    | ok fl =>
      cases fl with
      | next => exact False.elim h
      | brk => exact False.elim h
      | cont => exact False.elim h
      | ret u =>
        obtain ⟨v, H', os, bare, un, hok', r', q⟩ := h
        have q' : v = .bl true := q
        subst q'
        obtain rfl : u = Value.bool true := r'
        refine ⟨rfl, OldK.of_keep fun b o e => ?_, os, bare⟩
        cases q : H b with
        | none => exact un.keep b o e q (by intro z; exact absurd (show b ∈ ([] : List Addr) from z) (by simp)) (by simp)
        | some u =>
          rcases hO b with z | ⟨ob, xs, z⟩
          · rw [q] at z; cases z
          · have z2 := un.frzs b ob _ z
            obtain ⟨e1, _⟩ := hok b _ z
            obtain ⟨e2, _⟩ := hok' b _ z2
            rw [e] at e1; cases e1
            exact e2
  cases hk : K.lookup a with
  | some o =>
    -- the script is one of the module's own objects
    have e := KX a o hk
    rw [ha] at e
    cases e
    refine core (fun _ => none) (fun _ => .inl rfl) (.inr ⟨_, vs.toArray, _, hk, rfl, rfl, rfl, by rw [List.size_toArray, lenV]; exact hl, by simpa using rv⟩) (fun b u z => by have z' : (none : Option HO) = some u := z; cases z') (fun b z => absurd rfl z) fun z => absurd rfl z
  | none =>
    refine core (fun b => if b = a then some (.frz { cls := .type "list", data := .seq vs.toArray } (.lst (ns.map V.int))) else none) (fun b => ?_) (.inl (.inr ⟨{ cls := .type "list", data := .seq vs.toArray }, if_pos rfl⟩)) (fun b u z => ?_) (fun b z => ?_) fun _ => hk
    · by_cases hb : b = a
      · exact .inr ⟨_, _, if_pos hb⟩
      · exact .inl (if_neg hb)
    · by_cases hb : b = a
      · have z' := (if_pos hb).symm.trans z
        cases z'
        subst hb
        exact ⟨ha, by rw [List.length_map]; exact hl, vs, _, rv, ha⟩
      · have z' := (if_neg hb).symm.trans z
        cases z'
    · by_cases hb : b = a
      · exact hb
      · exact absurd (if_neg hb) z
end L2

namespace L2
open PySem PySem.Spec PyProof.Rows

/-- the goal that k_head leaves (case hc), from the law's promise. F gives the function object fd (K's own) once, then the promise over every base -/
theorem walk_of {l : PySem.W.OpenLaw} {n k : Nat} {q : Program} {loose : List Str} {XP : (Str → Option Value) → Heap → Prop} {YP : World → Heap → Prop} {d : DefRec} {K : Params → PySem.W.Frag} {CX : World → CXT} {sp : World → Sp} {x : Str}
    (hn : l.most = some n) (hn2 : n ≤ sizeLine) (hdf : d.params.defaults = []) (hr : Room k callerA)
    (hY : ∀ (w : World) (h : Heap), YP w h → (K w.params).In h)
    (F : ∀ (w : World) (mg : Str → Option Value) (fa : Addr) (h : Heap), (K w.params).In h → h.Ns mainGlobals mg → mg d.name = some (.ref fa) →
      ∃ fd : FuncData, (∀ (s : Shared) (u : Value), BindsTo s fd ⟨[u], []⟩ [(x, u)]) ∧
        ∀ base : Heap, (K w.params).In base → base.Ns mainGlobals mg → FnOk l.prog w (K w.params) mg base (CX w) k fa fd [x] (sp w))
    (hsp : ∀ (w : World) (H : Hp) (a : Addr) (ns : List Int), ns.length ≤ n → Only H → SqL (K w.params) H a (ns.map V.int) → sp w [.ref a] H (fun v _ => v = .bl true) fun _ _ _ => False)
    (hCX : ∀ (w : World) (H : Hp) (s : Shared) (e : Value) (s' : Shared), CX w [] H s (fun _ _ _ => False) e s' → False) :
    PySem.W.WalkO q loose XP YP l.row.toRowW d [] (fun f vs => PySem.call f vs) := by
  refine Att.attach_call hn hdf fun w s₀ s₁ mg mb fa o pm cd doc a vs ns G Y ho hd hcd hmg hobj hints hlen hg => ?_
  have KX := hY w _ Y
  obtain ⟨fd, hb, hF⟩ := F w mg fa _ KX G.T.g hmg
  exact law_call KX G.T.g G.T.b G.T.builtins G.T.nolimit hg hobj hints (Nat.le_trans hlen hn2) hr hF hb (fun H hO hS => hsp w H a ns hlen hO hS) fun H e s' => hCX w H s₁ e s'
end L2



/-! SHORT WORDS over the layer: a def of the text, its body, what a loop and a test want. -/
namespace L2
open PySem PySem.Spec PyProof.Rows

/-! ### the text by places -/
def defArgs (s : Stmt) : Arguments := match s with
  | .FunctionDef _ a _ _ _ _ _ _ _ _ => a
  | _ => { posonlyargs := [], args := [], vararg := none, kwonlyargs := [], kw_defaults := [], kwarg := none, defaults := [] }
def defBody (s : Stmt) : List Stmt := match s with
  | .FunctionDef _ _ b _ _ _ _ _ _ _ => b
  | _ => []
def defScope (s : Stmt) : Scope := match s with
  | .FunctionDef _ _ _ _ _ _ sc _ _ _ => sc
  | _ => { kind := .function, names := [], isGenerator := false, isCoroutine := false }

/-! ### no exception leaves a def -/
abbrev CX0 : CXT := fun _ _ _ _ _ _ => False
abbrev E0 : XK := fun _ _ _ => False
/-! ### a def (or method) of the text as it stands behind the top -/
structure Fun (K : PySem.W.Frag) (x qual : Str) (st : Stmt) (f : Addr) (fd : FuncData) : Prop where
  ex : ∃ (oc : Value) (od : Option Addr) (kV doc pm : Value) (an : Option Addr) (cdv ct : Value) (osl : Array (Option Value)),
    fd = PySem.W.fnOf x qual (defArgs st) (defBody st) (defScope st) .none kV doc pm an cdv ct ∧ K.lookup f = some ⟨oc, od, .func fd, osl⟩ ∧ PySem.W.codeIn K cdv qual = true
  kp : PySem.W.keepIn K (.ref f) = true
section
variable {P : Program} {w : World} {K : PySem.W.Frag} {mg : Str → Option Value} {base : Heap}
/-- THE RULE for a def: its body as a term of rules, and the reading of that term -/
theorem Fun.ok {x qual : Str} {st : Stmt} {f : Addr} {fd : FuncData} {N ps : List Str} {k : Nat} {sp : Sp} (F : Fun K x qual st f fd) (S : FnScope N ps (defScope st)) (len : ∀ vs H Q E, sp vs H Q E → vs.length = ps.length)
    (hbody : ∀ (cdv : Value) (A : Around) (outer : List Env) (s : Shared) (H : Hp) (vs : List V) (Q : VK) (E : XK), Room k (A.deeper (envOfC qual (defScope st) s.heap.objs.size f cdv)) → sp vs H Q E →
      ∃ t, PSs (cxOf CX0 P w K mg base N qual (defScope st) f cdv A outer s H E).nox (defBody st) t ∧ t { nx := fun _ H' => Q .non H', rt := Q } (start N vs) H) : FnOk P w K mg base CX0 (k + 1) f fd ps sp := by
  obtain ⟨oc, od, kV, doc, pm, an, cdv, ct, osl, rfl, lk, hcd⟩ := F.ex
  refine fn_of lk hcd S len fun A outer s H vs Q E hr hsp => ?_
  obtain ⟨t, h, q⟩ := hbody cdv A outer s H vs Q E hr hsp
  exact ⟨t, h.nox, q⟩
/-- how its arguments bind (no defaults): h is «fun _ _ _ _ _ _ us hl => match us, hl with | [_, _], _ => rfl», one _ a parameter -/
theorem Fun.binds {x qual : Str} {st : Stmt} {f : Addr} {fd : FuncData} {ps : List Str} (F : Fun K x qual st f fd)
    (h : ∀ (kV doc pm : Value) (an : Option Addr) (cdv ct : Value) (us : List Value), us.length = ps.length → bindArgs (PySem.W.fnOf x qual (defArgs st) (defBody st) (defScope st) .none kV doc pm an cdv ct) ⟨us, []⟩ = pure (ps.zip us)) : Binds K fd ps [] := by
  obtain ⟨oc, od, kV, doc, pm, an, cdv, ct, osl, rfl, lk, hcd⟩ := F.ex
  exact .all (h kV doc pm an cdv ct)
theorem fun_mk {x qual : Str} {st : Stmt} {f : Addr} {oc : Value} {od an : Option Addr} {osl : Array (Option Value)} {kV doc pm cdv ct : Value} (l : K.lookup f = some ⟨oc, od, .func (PySem.W.fnOf x qual (defArgs st) (defBody st) (defScope st) .none kV doc pm an cdv ct), osl⟩)
    (c : PySem.W.codeIn K cdv qual = true) (k : PySem.W.keepIn K (.ref f) = true) : Fun K x qual st f (PySem.W.fnOf x qual (defArgs st) (defBody st) (defScope st) .none kV doc pm an cdv ct) := ⟨⟨oc, od, kV, doc, pm, an, cdv, ct, osl, rfl, l, c⟩, k⟩
end
theorem small1000 {n : Nat} (h : n ≤ 1000) : n < sizeLine := Nat.lt_of_le_of_lt h (by decide)

/-! ### expressions in short: the name that stands in the i-th slot -/
section
variable {X : Cx}
theorem pv (i : Nat) {x : Str} {pos : Pos} (hN : X.N[i]? = some x := by rfl) (hv : Vis X.env.scope x := by first | exact Or.inl rfl | exact Or.inr (Or.inl rfl) | exact Or.inr (Or.inr rfl)) (hd : (x == ("__debug__" : Str)) = false := by decide)
    (hcd : (x == ("__classdict__" : Str)) = false := by decide) : PE X (.Name x pos) (tVar i) := pe_var hN hv hd hcd
end

/-! ### tests -/
/-! ### heaps -/
/-- all that was tracked is as it was -/
def Same (H H' : Hp) : Prop := ∀ b o, H b = some o → H' b = some o
theorem Same.refl (H : Hp) : Same H H := fun _ _ h => h
theorem Same.trans {H H1 H2 : Hp} (a : Same H H1) (b : Same H1 H2) : Same H H2 := fun c o h => b c o (a c o h)
theorem Same.free {H H' : Hp} (e : Same H H') {l : Addr} (h : H' l = Option.none) : H l = Option.none := by
  cases q : H l with
  | none => rfl
  | some o =>
    rw [e l o q] at h
    cases h
theorem Same.seq {K : PySem.W.Frag} {H H' : Hp} {a : Addr} {xs : List V} (e : Same H H') (h : SqL K H a xs) : SqL K H' a xs := by
  rcases h with (h | ⟨o, h⟩) | h
  · exact .inl (.inl (e _ _ h))
  · exact .inl (.inr ⟨o, e _ _ h⟩)
  · exact .inr h

end L2

set_option Elab.async false
set_option linter.all false
set_option maxRecDepth 100000
namespace Bw
open PySem PySem.Spec PyProof.Rows L2

/-! ### more rules -/
section
variable {X : Cx}
def CDivL (i j : Int) : Prop := 0 < j ∧ j < 2 ^ 62
theorem op_fdivL : OpR X (binaryOp .FloorDiv) (rI CDivL fun i j => .int (i / j)) := opI fun i j _ _ _ _ _ hc q => by
  have h1 : (0 : Int) < j := hc.1
  have h2 : j < 2 ^ 62 := hc.2
  refine floordiv_int (by omega) (by rw [Int.fdiv_eq_ediv_of_nonneg i (by omega)]; exact q) (.inl (PyProof.noPylong_of_log2 ?_))
  have h0 : j.natAbs ≠ 0 := by omega
  have : j.natAbs.log2 < 62 := (Nat.log2_lt h0).mpr (by omega)
  omega

/-- what isinstance may be asked of here -/
def okV (H : Hp) : V → Prop
  | .non => True
  | .bl _ => True
  | .int _ => True
  | .str _ => True
  | .ref a => (∃ xs, H a = some (.lst xs)) ∨ ∃ xs, H a = some (.tup xs)
  | _ => False
def isIntV : V → Bool
  | .int _ => true
  | .bl _ => true
  | _ => false
def isBoolV : V → Bool
  | .bl _ => true
  | _ => false
def isTupV (H : Hp) : V → Bool
  | .ref a => match H a with
    | some (.tup _) => true
    | _ => false
  | _ => false
theorem okV.ty {K : PySem.W.Frag} {H : Hp} {x : V} (h : okV H x) : ∃ T, TyOf K H x (.type T) ∧ PySem.W.kitOne K (.type T) (.type "int") = some (isIntV x) ∧ PySem.W.kitOne K (.type T) (.type "bool") = some (isBoolV x) ∧ PySem.W.kitOne K (.type T) (.type "tuple") = some (isTupV H x) := by
  cases x with
  | non => exact ⟨_, .non, by kernel_rfl, by kernel_rfl, by kernel_rfl⟩
  | bl b => exact ⟨_, .bl b, by kernel_rfl, by kernel_rfl, by kernel_rfl⟩
  | int i => exact ⟨_, .int i, by kernel_rfl, by kernel_rfl, by kernel_rfl⟩
  | str i => exact ⟨_, .str i, by kernel_rfl, by kernel_rfl, by kernel_rfl⟩
  | ref a =>
    rcases h with ⟨xs, e⟩ | ⟨xs, e⟩
    · have q : isTupV H (.ref a) = false := by simp [isTupV, e]
      rw [q]
      exact ⟨_, .lst e, by kernel_rfl, by kernel_rfl, by kernel_rfl⟩
    · have q : isTupV H (.ref a) = true := by simp [isTupV, e]
      rw [q]
      exact ⟨_, .tup e, by kernel_rfl, by kernel_rfl, by kernel_rfl⟩
  | _ => exact h.elim
theorem isi_gen {pins : List (Addr × Obj)} {σ : L2.St} {H : Hp} {s : Shared} {x : V} {c T : String} {b : Bool} {us : List Value} {Q : VK} (I : Inv X pins σ H s) (r : Vals [x, .ty c] us) (ty : TyOf X.K H x (.type T)) (e : PySem.W.kitOne X.K (.type T) (.type c) = some b) (q : Q (.bl b) H) :
    wpAny (model X.prog X.w) X.A (call (.builtin "isinstance") us) (EP X pins σ Q) X.xe s := by
  obtain ⟨u, w', rfl, rx, rc⟩ := vals2 r
  cases (show w' = Value.type c from rc)
  exact isinst_ok I rx ty e fun tk => ⟨.bl b, H, I.tok _, rfl, q⟩
theorem call_isi_int : CallR X (.builtin "isinstance") (fun xs H Q => ∃ x, xs = [x, .ty "int"] ∧ okV H x ∧ Q (.bl (isIntV x)) H) := by
  intro pins s σ H xs us Q I r h
  obtain ⟨x, rfl, ok, q⟩ := h
  obtain ⟨T, ty, e1, e2, e3⟩ := ok.ty (K := X.K)
  exact isi_gen I r ty e1 q
theorem call_isi_bool : CallR X (.builtin "isinstance") (fun xs H Q => ∃ x, xs = [x, .ty "bool"] ∧ okV H x ∧ Q (.bl (isBoolV x)) H) := by
  intro pins s σ H xs us Q I r h
  obtain ⟨x, rfl, ok, q⟩ := h
  obtain ⟨T, ty, e1, e2, e3⟩ := ok.ty (K := X.K)
  exact isi_gen I r ty e2 q
theorem call_isi_tuple : CallR X (.builtin "isinstance") (fun xs H Q => ∃ x, xs = [x, .ty "tuple"] ∧ okV H x ∧ Q (.bl (isTupV H x)) H) := by
  intro pins s σ H xs us Q I r h
  obtain ⟨x, rfl, ok, q⟩ := h
  obtain ⟨T, ty, e1, e2, e3⟩ := ok.ty (K := X.K)
  exact isi_gen I r ty e3 q

/-! ### == of two tuples of ints -/
theorem reads_tupI {h : Heap} {a : Addr} {its : List Value} {ns : List Int} (hl : IsTup h a its.toArray) (hi : IntsAre its ns) : Reads h (.ref a) (.tuple (ns.map PyData.int)) [] := by
  obtain ⟨o, ho, hc, n, hd⟩ := hl
  exact Reads.tuple ho hc hd (by simpa using PySem.W.readsAll_of_ints hi)
theorem shaped_tupI (ns : List Int) : SeqAt.shaped (.tuple (ns.map PyData.int)) = true := by
  simp [SeqAt.shaped, PyData.canLay0, PyData.depth, PySem.W.ke_canLayAll0, PySem.W.ke_depthAll]
theorem eq_tupI {prog : Program} {w : World} {A : Around} {E : Value → Shared → Prop} {s : Shared} {a b : Addr} {xs ys : List Value} {ns ms : List Int} {Q : Value → Shared → Prop} (ha : IsTup s.heap a xs.toArray) (hb : IsTup s.heap b ys.toArray) (hi : IntsAre xs ns) (hj : IntsAre ys ms) (hu : A.units + 64 < cLine) (h : Q (.bool (decide (ns = ms))) s) :
    wpAny (model prog w) A (compareOp .Eq (.ref a) (.ref b)) Q E s :=
  eq_dataH_same (reads_tupI ha hi) (reads_tupI hb hj) (shaped_tupI _) (shaped_tupI _) hu (by simp only [SeqAt.noMix]; exact PySem.W.noMix_ints ns ms) (by simp only [PySem.Spec.same]; rw [PySem.W.same_ints]; exact h)
def rEqT (K : PySem.W.Frag) : R2 := fun x y H Q => ∃ (a b : Addr) (ns ms : List Int), x = .ref a ∧ y = .ref b ∧ SqT K H a (ns.map V.int) ∧ SqT K H b (ms.map V.int) ∧ Q (.bl (decide (ns = ms))) H
theorem op_eqT (hu : X.A.units + 64 < cLine) : OpR X (compareOp .Eq) (rEqT X.K) := by
  intro pins s σ H x y v u Q I rx ry h
  obtain ⟨a, b, ns, ms, rfl, rfl, ha, hb, q⟩ := h
  cases rx
  cases ry
  obtain ⟨its, r1, p1, _⟩ := I.tuple ha
  obtain ⟨its2, r2, p2, _⟩ := I.tuple hb
  exact eq_tupI p1 p2 (intsAre_of r1) (intsAre_of r2) hu ⟨.bl _, H, I, rfl, q⟩
end

/-! ### a def that may be called -/
structure Cal (P : Program) (w : World) (K : PySem.W.Frag) (mg : Str → Option Value) (base : Heap) (x : Str) (ps : List Str) (k : Nat) (sp : Sp) : Prop where
  ex : ∃ f fd, FnOk P w K mg base CX0 k f fd ps sp ∧ Binds K fd ps [] ∧ PySem.W.keepIn K (.ref f) = true ∧ mg x = some (.ref f)
/-! ### heaps -/
theorem same_new {H : Hp} {p : Addr} (h : H p = none) (o : HO) : Same H (upd H p o) := fun b u q => by rw [upd_ne (ne_of_none q h)]; exact q
/-- all but w is as it was -/
def But (w : Addr) (H H' : Hp) : Prop := ∀ b o, b ≠ w → H b = some o → H' b = some o
theorem But.refl (w : Addr) (H : Hp) : But w H H := fun _ _ _ h => h
theorem But.trans {w : Addr} {H H1 H2 : Hp} (a : But w H H1) (b : But w H1 H2) : But w H H2 := fun c o n h => b c o n (a c o n h)
theorem But.upd {w : Addr} {H : Hp} (o : HO) : But w H (upd H w o) := fun b u n h => by rw [upd_ne n]; exact h
theorem Same.but {w : Addr} {H H' : Hp} (h : Same H H') : But w H H' := fun b o _ e => h b o e
/-- a well: four whole numbers in a list -/
def Well (H : Hp) (w : Addr) : Prop := ∃ a b c d : Int, H w = some (.lst [.int a, .int b, .int c, .int d])
theorem Well.same {H H' : Hp} {w : Addr} (W : Well H w) (s : Same H H') : Well H' w := by
  obtain ⟨a, b, c, d, h⟩ := W
  exact ⟨a, b, c, d, s _ _ h⟩
theorem Well.ne {H : Hp} {w p : Addr} (W : Well H w) (h : H p = none) : p ≠ w := by
  obtain ⟨a, b, c, d, e⟩ := W
  exact (ne_of_none e h).symm
theorem Well.neL {H : Hp} {w p : Addr} {xs : List V} (W : Well H w) (h : H p = some (.tup xs)) : p ≠ w := by
  obtain ⟨a, b, c, d, e⟩ := W
  exact (ne_of e h (by intro z; cases z)).symm
theorem at_mem {ns : List Int} {i : Int} (h0 : 0 ≤ i) (h : i < ns.length) : ∃ z ∈ ns, atI (ns.map V.int) i = some (.int z) := by
  have hk : i.toNat < ns.length := by omega
  have ek : i = ((i.toNat : Nat) : Int) := by omega
  refine ⟨ns[i.toNat], List.getElem_mem hk, ?_⟩
  have q : atI (ns.map V.int) ((i.toNat : Nat) : Int) = some (.int ns[i.toNat]) := atI_nat (by rw [List.getElem?_map, List.getElem?_eq_getElem hk] <;> rfl)
  rwa [← ek] at q
/-- the numbers of ns[lo:hi] -/
def cutL (ns : List Int) (lo hi : Int) : List Int := (ns.drop (HT.sIx ns.length 0 (some lo))).take (HT.sIx ns.length ns.length (some hi) - HT.sIx ns.length 0 (some lo))
theorem cutI (ns : List Int) (lo hi : Int) : cutV (ns.map V.int) (some lo) (some hi) = (cutL ns lo hi).map V.int := by
  unfold cutV cutL
  rw [List.length_map, ← List.map_drop, ← List.map_take]
theorem cutI_len (ns : List Int) (lo hi : Int) : (cutL ns lo hi).length ≤ ns.length := by
  unfold cutL
  rw [List.length_take, List.length_drop]
  omega
theorem int_at {ns : List Int} {i : Nat} {x : V} (h : (ns.map V.int)[i]? = some x) : ∃ c, x = .int c := by
  rw [List.getElem?_map] at h
  cases e : ns[i]? with
  | none => rw [e] at h; cases h
  | some c => rw [e] at h; exact ⟨c, (Option.some.inj h).symm⟩
theorem sz8 {n : Nat} (h : n ≤ 1000) : n ≤ sizeLine := Nat.le_of_lt (small1000 h)

/-! ### the readings, one step at a time (each lemma speaks of a fully applied reading) -/
section
variable {K : PySem.W.Frag} {ta tb tc te : TE} {tA tB' : TT} {t u : TS} {tr : TA} {D : Ends} {σ : L2.St} {H : Hp} {Q : VK} {QB : Bool → Hp → Prop} {QA : List V → Hp → Prop} {v x y z : V} {i j : Nat} {g : TG} {QS : L2.St → Hp → Prop}
theorem w_seq : tSeq t u D σ H = t { D with nx := u D } σ H := rfl
theorem w_next : tNext D σ H = D.nx σ H := rfl
theorem w_ifS : tIfS tA t u D σ H = tA σ H (fun b H1 => if b = true then t D σ H1 else u D σ H1) := rfl
theorem w_ret : tRet te D σ H = te σ H D.rt := rfl
theorem w_retN : tRetN D σ H = D.rt .non H := rfl
theorem w_drop : tDrop te D σ H = te σ H (fun _ H1 => D.nx σ H1) := rfl
theorem w_asg : tAsg te g D σ H = te σ H (fun x H1 => g x σ H1 D.nx) := rfl
theorem w_gName : gName i v σ H QS = QS (σ.set i (some v)) H := rfl
theorem w_gSub {ts : TSet} : gSub ta tb ts v σ H QS = ta σ H (fun o H1 => tb σ H1 (fun i H2 => ts o i v H2 (fun H3 => QS σ H3))) := rfl
theorem w_var : tVar i σ H Q = ∃ v, σ[i]? = some (some v) ∧ Q v H := rfl
theorem w_c : tC v σ H Q = Q v H := rfl
theorem w_op {r : R2} : tOp r ta tb σ H Q = ta σ H (fun x H1 => tb σ H1 (fun y H2 => r x y H2 Q)) := rfl
theorem w_un {r : V → Hp → VK → Prop} : tUn r ta σ H Q = ta σ H (fun x H1 => r x H1 Q) := rfl
theorem w_rU {f : Int → V} : rU f x H Q = ∃ i, x = .int i ∧ Q (f i) H := rfl
theorem w_rI0 {f : Int → Int → V} : rI0 f x y H Q = ∃ i j, x = .int i ∧ y = .int j ∧ Q (f i j) H := rfl
theorem w_rI {C : Int → Int → Prop} {f : Int → Int → V} : rI C f x y H Q = ∃ i j, x = .int i ∧ y = .int j ∧ C i j ∧ Q (f i j) H := rfl
theorem w_test : tTest te σ H QB = te σ H (fun x H' => ∃ k, x = .bl k ∧ QB k H') := rfl
theorem w_b : L2.tB te σ H QB = te σ H (fun x H1 => ∃ c, x = .bl c ∧ QB c H1) := rfl
theorem w_and : tAnd tA tB' σ H QB = tA σ H (fun c H1 => if c = true then tB' σ H1 QB else QB false H1) := rfl
theorem w_or : tOr tA tB' σ H QB = tA σ H (fun c H1 => if c = true then QB true H1 else tB' σ H1 QB) := rfl
theorem w_not : tNot tA σ H QB = tA σ H (fun c H1 => QB (!c) H1) := rfl
theorem w_andV : tAndV ta tb σ H Q = ta σ H (fun x H1 => ∃ c, x = .bl c ∧ if c = true then tb σ H1 Q else Q (.bl false) H1) := rfl
theorem w_orV : tOrV ta tb σ H Q = ta σ H (fun x H1 => ∃ c, x = .bl c ∧ if c = true then Q (.bl true) H1 else tb σ H1 Q) := rfl
theorem w_notV : tNotV ta σ H Q = ta σ H (fun x H1 => ∃ c, x = .bl c ∧ Q (.bl (!c)) H1) := rfl
theorem w_if : tIf tA ta tb σ H Q = tA σ H (fun c H1 => if c = true then ta σ H1 Q else tb σ H1 Q) := rfl
theorem w_cons : tCons ta tr σ H QA = ta σ H (fun x H1 => tr σ H1 (fun xs H2 => QA (x :: xs) H2)) := rfl
theorem w_nil : tNil σ H QA = QA [] H := rfl
theorem w_tup : tTup tr σ H Q = tr σ H (fun xs H1 => xs.length ≤ sizeLine ∧ ∀ p, H1 p = none → Q (.ref p) (L2.upd H1 p (.tup xs))) := rfl
theorem w_lst : tLst tr σ H Q = tr σ H (fun xs H1 => xs.length ≤ sizeLine ∧ ∀ p, H1 p = none → Q (.ref p) (L2.upd H1 p (.lst xs))) := rfl
theorem w_call {sp : Sp} {dvs : List V} {E : XK} : tCall sp dvs E tr σ H Q = tr σ H (fun vs H1 => sp (vs ++ dvs) H1 Q E) := rfl
theorem w_cB {r : List V → Hp → VK → Prop} : tCB r tr σ H Q = tr σ H (fun vs H1 => r vs H1 Q) := rfl
theorem w_eq : rEq x y H Q = (scal x y = true ∧ Q (.bl (decide (x = y))) H) := rfl
theorem w_ne : rNe x y H Q = (scal x y = true ∧ Q (.bl (!decide (x = y))) H) := rfl
theorem w_s1 {a b : Int} : scal (.int a) (.int b) = true := rfl
theorem w_s2 {a b : Bool} : scal (.bl a) (.bl b) = true := rfl
theorem w_s3 {a b : Str} : scal (.str a) (.str b) = true := rfl
theorem w_s4 {a : Int} : scal (.int a) .non = true := rfl
theorem w_s5 {a : Bool} : scal (.bl a) .non = true := rfl
theorem w_isN : tIsN ta σ H Q = ta σ H (fun x H1 => Q (.bl (decide (x = .non))) H1) := rfl
theorem w_notN : tNotN ta σ H Q = ta σ H (fun x H1 => Q (.bl (!decide (x = .non))) H1) := rfl
theorem w_chain {r r' : R2} : tChain r r' ta tb tc σ H Q = ta σ H (fun x H1 => tb σ H1 (fun y H2 => r x y H2 (fun z H3 => ∃ k, z = .bl k ∧ (if k = true then tc σ H3 (fun w' H4 => r' y w' H4 Q) else Q (.bl false) H3)))) := rfl
theorem w_sl {r : V → Option Int → Option Int → Hp → VK → Prop} {tl th : TO} : tSl r te tl th σ H Q = te σ H (fun x H1 => tl σ H1 (fun l H2 => th σ H2 (fun u H3 => r x l u H3 Q))) := rfl
theorem w_part {QO : Option Int → Hp → Prop} : tPart te σ H QO = te σ H (fun x H1 => ∃ i, x = .int i ∧ QO (some i) H1) := rfl
theorem w_noPart {QO : Option Int → Hp → Prop} : tNoPart σ H QO = QO none H := rfl
theorem w_K {CX : CXT} {P : Program} {w : World} {mg : Str → Option Value} {base : Heap} {N : List Str} {qual : Str} {sc : Scope} {f : Addr} {cd : Value} {A : Around} {outer : List Env} {s : Shared} {H : Hp} {E : XK} : (cxOf CX P w K mg base N qual sc f cd A outer s H E).K = K := rfl
/-- the loops, closed -/
def ForL (K : PySem.W.Frag) (a : Addr) (g : TG) (tb : TS) (D : Ends) (σ : L2.St) (H : Hp) : Prop := ∃ W : Nat → Nat → L2.St → Hp → Prop, (∃ m, W 0 m σ H) ∧ ∀ i m σ H, W i m σ H →
  ((Itl K a).stop i H ∧ D.nx σ H) ∨ ((Itl K a).go i H ∧ ∃ N : L2.St → Hp → Prop, (∀ σ' H', N σ' H' → ∃ m', m' < m ∧ W (i + 1) m' σ' H') ∧ ∀ x H', (Itl K a).yld i H x H' → g x σ H' fun σ2 H2 => tb { D with nx := N, ct := N, bk := D.nx } σ2 H2)
def ForR (lo : Int) (n : Nat) (g : TG) (tb : TS) (D : Ends) (σ : L2.St) (H : Hp) : Prop := ∃ W : Nat → Nat → L2.St → Hp → Prop, (∃ m, W 0 m σ H) ∧ ∀ i m σ H, W i m σ H →
  ((Itr lo n).stop i H ∧ D.nx σ H) ∨ ((Itr lo n).go i H ∧ ∃ N : L2.St → Hp → Prop, (∀ σ' H', N σ' H' → ∃ m', m' < m ∧ W (i + 1) m' σ' H') ∧ ∀ x H', (Itr lo n).yld i H x H' → g x σ H' fun σ2 H2 => tb { D with nx := N, ct := N, bk := D.nx } σ2 H2)
theorem w_forL : tFor (iList K ta) g t D σ H = ta σ H (fun x H1 => ∃ a, x = .ref a ∧ (∃ xs, SqL K H1 a xs) ∧ ForL K a g t D σ H1) := rfl
theorem w_for1 : tFor (iRng1 tr) g t D σ H = tr σ H (fun vs H1 => ∃ j : Int, vs = [.int j] ∧ -(2 ^ 62) ≤ j ∧ j < 2 ^ 62 ∧ ForR 0 j.toNat g t D σ H1) := rfl
theorem w_for2 : tFor (iRng2 tr) g t D σ H = tr σ H (fun vs H1 => ∃ i j : Int, vs = [.int i, .int j] ∧ (-(2 ^ 62) ≤ i ∧ i < 2 ^ 62 ∧ -(2 ^ 62) ≤ j ∧ j < 2 ^ 62) ∧ ForR i (j - i).toNat g t D σ H1) := rfl
theorem ForL.by {a : Addr} {xs : List V} (Pv : Nat → L2.St → Hp → Prop) (h0 : Pv 0 σ H) (hl : ∀ i σ H, i ≤ xs.length → Pv i σ H → SqL K H a xs)
    (hs : ∀ i x σ H, xs[i]? = some x → Pv i σ H → g x σ H fun σ2 H2 => t { D with nx := Pv (i + 1), ct := Pv (i + 1), bk := D.nx } σ2 H2) (hd : ∀ σ H, Pv xs.length σ H → D.nx σ H) : ForL K a g t D σ H := for_list Pv h0 hl hs hd
theorem ForR.by {lo : Int} {n : Nat} (Pv : Nat → L2.St → Hp → Prop) (h0 : Pv 0 σ H)
    (hs : ∀ i σ H, i < n → Pv i σ H → g (.int (lo + i)) σ H fun σ2 H2 => t { D with nx := Pv (i + 1), ct := Pv (i + 1), bk := D.nx } σ2 H2) (hd : ∀ σ H, Pv n σ H → D.nx σ H) : ForR lo n g t D σ H := for_range Pv h0 hs hd
theorem ixl {p : Addr} {xs : List V} {k : Int} (hS : SqL K H p xs) (hv : atI xs k = some v) (q : Q v H) : rIxL K (.ref p) (.int k) H Q := ⟨p, xs, k, v, rfl, rfl, hS, hv, q⟩
theorem ixt {p : Addr} {xs : List V} {k : Int} (hS : SqT K H p xs) (hv : atI xs k = some v) (q : Q v H) : rIxT K (.ref p) (.int k) H Q := ⟨p, xs, k, v, rfl, rfl, hS, hv, q⟩
theorem setl {p : Addr} {xs : List V} {k : Int} {QH : Hp → Prop} (h : H p = some (.lst xs)) (hj : ixN xs.length k = some j) (q : QH (L2.upd H p (.lst (xs.set j v)))) : rSetL (.ref p) (.int k) v H QH := ⟨p, xs, k, j, rfl, rfl, h, hj, q⟩
end
end Bw

set_option Elab.async false
set_option linter.all false
set_option maxRecDepth 100000
namespace Bw
open PySem PySem.Spec PyProof.Rows L2

/-! ### is not, of two truths -/
def rIsNotB : R2 := fun x y H Q => ∃ c d : Bool, x = .bl c ∧ y = .bl d ∧ Q (.bl (c != d)) H
theorem w_isnotB {x y : V} {H : Hp} {Q : VK} : rIsNotB x y H Q = ∃ c d : Bool, x = .bl c ∧ y = .bl d ∧ Q (.bl (c != d)) H := rfl

/-! ### range with a step -/
def Itr3 (lo c : Int) (n : Nat) : It := ⟨fun i _ => i < n, fun i H x H' => H' = H ∧ x = .int (lo + i * c), fun i _ => n ≤ i⟩
/-- how many turns -/
def rngN (i j c : Int) : Nat := if i < j then ((j - i - 1) / c + 1).toNat else 0
def iRng3 (ta : TA) : TI := fun σ H R => ta σ H fun vs H1 => ∃ i j c : Int, vs = [.int i, .int j, .int c] ∧ (-(2 ^ 60) ≤ i ∧ i < 2 ^ 60 ∧ -(2 ^ 60) ≤ j ∧ j < 2 ^ 60 ∧ 0 < c ∧ c < 2 ^ 30) ∧ R (Itr3 i c (rngN i j c)) H1
def ForR3 (lo c : Int) (n : Nat) (g : TG) (tb : TS) (D : Ends) (σ : L2.St) (H : Hp) : Prop := ∃ W : Nat → Nat → L2.St → Hp → Prop, (∃ m, W 0 m σ H) ∧ ∀ i m σ H, W i m σ H →
  ((Itr3 lo c n).stop i H ∧ D.nx σ H) ∨ ((Itr3 lo c n).go i H ∧ ∃ N : L2.St → Hp → Prop, (∀ σ' H', N σ' H' → ∃ m', m' < m ∧ W (i + 1) m' σ' H') ∧ ∀ x H', (Itr3 lo c n).yld i H x H' → g x σ H' fun σ2 H2 => tb { D with nx := N, ct := N, bk := D.nx } σ2 H2)
theorem w_for3 {tr : TA} {g : TG} {t : TS} {D : Ends} {σ : L2.St} {H : Hp} : tFor (iRng3 tr) g t D σ H = tr σ H (fun vs H1 => ∃ i j c : Int, vs = [.int i, .int j, .int c] ∧ (-(2 ^ 60) ≤ i ∧ i < 2 ^ 60 ∧ -(2 ^ 60) ≤ j ∧ j < 2 ^ 60 ∧ 0 < c ∧ c < 2 ^ 30) ∧ ForR3 i c (rngN i j c) g t D σ H1) := rfl
theorem ForR3.by {lo c : Int} {n : Nat} {g : TG} {t : TS} {D : Ends} {σ : L2.St} {H : Hp} (Pv : Nat → L2.St → Hp → Prop) (h0 : Pv 0 σ H)
    (hs : ∀ i σ H, i < n → Pv i σ H → g (.int (lo + i * c)) σ H fun σ2 H2 => t { D with nx := Pv (i + 1), ct := Pv (i + 1), bk := D.nx } σ2 H2) (hd : ∀ σ H, Pv n σ H → D.nx σ H) : ForR3 lo c n g t D σ H := by
  refine ⟨fun i m σ H => m = n - i ∧ i ≤ n ∧ Pv i σ H, ⟨n, by simp, Nat.zero_le _, h0⟩, ?_⟩
  rintro i m σ H ⟨rfl, hi, p⟩
  by_cases hlt : i < n
  · refine .inr ⟨hlt, Pv (i + 1), fun σ' H' p' => ⟨n - (i + 1), by omega, rfl, hlt, p'⟩, fun x H' y => ?_⟩
    obtain ⟨e, y⟩ := y
    subst e y
    exact hs i σ _ hlt p
  · have e : i = n := by omega
    subst e
    exact .inl ⟨Nat.le_refl _, hd σ H p⟩

/-! ### quiet hours -/
def quietB (s e t : Int) : Bool := if s < e then decide (s ≤ t) && decide (t < e) else decide (s ≤ t) || decide (t < e)
structure QOk (H : Hp) (p : Addr) (s e : Int) : Prop where
  at_ : H p = some (.tup [.int s, .int e])
  s0 : 0 ≤ s
  s1 : s ≤ 1439
  e0 : 0 ≤ e
  e1 : e ≤ 1439
  ne : s ≠ e
theorem QOk.same {H H' : Hp} {p : Addr} {s e : Int} (q : QOk H p s e) (h : Same H H') : QOk H' p s e := ⟨h _ _ q.at_, q.s0, q.s1, q.e0, q.e1, q.ne⟩
theorem QOk.but {H H' : Hp} {w p : Addr} {s e : Int} (q : QOk H p s e) (W : Well H w) (h : But w H H') : QOk H' p s e := ⟨h _ _ (W.neL q.at_) q.at_, q.s0, q.s1, q.e0, q.e1, q.ne⟩
theorem quietB_len {s e t : Int} (s0 : 0 ≤ s) (s1 : s ≤ 1439) (e0 : 0 ≤ e) (e1 : e ≤ 1439) (ne : s ≠ e) (t0 : 0 ≤ t) (t1 : t < 1440) : quietB s e t = decide ((t - s) % 1440 < (e - s) % 1440) := by
  unfold quietB
  rw [Bool.eq_iff_iff]
  by_cases h : s < e
  · rw [if_pos h]
    simp only [Bool.and_eq_true, decide_eq_true_eq]
    omega
  · rw [if_neg h]
    simp only [Bool.or_eq_true, decide_eq_true_eq]
    omega
/-- the marks behind k steps; f: what a mark is -/
def marksK (f : Bool → V) (s k : Int) : List V := (List.range 1440).map fun (t : Nat) => f (decide (((t : Int) - s) % 1440 < k))
end Bw

set_option Elab.async false
set_option linter.all false
set_option maxRecDepth 100000
namespace Bw
open PySem PySem.Spec PyProof.Rows L2

/-! ### refusals: how one flies -/
abbrev vbm : List Value := [.type "ValueError", .type "Exception", .type "BaseException", .type "object"]
theorem obj_at {P : Program} {w : World} {H : Hp} {h : Heap} {a : Addr} {o : HO} (x : ObjOk P w H h a o) : ∃ ob, h.get? a = some ob := by
  cases o with
  | lst xs => exact ⟨_, x.2.choose_spec.choose_spec.2⟩
  | tup xs => exact let ⟨_, _, _, ob, e, _⟩ := x; ⟨ob, e⟩
  | dK kvs => exact let ⟨_, _, _, _, ob, _, _, e, _⟩ := x; ⟨ob, e⟩
  | dT kvs => exact let ⟨_, _, _, _, ob, _, _, e, _⟩ := x; ⟨ob, e⟩
  | set S n => exact let ⟨ob, _, _, _, e, _⟩ := x; ⟨ob, e⟩
  | ins C dx fs => exact let ⟨_, _, _, e, _⟩ := x; ⟨_, e⟩
  | own y => exact x
  | xd fs => exact let ⟨_, ⟨ob, _, _, e, _⟩, _⟩ := x; ⟨ob, e⟩
  | rng lo hi => exact let ⟨_, _, _, e⟩ := x; ⟨_, e⟩
  | frz ob u => exact ⟨ob, x.1⟩
  | tbl ps => exact ⟨_, show h.get? a = some _ from x⟩
  | met f y => exact ⟨_, show h.get? a = some _ from x⟩
  | ext φ => exact x.2.1

/-- behind a call a refusal flies: its class, the abstract heap; all that matters stands in B and stays -/
def CXF (P : Program) (w : World) : CXT := fun outer H s E e s' =>
  ∃ (x : Addr) (cls a0 : Value) (H' : Hp) (B : Heap), e = .ref x ∧ s'.os = s.os ∧ AllBare s'.gens ∧ Un (frs outer) [] H H' s.heap s'.heap ∧ HOk P w H' s'.heap ∧ Heap.FlyingW B outer x cls a0 s'.heap ∧
    (∀ b u, H' b = some u → ∃ o, B.get? b = some o) ∧ (∀ b o, s.heap.get? b = some o → H b = none → b ∉ frs outer → B.get? b = some o) ∧ (∀ b o, s.heap.get? b = some o → b ∉ frs outer → ∃ o', B.get? b = some o') ∧ E cls none H'

/-- a step of the flight: what stands in B stays, the frames but for their slots -/
theorem ride {P : Program} {w : World} {outer : List Env} {H H' : Hp} {h0 g h2 B : Heap} (un : Un (frs outer) [] H H' h0 g) (hok : HOk P w H' g) (sg : B.StaysIn g) (fr : g.FunFrames B outer)
    (cT : ∀ b u, H' b = some u → ∃ o, B.get? b = some o) (cO : ∀ b o, h0.get? b = some o → H b = none → b ∉ frs outer → B.get? b = some o) (cA : ∀ b o, h0.get? b = some o → b ∉ frs outer → ∃ o', B.get? b = some o')
    (sh : B.StaysIn h2) (up : g.UpToSlots h2) : Un (frs outer) [] H H' h0 h2 ∧ HOk P w H' h2 := by
  have nf : ∀ b ∈ frs outer, ∀ o, g.get? b = some o → ∀ vs, o.data ≠ .fields vs := fun b hb o ho vs hd => by
    obtain ⟨_, o', ho', hn⟩ := fr.mem hb
    rw [ho] at ho'
    cases ho'
    exact hn vs hd
  refine ⟨⟨fun b o q n hb _ => sh b o (cO b o q n hb), fun b o q n hb hx => ?_, un.free, fun b o q hx => ?_, un.tups, un.frzs, un.tbls⟩, fun b u e => ?_⟩
  · obtain ⟨sl, e1⟩ := un.slot b o q n hb hx
    obtain ⟨sl2, e2⟩ := up b _ e1 (nf b hb _ e1)
    exact ⟨sl2, e2⟩
  · by_cases hb : b ∈ frs outer
    · obtain ⟨o', e1⟩ := un.there b o q hx
      obtain ⟨sl2, e2⟩ := up b _ e1 (nf b hb _ e1)
      exact ⟨_, e2⟩
    · obtain ⟨o', e1⟩ := cA b o q hb
      exact ⟨o', sh _ _ e1⟩
  · refine (hok b u e).stay (fun c v hc r => ?_) (fun _ q => q) fun _ _ q => q
    have tr : ∃ u', H' c = some u' := by
      rcases hc with rfl | hc
      · exact ⟨_, e⟩
      · exact ⟨_, hc⟩
    obtain ⟨u', hu⟩ := tr
    obtain ⟨o', e1⟩ := cT c u' hu
    have e2 := sg _ _ e1
    rw [r] at e2
    cases e2
    exact sh _ _ e1

section
variable {X : Cx} {pins : List (Addr × Obj)} {σ : L2.St} {H H' : Hp} {s : Shared} {h2 B : Heap}
/-- out of a body -/
theorem out_of (I : Inv X pins σ H s) (hex : X.ex = []) (un : Un (frs X.stack) [] H H' s.heap h2)
    (cO : ∀ b o, s.heap.get? b = some o → H b = none → b ∉ frs X.stack → B.get? b = some o) (cA : ∀ b o, s.heap.get? b = some o → b ∉ frs X.stack → ∃ o', B.get? b = some o') :
    Un (frs X.outer) [] X.H₀ H' X.s₀.heap h2 ∧ (∀ b o, X.s₀.heap.get? b = some o → X.H₀ b = none → b ∉ frs X.outer → B.get? b = some o) ∧ ∀ b o, X.s₀.heap.get? b = some o → b ∉ frs X.outer → ∃ o', B.get? b = some o' := by
  have nx : ∀ b : Addr, b ∉ X.ex := fun b z => by rw [hex] at z; cases z
  have nl : ∀ b o, X.s₀.heap.get? b = some o → b ∉ frs X.outer → b ∉ frs X.stack := fun b o q hb z => by
    rcases List.mem_cons.mp (I.stkSub b z) with e | e
    · exact absurd (Nat.lt_of_lt_of_le (Heap.lt_size q) I.ok.above) (by rw [e]; exact Nat.lt_irrefl _)
    · exact hb e
  have ne : ∀ b : Addr, b ∉ ([] : List Addr) := fun b => by simp
  refine ⟨⟨fun b o q n hb _ => ?_, fun b o q n hb _ => ?_, fun b o q n _ => ?_, fun b o q _ => ?_, fun b xs q => un.tups b xs (I.base.tups b xs q), fun b o u q => un.frzs b o u (I.base.frzs b o u q), fun b ps q => ?_⟩, fun b o q n hb => ?_, fun b o q hb => ?_⟩
  · exact un.keep b o (I.base.keep b o q n hb (nx b)) (I.base.free b o q n (nx b)) (nl b o q hb) (ne b)
  · obtain ⟨sl, e1⟩ := I.base.slot b o q n hb (nx b)
    obtain ⟨sl2, e2⟩ := un.any e1 (I.base.free b o q n (nx b)) (ne b)
    exact ⟨sl2, e2⟩
  · obtain ⟨o', e1⟩ := I.base.there b o q (nx b)
    exact un.free b o' e1 (I.base.free b o q n (nx b)) (ne b)
  · obtain ⟨o', e1⟩ := I.base.there b o q (nx b)
    exact un.there b o' e1 (ne b)
  · obtain ⟨m1, e1⟩ := I.base.tbls b ps q
    obtain ⟨m2, e2⟩ := un.tbls b _ e1
    exact ⟨m1 ++ m2, by rw [e2, Array.append_assoc]⟩
  · exact cO b o (I.base.keep b o q n hb (nx b)) (I.base.free b o q n (nx b)) (nl b o q hb)
  · obtain ⟨o', e1⟩ := I.base.there b o q (nx b)
    exact cA b o' e1 (nl b o q hb)

/-- a refusal made in a body leaves it -/
theorem raised_out {h' : Heap} {e : Addr} {cls : Value} {args : List Value} {E : XK} {F : Value → Shared → Prop} (I : Inv X pins σ H s) (hst : X.stack = X.env :: X.outer) (hf : X.env.frame = some X.env.locals) (hex : X.ex = [])
    (hx : Heap.MadeExcOf s.heap h' e cls args) (hE : E cls none H) :
    wpAny (model X.prog X.w) X.A (leaving X.env (.ref e)) (fun _ s'' => CXF X.prog X.w X.outer X.H₀ X.s₀ E (.ref e) s'') F { s with heap := h' } := by
  have hin : ∀ env ∈ X.stack, ∀ a, env.frame = some a → a ∈ frs X.stack := fun env he a ha => List.mem_filterMap.mpr ⟨env, he, ha⟩
  have hl : s.heap.FunFrames (PySem.W.hideAll s.heap (frs X.stack)) X.stack := PySem.W.funFrames_hide I.stack hin
  have hkb : (PySem.W.hideAll s.heap (frs X.stack)).StaysIn s.heap := fun b o q => PySem.W.of_hideAll _ q
  refine wpAny_leaves_madeW (base := PySem.W.hideAll s.heap (frs X.stack)) (h := s.heap) (outer := X.outer) (L := X.env.locals) (by rw [← hst]; exact I.ok.frames) hf hkb (by rw [← hst]; exact hl) hx fun h2 t fl tup tn up => ?_
  have cT : ∀ b u, H b = some u → ∃ o, (PySem.W.hideAll s.heap (frs X.stack)).get? b = some o := fun b u q => by
    obtain ⟨o, ho⟩ := obj_at (I.hok b u q)
    exact ⟨o, PySem.W.hideAll_get _ ho fun z => by rw [I.stkFree b z] at q; cases q⟩
  have cO : ∀ b o, s.heap.get? b = some o → H b = none → b ∉ frs X.stack → (PySem.W.hideAll s.heap (frs X.stack)).get? b = some o := fun b o q _ hb => PySem.W.hideAll_get _ q hb
  have cA : ∀ b o, s.heap.get? b = some o → b ∉ frs X.stack → ∃ o', (PySem.W.hideAll s.heap (frs X.stack)).get? b = some o' := fun b o q hb => ⟨o, PySem.W.hideAll_get _ q hb⟩
  obtain ⟨un, hok⟩ := ride (P := X.prog) (w := X.w) (H := H) (H' := H) (h0 := s.heap) (g := s.heap) Un.refl I.hok hkb hl cT cO cA fl.1 ((Heap.UpToSlots.of_keeps hx.keeps).trans up)
  obtain ⟨un2, cO2, cA2⟩ := out_of I hex un cO cA
  exact ⟨e, cls, _, H, _, rfl, I.os, I.bare, un2, hok, fl, cT, cO2, cA2, hE⟩

/-- a refusal of a callee leaves the body, too -/
theorem passed_out {s' : Shared} {e : Value} {E : XK} {F : Value → Shared → Prop} (I : Inv X pins σ H s) (hst : X.stack = X.env :: X.outer) (hf : X.env.frame = some X.env.locals) (hex : X.ex = [])
    (hx : CXF X.prog X.w X.stack H s E e s') :
    wpAny (model X.prog X.w) X.A (leaving X.env e) (fun _ s'' => CXF X.prog X.w X.outer X.H₀ X.s₀ E e s'') F s' := by
  obtain ⟨x, cls, a0, H', B, rfl, os, bare, un, hok, fl, cT, cO, cA, hE⟩ := hx
  have fl' := fl
  rw [hst] at fl'
  refine wpAny_leaves_onW (base := B) (outer := X.outer) (by rw [← hst]; exact I.ok.frames) hf fl' fun h2 fl2 up => ?_
  obtain ⟨un1, hok1⟩ := ride (P := X.prog) (w := X.w) un hok fl.1 fl.2.2.1 cT cO cA fl2.1 up
  obtain ⟨un2, cO2, cA2⟩ := out_of I hex un1 cO cA
  exact ⟨x, cls, a0, H', B, rfl, os.trans I.os, bare, un2, hok1, fl2, cT, cO2, cA2, hE⟩
end

/-- the context of a body that may refuse -/
abbrev cxX (P : Program) (w : World) (K : PySem.W.Frag) (mg : Str → Option Value) (base : Heap) (N : List Str) (qual : Str) (sc : Scope) (f : Addr) (cdv : Value) (A : Around) (outer : List Env) (s : Shared) (H : Hp) (E : XK) : Cx :=
  cxOf (CXF P w) P w K mg base N qual sc f cdv A outer s H E
section
variable {P : Program} {w : World} {K : PySem.W.Frag} {mg : Str → Option Value} {base : Heap} {N : List Str} {qual : Str} {sc : Scope} {f : Addr} {cdv : Value} {A : Around} {outer : List Env} {s : Shared} {H : Hp} {E : XK}
theorem passX : Passes (CXF P w) (cxX P w K mg base N qual sc f cdv A outer s H E) E := fun pins σ H1 s1 e s' I hx => passed_out I rfl rfl rfl hx
theorem raiseX {pins : List (Addr × Obj)} {σ : L2.St} {H1 : Hp} {s1 : Shared} {h' : Heap} {e : Addr} {cls : Value} {args : List Value} (I : Inv (cxX P w K mg base N qual sc f cdv A outer s H E) pins σ H1 s1)
    (hx : Heap.MadeExcOf s1.heap h' e cls args) (hE : E cls none H1) : (cxX P w K mg base N qual sc f cdv A outer s H E).xe (.ref e) { s1 with heap := h' } := raised_out I rfl rfl rfl hx hE
theorem pass00 {X : Cx} : Passes (CXF P w) X E0 := fun pins σ H1 s1 e s' I hx => by
  obtain ⟨_, _, _, _, _, _, _, _, _, _, _, _, _, _, hE⟩ := hx
  exact hE.elim
theorem FnOk.up {k : Nat} {fd : FuncData} {ps : List Str} {sp : Sp} {CX : CXT} (F : FnOk P w K mg base CX0 k f fd ps sp) : FnOk P w K mg base CX k f fd ps sp :=
  ⟨F.len, fun A outer s H args us vs Q E hr he hb hv hs => codeAny_mono (F.run A outer s H args us vs Q E hr he hb hv hs) fun r s' q => by
    cases r with
    | ok fl => cases fl <;> exact q
    | error e => exact (show False from q).elim⟩
theorem Fun.okX {x qual : Str} {st : Stmt} {fd : FuncData} {ps : List Str} {k : Nat} {sp : Sp} (F : Fun K x qual st f fd) (S : FnScope N ps (defScope st)) (len : ∀ vs H Q E, sp vs H Q E → vs.length = ps.length)
    (hbody : ∀ (cdv : Value) (A : Around) (outer : List Env) (s : Shared) (H : Hp) (vs : List V) (Q : VK) (E : XK), Room k (A.deeper (envOfC qual (defScope st) s.heap.objs.size f cdv)) → sp vs H Q E →
      ∃ t, PSs (cxX P w K mg base N qual (defScope st) f cdv A outer s H E) (defBody st) t ∧ t { nx := fun _ H' => Q .non H', rt := Q } (L2.start N vs) H) : FnOk P w K mg base (CXF P w) (k + 1) f fd ps sp := by
  obtain ⟨oc, od, kV, doc, pm, an, cdv, ct, osl, rfl, lk, hcd⟩ := F.ex
  exact fn_of lk hcd S len fun A outer s H vs Q E hr hsp => hbody cdv A outer s H vs Q E hr hsp
end

/-! ### raise C("..") -/
theorem own_obj {K : PySem.W.Frag} {h : Heap} {C : Addr} {bmB : List Value} {nw : String} (Z : K.In h) (q : PySem.W.excIn K C bmB nw = true) :
    ∃ bm N nm qn bs hd sn sub ab col dd k0 k1 k2 k3 k5 mN, h.get? C = some (excClassObj nm qn C N bs bm hd sn sub ab col dd k0 k1 k2 k3 k5 nw) ∧ h.Ns N mN ∧ mN "__init__" = none ∧ OwnTail h bmB bm := by
  unfold PySem.W.excIn at q
  split at q
  · rename_i dd cd sl lk
    split at q
    · rename_i C' bm k0 k1 k2 k3 n k5 hm hs
      simp only [Bool.and_eq_true, beq_iff_eq, Bool.not_eq_true'] at q
      obtain ⟨⟨⟨⟨⟨z1, z2⟩, z3⟩, z4⟩, z5⟩, z6⟩ := q
      subst z1 z2
      obtain ⟨nm, bs, mro, ns, qn, hd, sn, sub, ab, col, del⟩ := cd
      dsimp only at hm z3 z5 z6
      subst hm z3
      obtain ⟨l⟩ := sl
      dsimp only at hs
      subst hs
      exact ⟨bm, ns, nm, qn, bs, hd, sn, sub, ab, col, dd, k0, k1, k2, k3, k5, h.nsMap ns, Z _ _ lk, .of_isNs (PySem.W.isNs_of_in Z z5), PySem.W.nsMap_none_of_in Z z5 z6, PySem.W.tail_of_in Z z4⟩
    · exact absurd q Bool.false_ne_true
  · exact absurd q Bool.false_ne_true

def tRaise (R : Hp → Prop) : TS := fun _ _ H => R H
theorem ps_raise {X : Cx} {x : Str} {C : Addr} {m : Str} {j : Nat} {np ap cpos pos : Pos} {R : Hp → Prop} (hc : X.calm = true) (hg : Gl X x) (hm : X.mg x = some (.ref C)) (q : PySem.W.excIn X.K C vbm "ValueError.__new__" = true)
    (hxe : ∀ pins σ H s h' e args, Inv X pins σ H s → Heap.MadeExcOf s.heap h' e (.ref C) args → R H → X.xe (.ref e) { s with heap := h' }) (hd : (x == ("__debug__" : Str)) = false := by decide) :
    PS X (.Raise (some (.Call (.Name x np) [.Constant (.str m) j ap] [] cpos)) none pos) (tRaise R) := by
  intro pins s σ H D I h
  obtain ⟨bm, N, nm, qn, bs, hd', sn, sub, ab, col, dd, k0, k1, k2, k3, k5, mN, hC, hN, hni, T⟩ := own_obj I.kIn q
  refine wpAny_Raise_call_subT (C := C) (nm := nm) (q := qn) (N := N) (bs := bs) (bm := bm) (hdct := hd') (sn := sn) (sub := sub) (ab := ab) (col := col) (dd := dd) (k0 := k0) (k1 := k1) (k2 := k2) (k3 := k3) (k5 := k5) PySem.F.excBase_ValueError (mN := mN) (T.hasType PySem.F.excBase_ValueError.hasBase) (I.ok.hd hc) rfl hni (ld_glob I hg hm ⟨rfl, ?_⟩ hd)
  refine Calls.evalArgs_plain (Calls.spliced_cons (Calls.Constant_str (k := j) (pos := ap) (Calls.spliced_nil ?_)))
  exact ⟨rfl, sz8 (show 1 ≤ 1000 by decide), hC, hN, T, fun h' e hm => hxe pins σ H _ h' e _ (I.tok _) hm h⟩

/-! ### try: f(..) except C as n: .. -/
section
variable {X : Cx} {pins : List (Addr × Obj)} {σ : L2.St} {H H' : Hp} {s : Shared}
/-- the context of an except suite -/
abbrev cxE (X : Cx) (v : Value) : Cx := { X with A := X.A.mark (some v), calm := false }
theorem inv_mark (I : Inv X pins σ H s) (v : Value) : Inv (cxE X v) pins σ H s :=
  ⟨⟨I.ok.mod, I.ok.kind, I.ok.glob, I.ok.blt, I.ok.above, I.ok.inj, I.ok.has, I.ok.cab, (fun z => nomatch z), I.ok.frames, I.ok.stk, I.ok.exf, I.ok.bs, I.ok.bsz, I.ok.noex, I.ok.exfs, I.ok.funs, I.ok.frf⟩, I.os, I.bare, I.base, I.loc, I.cell, I.free, I.freeC, I.pin, I.hok, I.len⟩
theorem inv_unmark {v : Value} (ok : X.Ok) (I : Inv (cxE X v) pins σ H s) : Inv X pins σ H s :=
  ⟨ok, I.os, I.bare, I.base, I.loc, I.cell, I.free, I.freeC, I.pin, I.hok, I.len⟩
/-- the name behind `as` goes -/
theorem goes {M : Model} {A : Around} {E : Value → Shared → Prop} {n : Str} {i : Nat} {pos : Pos} {Q : Unit → Shared → Prop} (I : Inv X pins σ H s) (hN : X.N.Nodup) (hi : X.N[i]? = some n) (hl : X.env.kindOf n = some .local)
    (h : ∀ s', Inv X pins (σ.set i none) H s' → Q () s') : wpAny M A (do bindName X.env n .none; unbindBehindTheSuite X.env n pos) Q E s := by
  obtain ⟨m, hn, hl'⟩ := id I.loc
  have hiσ : i < σ.length := by rw [I.len]; exact (List.getElem?_eq_some_iff.mp hi).1
  refine wpAny_nameGoes_keeps hl hn (by rw [I.ok.kind]; rfl) fun h' v hn' hs => h _ ?_
  have ltL : ∀ b o, X.s₀.heap.get? b = some o → b ≠ X.env.locals := fun b o e => Nat.ne_of_lt (Nat.lt_of_lt_of_le (Heap.lt_size e) I.ok.above)
  have hok : HOk X.prog X.w H h' := fun b ob e => by
    refine (I.hok b ob e).stay (fun c w' hc q => (hs.2 c ?_).trans q) (fun _ q => q) fun _ _ q => q
    intro z
    rcases hc with y | y
    · rw [← y, z, I.free] at e; cases e
    · rw [z, I.free] at y; cases y
  refine ⟨I.ok, I.os, I.bare, ⟨fun b o e k hb hx => ?_, fun b o e k hb hx => ?_, I.base.free, fun b o e hx => ?_, I.base.tups, I.base.frzs, I.base.tbls⟩, ⟨_, hn', fun j y v' e1 e2 e3 => ?_⟩, fun y c e => ?_, I.free, I.freeC, fun p hp => ?_, hok, ?_⟩
  · exact (hs.2 b (ltL b o e)).trans (I.base.keep b o e k hb hx)
  · obtain ⟨sl, q⟩ := I.base.slot b o e k hb hx
    exact ⟨sl, (hs.2 b (ltL b o e)).trans q⟩
  · obtain ⟨o', q⟩ := I.base.there b o e hx
    exact ⟨o', (hs.2 b (ltL b o e)).trans q⟩
  · by_cases hj : j = i
    · rw [hj, List.getElem?_set_self hiσ] at e2
      cases e2
    · rw [List.getElem?_set_ne (Ne.symm hj)] at e2
      obtain ⟨u, r, q⟩ := hl' j y v' e1 e2 e3
      refine ⟨u, r, ?_⟩
      rcases q with ⟨k, e⟩ | ⟨k, c, e, z⟩
      · have ny : y ≠ n := fun z => hj (nodup_ix hN e1 (z ▸ hi))
        exact .inl ⟨k, by show (if y = n then v else m y) = some u; rw [if_neg ny]; exact e⟩
      · exact .inr ⟨k, c, e, z.sameBut hs (I.cne y c e)⟩
  · obtain ⟨w', z⟩ := I.cell y c e
    exact ⟨w', z.sameBut hs (I.cne y c e)⟩
  · obtain ⟨e, k, ne, nf, d⟩ := I.pin p hp
    exact ⟨(hs.2 p.1 ne).trans e, k, ne, nf, d⟩
  · rw [List.length_set]; exact I.len

/-- a refusal that was caught: its class -/
def excAt (x : Addr) (cls : Value) (h : Heap) : Prop := ∃ ob, h.get? x = some ob ∧ ob.cls = cls
def hoExc (x : Addr) (cls : Value) : HO := .ext (excAt x cls)
def tTry (K : PySem.W.Frag) (CB : Addr) (i : Nat) (sp : Sp) (t : TA) (ts : TS) : TS := fun D σ H => t σ H fun vs H1 => sp vs H1 (fun _ H2 => D.nx σ H2) fun cls _ H2 => PySem.W.exmOne K cls (.ref CB) = some true ∧
  ∀ x, H2 x = none → ts { nx := fun σ' H3 => D.nx (σ'.set i none) H3, rt := D.rt, bk := fun σ' H3 => D.bk (σ'.set i none) H3, ct := fun σ' H3 => D.ct (σ'.set i none) H3 } (σ.set i (some (.ref x))) (L2.upd H2 x (hoExc x cls))
theorem ps_tryCall {x cn n : Str} {i k : Nat} {f CB : Addr} {fd : FuncData} {ps : List Str} {sp : Sp} {e : Expr} {es : List Expr} {t : TA} {b₀ : Stmt} {suite : List Stmt} {ts : TS} {p pos pos' cp hpos tpos : Pos}
    (hst : X.stack = X.env :: X.outer) (hf : X.env.frame = some X.env.locals) (hnx : ∀ v s, ¬ X.xe v s)
    (F : FnOk X.prog X.w X.K X.mg X.base (CXF X.prog X.w) k f fd ps sp) (hr : Room k X.A) (hg : Gl X x) (hm : X.mg x = some (.ref f)) (hk : PySem.W.keepIn X.K (.ref f) = true) (hb : Binds X.K fd ps []) (ha : PA X (e :: es) t)
    (hgC : Gl X cn) (hmC : X.mg cn = some (.ref CB)) (hN : X.N.Nodup) (hi : X.N[i]? = some n) (hl : X.env.scope.names.lookup n = some .local) (hs : ∀ v : Value, PSs (cxE X v) (b₀ :: suite) ts)
    (hdb : (x == ("__debug__" : Str)) = false := by decide) (hdc : (cn == ("__debug__" : Str)) = false := by decide) (he : starEach (e :: es) X.env = (false, eval e X.env) :: starEach es X.env := by rfl) (hpl : (backTo pos (starEach es X.env)).any (·.1) = false := by rfl)
    (hsw : swapsWith (.Call (.Name x p) (e :: es) [] pos) none pos'.line X.env = pure false := by rfl) :
    PS X (.Try [.Expr (.Call (.Name x p) (e :: es) [] pos) pos'] [.ExceptHandler (some (.Name cn cp)) (some n) (b₀ :: suite) hpos] [] [] tpos) (tTry X.K CB i sp t ts) := by
  intro pins s σ H D I h
  refine wpAny_Try_except (wpAny_execs_cons (wpAny_Expr_any ?_ I.quiet hsw))
  refine wpAny_Call_Name_kw (ld_glob I hg hm ?_ hdb)
  refine PySem.W.callWith_K (h₀ := X.base) I.ok.mod.kin hk (wpAny_mono (ha pos pins s σ H _ I h) (fun us s1 q1 => ?_) fun _ _ z => (hnx _ _ z).elim) he hpl
  obtain ⟨vs, H1, I1, r, q⟩ := q1
  refine ⟨I1.kIn, ?_⟩
  have hlen : us.length = ps.length := by rw [← r.length]; exact F.len _ _ _ _ q
  have hbind := hb s1 us I1.kIn (by rw [List.append_nil]; exact hlen)
  rw [List.append_nil] at hbind
  refine wpAny_call (codeAny_mono (F.run X.A X.stack s1 H1 ⟨us, []⟩ us vs _ _ hr I1.env0 hbind r q) fun res s' hq => ?_)
  cases res with
  | ok fl =>
    cases fl with
    | ret u =>
      obtain ⟨v, H2, I2, _, q2⟩ := I1.after hq
      exact wpAny_execs_nil (wpAny_execs_nil ⟨σ, H2, I2, q2⟩)
    | next => exact False.elim hq
    | brk => exact False.elim hq
    | cont => exact False.elim hq
  | error ev =>
    obtain ⟨x', cls, a0, H2, B, rfl, os, bare, un, hok, fl, cT, cO, cA, hm1, hE⟩ := hq
    have fl' := fl
    rw [hst] at fl'
    refine wpAny_looks_onW (base := B) (outer := X.outer) (L := X.env.locals) (by rw [← hst]; exact I1.ok.frames) hf fl' fun h4 held4 up4 => ?_
    refine wpAny_landsW held4 fun h5 fl5 up5 => ?_
    rw [← hst] at fl5
    obtain ⟨un5, hok5⟩ := ride (P := X.prog) (w := X.w) un hok fl.1 fl.2.2.1 cT cO cA fl5.1 (up4.trans up5)
    have I5 : Inv X pins σ H2 { s' with heap := h5 } := I1.call' (s' := { s' with heap := h5 }) (ch := []) os un5 hok5 bare (fun b z => absurd z (by simp))
    have X5 := inv_mark I5 (.ref x')
    have ty5 : PySem.W.Looks (model X.prog X.w) h5 (typeOf (.ref x')) cls := by
      obtain ⟨ob, hob, hc⟩ := fl5.there
      subst hc
      exact (PySem.W.Looks.ld hob).andThen .now
    refine wpAny_handleBy_cons (codeAny_handlers_test (ld_glob X5 hgC hmC ((PySem.W.exm_one I5.kIn ty5 hm1).here ?_) hdc)) (by intro z; cases z)
    refine codeAny_handlers_suite_as ?_
    refine lands_againW fl5 fun h6 fl6 up6 => ?_
    obtain ⟨un6, hok6⟩ := ride (P := X.prog) (w := X.w) un5 hok5 fl5.1 fl5.2.2.1 cT cO cA fl6.1 up6
    obtain ⟨ob, hob, hcl⟩ := fl6.there
    have nH : H2 x' = none := by
      cases z : H2 x' with
      | none => rfl
      | some u =>
        obtain ⟨o, ho⟩ := cT x' u z
        rw [fl.2.1] at ho
        cases ho
    have nS : ∀ o, s1.heap.get? x' ≠ some o := fun o ho => by
      by_cases hx' : x' ∈ frs X.stack
      · obtain ⟨_, o', ho', hn'⟩ := fl6.2.2.1.mem hx'
        obtain ⟨oe, ws, hoe, _, hoed, _⟩ := fl6.first
        rw [hoe] at ho'
        cases ho'
        exact hn' _ hoed
      · obtain ⟨o', ho'⟩ := cA x' o ho hx'
        rw [fl.2.1] at ho'
        cases ho'
    have hT : ∀ b u, H2 b = some u → L2.upd H2 x' (hoExc x' cls) b = some u := fun b u z => by rw [upd_ne (ne_of_none z nH)]; exact z
    have un7 : Un (frs X.stack) [] H1 (L2.upd H2 x' (hoExc x' cls)) s1.heap h6 :=
      ⟨un6.keep, un6.slot, fun b o q n hx => by
        have nb : b ≠ x' := fun z => nS o (by rw [← z]; exact q)
        rw [upd_ne nb]
        exact un6.free b o q n hx, un6.there, fun b xs z => hT _ _ (un6.tups b xs z), fun b o u z => hT _ _ (un6.frzs b o u z), fun b ps z => by
        obtain ⟨m1, e1⟩ := un6.tbls b ps z
        exact ⟨m1, hT _ _ e1⟩⟩
    have hok7 : HOk X.prog X.w (L2.upd H2 x' (hoExc x' cls)) h6 := fun b u z => by
      by_cases hbx : b = x'
      · subst hbx
        rw [upd_same] at z
        cases z
        exact ⟨⟨ob, hob, hcl⟩, ⟨ob, hob⟩, fun h1 h2 ⟨o1, q1, q2⟩ k => ⟨o1, k _ q1, q2⟩⟩
      · rw [upd_ne hbx] at z
        exact (hok6 b u z).stay (fun _ _ _ q => q) (fun c q => hT _ _ q) fun c xs q => hT _ _ q
    have I6 : Inv X pins σ (L2.upd H2 x' (hoExc x' cls)) { s' with heap := h6 } := I1.call' (s' := { s' with heap := h6 }) (ch := []) os un7 hok7 bare (fun b z => absurd z (by simp))
    refine store_ok (X := cxE X (.ref x')) (inv_mark I6 (.ref x')) hN hi (.inl hl) (v := .ref x') rfl (fun s7 I7 => ?_) (.inr hl)
    refine wpAny_mono (hs (.ref x') pins s7 _ _ _ I7 (hE x' nH)) (fun f8 s8 q8 => ?_) fun _ _ z => (hnx _ _ z).elim
    cases f8 with
    | next =>
      obtain ⟨σ8, H8, I8, q8⟩ := q8
      exact goes (inv_unmark I1.ok I8) hN hi hl fun s9 I9 => ⟨_, H8, I9, q8⟩
    | brk =>
      obtain ⟨σ8, H8, I8, q8⟩ := q8
      exact goes (inv_unmark I1.ok I8) hN hi hl fun s9 I9 => ⟨_, H8, I9, q8⟩
    | cont =>
      obtain ⟨σ8, H8, I8, q8⟩ := q8
      exact goes (inv_unmark I1.ok I8) hN hi hl fun s9 I9 => ⟨_, H8, I9, q8⟩
    | ret u =>
      obtain ⟨v, σ8, H8, I8, r8, q8⟩ := q8
      exact goes (inv_unmark I1.ok I8) hN hi hl fun s9 I9 => ⟨v, _, H8, I9, r8, q8⟩
end
end Bw

set_option Elab.async false
set_option linter.all false
set_option maxRecDepth 100000
set_option maxHeartbeats 400000
namespace Bw
open PySem PySem.Spec PyProof.Rows L2

/-! ### the class of a refusal that was caught, as isinstance asks it -/
section
variable {prog : Program} {w : World} {A : Around} {E : Value → Shared → Prop} {K : PySem.W.Frag} {h : Heap} {g : Array GenState} {d : Drawn} {t : Nat} {os : OsState} {x C : Addr}
structure ExcK (K : PySem.W.Frag) (C : Addr) : Prop where
  ga : PySem.W.findIn K (.ref C) "__getattribute__" = some (some (.builtin "BaseException.__getattribute__"))
  gt : PySem.W.findIn K (.ref C) "__getattr__" = some none
  cl : PySem.W.findIn K (.ref C) "__class__" = some (some (.builtin "object.__class__"))
  mB : PySem.W.mroIn K C (.type "BaseException") = some true
  mO : PySem.W.mroIn K C (.type "object") = some true
  cls : (PySem.W.clsIn K C).isSome = true
theorem exc_ty {cls : Value} (p : excAt x cls h) (M : Model) : PySem.W.Looks M h (typeOf (.ref x)) cls := by
  obtain ⟨ob, h1, h2⟩ := p
  exact h2 ▸ (PySem.W.Looks.ld h1).andThen .now
theorem exc_get {tp : Value} {R : Result → Shared → Prop} (Z : K.In h) (F : ExcK K C) (p : excAt x (.ref C) h) (hq : R (.ok (.ret (.ref C))) ⟨h, g, d, t, os⟩) :
    codeAny (model prog w) A (.call (.builtin "getset_descriptor.__get__") ⟨[.builtin "object.__class__", .ref x, tp], []⟩) R ⟨h, g, d, t, os⟩ := by
  have L0 := exc_ty p (model prog w)
  have L1 := PySem.W.looks_mroIn (M := model prog w) Z F.mO
  refine codeAny_call_builtin PySem.W.KF.slot_gs.plain PySem.W.KF.entry_gs (PySem.W.KF.slot_gs.check _ _ _ _ _ _ _ _ PySem.W.KF.type_class (PySem.W.KF.args_gs _ _ _) ?_)
  unfold Builtin.«getset_descriptor.__get__» Builtin.Getset_descriptor.descrGet
  rw [PySem.W.dga_obj]
  refine wpAny_bind (wpAny_pure ?_)
  unfold Builtin.Getset_descriptor.descrGetter Builtin.Getset_descriptor.descrCheckInstance Builtin.Getset_descriptor.descrNameAndClass isInstance
  simp only [PySem.W.KF.owner_class]
  repeat lk
  refine ⟨Code.quiet_builtin _ (by decide +kernel), codeAny_builtin PySem.W.KF.entry_class ?_⟩
  unfold Builtin.«object.__class__» shownTypeOf
  repeat lk
  exact hq
theorem exc_entry {tk : Tok} {Q : Fin → Shared → Prop} (Z : K.In h) (F : ExcK K C) (p : excAt x (.ref C) h) (hq : Q (.done (.ret (.ref C))) ⟨h, g, d, t, os⟩) :
    wpAny (model prog w) A (Builtin.«object.__getattribute__» ⟨[.ref x, .str "__class__" tk], []⟩) Q E ⟨h, g, d, t, os⟩ := by
  have L0 := exc_ty p (model prog w)
  have L1 := PySem.W.looks_findIn (M := model prog w) Z F.cl
  have hT5 : (⟨h, g, d, t, os⟩ : Shared).TypeIs (.builtin "object.__class__") "getset_descriptor" := PySem.F.typeOf_object_class
  have f5 := PySem.F.typeOf_object_class
  have f6 := PySem.F.slot_gs_get.lookup
  have f7 := PySem.F.slot_gs_set.lookup
  repeat (any_goals (first | assumption | (with_reducible refine PySem.W.Looks.at (by assumption) ?_) | wp_step))
  refine exc_get Z F p ?_
  repeat (any_goals (first | assumption | wp_step))
theorem exc_isB {M : Model} (Z : K.In h) (F : ExcK K C) (p : excAt x (.ref C) h) : PySem.W.Looks M h (isInstance (.ref x) (.type "BaseException")) true := (exc_ty p M).andThen (PySem.W.looks_mroIn Z F.mB)
theorem ga_kind : builtinKind "BaseException.__getattribute__" = some .slot := by decide +kernel
theorem ga_split : splitId "BaseException.__getattribute__" = some ("BaseException", "__getattribute__") := by decide +kernel
theorem exc_check {M : Model} {nameV : Value} {Q : Unit → Shared → Prop} (Z : K.In h) (F : ExcK K C) (p : excAt x (.ref C) h) (hq : Q () ⟨h, g, d, t, os⟩) :
    wpAny M A (checkBuiltinCall "BaseException.__getattribute__" ⟨[.ref x, nameV], []⟩) Q E ⟨h, g, d, t, os⟩ := by
  have ha := PySem.F.args_bexc_ga (.ref x) nameV
  simp only [checkBuiltinCall, ga_kind, ga_split]
  refine wpAny_bind ((exc_isB (M := M) Z F p).here (s := ⟨h, g, d, t, os⟩) ?_)
  repeat wp_step
  exact hq
theorem exc_call {tk : Tok} {R : Result → Shared → Prop} (Z : K.In h) (F : ExcK K C) (p : excAt x (.ref C) h) (hq : R (.ok (.ret (.ref C))) ⟨h, g, d, t, os⟩) :
    codeAny (model prog w) A (.call (.builtin "BaseException.__getattribute__") ⟨[.ref x, .str "__class__" tk], []⟩) R ⟨h, g, d, t, os⟩ :=
  codeAny_call_builtin PySem.F.excAttr_ValueError.ga.plain PySem.F.entry_bexc_ga (exc_check Z F p (exc_entry Z F p hq))
theorem exc_by {tk : Tok} {Q : Value → Shared → Prop} (Z : K.In h) (F : ExcK K C) (p : excAt x (.ref C) h) (hq : Q (.ref C) ⟨h, g, d, t, os⟩) :
    wpAny (model prog w) A (getAttrBy (.ref x) (.str "__class__" tk) false) Q E ⟨h, g, d, t, os⟩ := by
  have L0 := exc_ty p (model prog w)
  have L1 := PySem.W.looks_findIn (M := model prog w) Z F.ga
  have L2 := PySem.W.looks_findIn (M := model prog w) Z F.gt
  have f3 := PySem.F.excAttr_ValueError.ga.bind (.ref x)
  have hx2 : (Value.builtin "BaseException.__getattribute__" == Value.builtin "object.__getattribute__") = false := by decide +kernel
  have hx1 : (onTheHeap (Value.ref C) && Value.builtin "BaseException.__getattribute__" == Value.builtin "object.__getattribute__") = false := by rw [hx2]; rfl
  repeat (any_goals (first | assumption | (with_reducible refine PySem.W.Looks.at (by assumption) ?_) | wp_step))
  refine exc_call Z F p ?_
  repeat (any_goals (first | assumption | wp_step))
theorem exc_attr {Q : Option Value → Shared → Prop} (Z : K.In h) (F : ExcK K C) (p : excAt x (.ref C) h) (hq : Q (some (.ref C)) ⟨h, g, d, t + 1, os⟩) :
    wpAny (model prog w) A (getAttr? (.ref x) "__class__") Q E ⟨h, g, d, t, os⟩ := by
  unfold getAttr? getAttrBy?
  repeat (any_goals (first | assumption | with_reducible apply exc_by Z F p | wp_step))
theorem kitx_exc (F : ExcK K C) : PySem.W.KitX K (.ref x) (.ref C) (excAt x (.ref C)) where
  ty := fun M _ _ p => exc_ty p M
  it := fun M h' Z _ => by
    obtain ⟨cd, hcd⟩ := Option.isSome_iff_exists.mp F.cls
    unfold PySem.W.clsIn at hcd
    split at hcd
    · rename_i lk
      intro A' Q' E' s' k q
      unfold isType loadHead
      exact wpAny_bind (wpAny_loadPart (k _ _ (Z _ _ lk)) (wpAny_pure q))
    · cases hcd
  ne := fun h' tp dd its n sl Z htp => by
    obtain ⟨cd, hcd⟩ := Option.isSome_iff_exists.mp F.cls
    refine Bool.eq_false_iff.mpr fun q => ?_
    have e : C = tp := Value.ref.inj (beq_iff_eq.mp q)
    subst e
    unfold PySem.W.clsIn at hcd
    split at hcd
    · rename_i lk
      have z := (Z _ _ lk).symm.trans htp
      cases z
    · cases hcd
  ca := fun {prog w A E Q s} Z p k => by
    obtain ⟨h1, g1, d1, t1, os1⟩ := s
    exact exc_attr Z F p k
end

/-! isinstance of a caught refusal: one class; a tuple of classes -/
section
variable {X : Cx}
def rIsiE (K : PySem.W.Frag) (C : Addr) : List V → Hp → VK → Prop := fun xs H Q => ∃ (x : Addr) (c : V) (cv : Value) (b : Bool), xs = [.ref x, c] ∧ RelV c cv ∧ H x = some (hoExc x (.ref C)) ∧ PySem.W.kitOne K (.ref C) cv = some b ∧ Q (.bl b) H
theorem call_isiE {C : Addr} (F : ExcK X.K C) : CallR X (.builtin "isinstance") (rIsiE X.K C) := by
  intro pins s σ H xs us Q I r h
  obtain ⟨x, c, cv, b, rfl, rc, hx, e, q⟩ := h
  obtain ⟨u, w', rfl, rx, rc'⟩ := vals2 r
  cases (show u = Value.ref x from rx)
  have hw : w' = cv := by
    cases c with
    | ref a => exact (show w' = Value.ref a from rc').trans (show cv = Value.ref a from rc).symm
    | ty n => exact (show w' = Value.type n from rc').trans (show cv = Value.type n from rc).symm
    | non => exact (show w' = Value.none from rc').trans (show cv = Value.none from rc).symm
    | bl z => exact (show w' = Value.bool z from rc').trans (show cv = Value.bool z from rc).symm
    | int i =>
      obtain ⟨t, rfl⟩ := rc
      exact absurd e (by unfold PySem.W.kitOne PySem.W.kitCls; simp)
    | str i =>
      obtain ⟨t, rfl⟩ := rc
      exact absurd e (by unfold PySem.W.kitOne PySem.W.kitCls; simp)
    | byt i =>
      obtain ⟨t, rfl⟩ := rc
      exact absurd e (by unfold PySem.W.kitOne PySem.W.kitCls; simp)
    | flt i =>
      obtain ⟨t, rfl⟩ := rc
      exact absurd e (by unfold PySem.W.kitOne PySem.W.kitCls; simp)
  subst hw
  have hp : excAt x (.ref C) s.heap := (I.hok x _ hx).1
  exact PySem.W.kia_one (kitx_exc F) I.kIn hp e (fun z => nomatch z) fun tk => ⟨.bl b, H, I.tok _, rfl, q⟩
def rIsiT (K : PySem.W.Frag) (C : Addr) : List V → Hp → VK → Prop := fun xs H Q => ∃ (x tp : Addr) (cs : List Addr) (b : Bool), xs = [.ref x, .ref tp] ∧ H x = some (hoExc x (.ref C)) ∧ H tp = some (.tup (cs.map V.ref)) ∧ PySem.W.kitAny K (.ref C) (cs.map Value.ref) = some b ∧ Q (.bl b) H
theorem vals_refs : ∀ {cs : List Addr} {us : List Value}, Vals (cs.map V.ref) us → us = cs.map Value.ref
  | [], _, .nil => rfl
  | a :: cs, _, .cons r t => by
    cases (show _ = Value.ref a from r)
    rw [vals_refs t]
    rfl
theorem call_isiT {C : Addr} (F : ExcK X.K C) : CallR X (.builtin "isinstance") (rIsiT X.K C) := by
  intro pins s σ H xs us Q I r h
  obtain ⟨x, tp, cs, b, rfl, hx, ht, e, q⟩ := h
  obtain ⟨u, w', rfl, rx, rc'⟩ := vals2 r
  cases (show u = Value.ref x from rx)
  cases (show w' = Value.ref tp from rc')
  have hp : excAt x (.ref C) s.heap := (I.hok x _ hx).1
  obtain ⟨_, its, rv, o, ho, hc, n, hd⟩ := (show ObjOk X.prog X.w H s.heap tp (.tup (cs.map V.ref)) from I.hok tp _ ht)
  have hv := vals_refs rv
  subst hv
  obtain ⟨oc, dd, dt, sl⟩ := o
  dsimp only at hc hd
  subst hc hd
  exact PySem.W.kia_tup (kitx_exc F) I.kIn hp ho e (fun z => nomatch z) fun tk => ⟨.bl b, H, I.tok _, rfl, q⟩
end

/-! ### calls where refusals may fly -/
structure CalX (P : Program) (w : World) (K : PySem.W.Frag) (mg : Str → Option Value) (base : Heap) (x : Str) (ps : List Str) (k : Nat) (sp : Sp) : Prop where
  ex : ∃ f fd, FnOk P w K mg base (CXF P w) k f fd ps sp ∧ Binds K fd ps [] ∧ PySem.W.keepIn K (.ref f) = true ∧ mg x = some (.ref f)
/-- in a body that no refusal leaves -/
theorem pe_calN {X : Cx} {x : Str} {ps : List Str} {k : Nat} {sp : Sp} {e : Expr} {es : List Expr} {t : TA} {p pos : Pos} (C : CalX X.prog X.w X.K X.mg X.base x ps k sp) (hr : Room k X.A) (hg : Gl X x) (ha : PA X (e :: es) t)
    (hdb : (x == ("__debug__" : Str)) = false := by decide) (he : starEach (e :: es) X.env = (false, eval e X.env) :: starEach es X.env := by rfl) (hpl : (backTo pos (starEach es X.env)).any (·.1) = false := by rfl) :
    PE X (.Call (.Name x p) (e :: es) [] pos) (tCall sp [] E0 t) := by
  obtain ⟨f, fd, F, b, kp, m⟩ := C.ex
  exact pe_call F hr hg m kp b .nil pass00 ha hdb he hpl
/-- in a body that hands refusals on -/
theorem pe_calX {P : Program} {w : World} {K : PySem.W.Frag} {mg : Str → Option Value} {base : Heap} {N : List Str} {qual : Str} {sc : Scope} {f : Addr} {cdv : Value} {A : Around} {outer : List Env} {s : Shared} {H : Hp} {E : XK}
    {x : Str} {ps : List Str} {k : Nat} {sp : Sp} {e : Expr} {es : List Expr} {t : TA} {p pos : Pos} (C : CalX P w K mg base x ps k sp) (hr : Room k (cxX P w K mg base N qual sc f cdv A outer s H E).A) (hg : Gl (cxX P w K mg base N qual sc f cdv A outer s H E) x)
    (ha : PA (cxX P w K mg base N qual sc f cdv A outer s H E) (e :: es) t)
    (hdb : (x == ("__debug__" : Str)) = false := by decide) (he : starEach (e :: es) (cxX P w K mg base N qual sc f cdv A outer s H E).env = (false, eval e (cxX P w K mg base N qual sc f cdv A outer s H E).env) :: starEach es (cxX P w K mg base N qual sc f cdv A outer s H E).env := by rfl)
    (hpl : (backTo pos (starEach es (cxX P w K mg base N qual sc f cdv A outer s H E).env)).any (·.1) = false := by rfl) :
    PE (cxX P w K mg base N qual sc f cdv A outer s H E) (.Call (.Name x p) (e :: es) [] pos) (tCall sp [] E t) := by
  obtain ⟨f', fd, F, b, kp, m⟩ := C.ex
  exact pe_call F hr hg m kp b .nil passX ha hdb he hpl
theorem ps_tryC {X : Cx} {x cn n : Str} {i k : Nat} {CB : Addr} {ps : List Str} {sp : Sp} {e : Expr} {es : List Expr} {t : TA} {b₀ : Stmt} {suite : List Stmt} {ts : TS} {p pos pos' cp hpos tpos : Pos}
    (hst : X.stack = X.env :: X.outer) (hf : X.env.frame = some X.env.locals) (hnx : ∀ v s, ¬ X.xe v s) (C : CalX X.prog X.w X.K X.mg X.base x ps k sp) (hr : Room k X.A) (hg : Gl X x) (ha : PA X (e :: es) t)
    (hgC : Gl X cn) (hmC : X.mg cn = some (.ref CB)) (hN : X.N.Nodup) (hi : X.N[i]? = some n) (hl : X.env.scope.names.lookup n = some .local) (hs : ∀ v : Value, PSs (cxE X v) (b₀ :: suite) ts)
    (hdb : (x == ("__debug__" : Str)) = false := by decide) (hdc : (cn == ("__debug__" : Str)) = false := by decide) (he : starEach (e :: es) X.env = (false, eval e X.env) :: starEach es X.env := by rfl) (hpl : (backTo pos (starEach es X.env)).any (·.1) = false := by rfl)
    (hsw : swapsWith (.Call (.Name x p) (e :: es) [] pos) none pos'.line X.env = pure false := by rfl) :
    PS X (.Try [.Expr (.Call (.Name x p) (e :: es) [] pos) pos'] [.ExceptHandler (some (.Name cn cp)) (some n) (b₀ :: suite) hpos] [] [] tpos) (tTry X.K CB i sp t ts) := by
  obtain ⟨f, fd, F, b, kp, m⟩ := C.ex
  exact ps_tryCall hst hf hnx F hr hg m kp b ha hgC hmC hN hi hl hs hdb hdc he hpl hsw
theorem w_raise {R : Hp → Prop} {D : Ends} {σ : L2.St} {H : Hp} : tRaise R D σ H = R H := rfl
theorem w_try {K : PySem.W.Frag} {CB : Addr} {i : Nat} {sp : Sp} {t : TA} {ts : TS} {D : Ends} {σ : L2.St} {H : Hp} : tTry K CB i sp t ts D σ H = t σ H (fun vs H1 => sp vs H1 (fun _ H2 => D.nx σ H2) fun cls _ H2 => PySem.W.exmOne K cls (.ref CB) = some true ∧
  ∀ x, H2 x = none → ts { nx := fun σ' H3 => D.nx (σ'.set i none) H3, rt := D.rt, bk := fun σ' H3 => D.bk (σ'.set i none) H3, ct := fun σ' H3 => D.ct (σ'.set i none) H3 } (σ.set i (some (.ref x))) (L2.upd H2 x (hoExc x cls))) := rfl
theorem w_KX {K : PySem.W.Frag} {P : Program} {w : World} {mg : Str → Option Value} {base : Heap} {N : List Str} {qual : Str} {sc : Scope} {f : Addr} {cd : Value} {A : Around} {outer : List Env} {s : Shared} {H : Hp} {E : XK} : (cxX P w K mg base N qual sc f cd A outer s H E).K = K := rfl
theorem at_memV {xs : List V} {i : Int} (h0 : 0 ≤ i) (h : i < xs.length) : ∃ z ∈ xs, atI xs i = some z := by
  have hk : i.toNat < xs.length := by omega
  have ek : i = ((i.toNat : Nat) : Int) := by omega
  refine ⟨xs[i.toNat], List.getElem_mem hk, ?_⟩
  have q : atI xs ((i.toNat : Nat) : Int) = some xs[i.toNat] := atI_nat (List.getElem?_eq_getElem hk)
  rwa [← ek] at q
theorem boot_ValueError : bootBuiltins "ValueError" = some (.type "ValueError") := by decide +kernel
end Bw

set_option Elab.async false
set_option linter.all false
set_option maxRecDepth 100000
namespace Bw
open PySem PySem.Spec PyProof.Rows L2

/-- sum of a list of whole numbers -/
theorem call_sumL {X : Cx} (hc : X.calm = true) : CallR X (.builtin "sum") (fun xs H Q => ∃ (a : Addr) (ns : List Int), xs = [.ref a] ∧ SqL X.K H a (ns.map V.int) ∧ Q (.int ns.sum) H) := by
  intro pins s σ H xs us Q I r h
  obtain ⟨a, ns, rfl, hS, q⟩ := h
  obtain ⟨u, rfl, ru⟩ := vals1 r
  cases ru
  obtain ⟨its, rv, pl, hz⟩ := I.list hS
  have hi : IntsAre its ns := intsAre_of rv
  obtain ⟨xs, hx⟩ := hi.allInts.items
  have hl' : s.heap.IsList a (intItems xs) := hx ▸ pl.isList
  refine sum_intListG (I.ok.hd hc) hl' fun h' tk t' hk => ?_
  have e1 : ns = xs.toList.map (·.1) := by
    rw [← nums_intItems, ← hx]
    exact (show numsOf its.toArray.toList = ns from hi.numsOf).symm
  have e2 : preSum (numAt xs) xs.size = ns.sum := by
    rw [preSum_eq, List.take_of_length_le (by simp), e1]
  rw [e2]
  exact ⟨.int ns.sum, H, I.kept hk, ⟨_, rfl⟩, q⟩

/-- a mark as a number -/
def mI (b : Bool) : V := .int (if b then 1 else 0)
def marksI (s k : Int) : List Int := (List.range 1440).map fun (t : Nat) => if ((t : Int) - s) % 1440 < k then (1 : Int) else 0
theorem marksK_ints (s k : Int) : marksK mI s k = (marksI s k).map V.int := by
  unfold marksK marksI
  rw [List.map_map]
  congr 1
  funext t
  simp only [mI, Function.comp, decide_eq_true_eq]
theorem sum_set : ∀ (l : List Int) (i : Nat) (x y : Int), l[i]? = some y → (l.set i x).sum = l.sum - y + x
  | [], i, x, y, h => by simp at h
  | a :: l, 0, x, y, h => by
    simp at h
    subst h
    simp only [List.set_cons_zero, List.sum_cons]
    omega
  | a :: l, i + 1, x, y, h => by
    simp only [List.set_cons_succ, List.sum_cons]
    rw [sum_set l i x y (by simpa using h)]
    omega
theorem marksI_step {s k : Int} (k0 : 0 ≤ k) (k1 : k < 1440) : (marksI s k).set ((s + k) % 1440).toNat 1 = marksI s (k + 1) := by
  apply List.ext_getElem?
  intro i
  unfold marksI
  rw [List.getElem?_set, List.getElem?_map, List.getElem?_map, List.length_map, List.length_range]
  by_cases h : ((s + k) % 1440).toNat = i
  · rw [if_pos h, if_pos (by omega), List.getElem?_range (by omega)]
    simp only [Option.map_some, Option.some.injEq]
    rw [if_pos (show ((i : Int) - s) % 1440 < k + 1 by omega)]
  · rw [if_neg h]
    by_cases hi : i < 1440
    · rw [List.getElem?_range hi]
      simp only [Option.map_some, Option.some.injEq]
      by_cases h2 : ((i : Int) - s) % 1440 < k
      · rw [if_pos h2, if_pos (by omega)]
      · rw [if_neg h2, if_neg (by omega)]
    · rw [List.getElem?_eq_none (by rw [List.length_range]; omega)]
      rfl
theorem marksI_sum (s : Int) : ∀ k : Nat, k ≤ 1440 → (marksI s k).sum = k
  | 0, _ => by
    have e : marksI s (0 : Nat) = List.replicate 1440 0 := by
      unfold marksI
      have e' : (fun (t : Nat) => if ((t : Int) - s) % 1440 < ((0 : Nat) : Int) then (1 : Int) else 0) = fun _ => 0 := by
        funext t
        rw [if_neg (by omega)]
      rw [e', List.map_const', List.length_range]
    rw [e, List.sum_replicate_int]
    simp
  | k + 1, h => by
    have ih := marksI_sum s k (by omega)
    have e : marksI s ((k + 1 : Nat) : Int) = (marksI s k).set ((s + k) % 1440).toNat 1 := by
      rw [marksI_step (by omega) (by omega)]
      congr 1
    rw [e, sum_set (y := 0), ih]
    · omega
    · unfold marksI
      rw [List.getElem?_map, List.getElem?_range (by omega)]
      simp only [Option.map_some, Option.some.injEq]
      rw [if_neg (by omega)]
theorem marksI_sum' {s L : Int} (h0 : 0 ≤ L) (h1 : L ≤ 1440) : (marksI s L).sum = L := by
  have := marksI_sum s L.toNat (by omega)
  have e : ((L.toNat : Nat) : Int) = L := by omega
  rwa [e] at this

/-- how many are quiet below t, from a fixed moment on -/
def below (s e t : Int) : Int := (t - s) / 1440 * ((e - s) % 1440) + (if (e - s) % 1440 < (t - s) % 1440 then (e - s) % 1440 else (t - s) % 1440)
theorem below_days (s e t q : Int) : below s e (t + q * 1440) = below s e t + q * ((e - s) % 1440) := by
  unfold below
  have e1 : (t + q * 1440 - s) / 1440 = (t - s) / 1440 + q := by omega
  have e2 : (t + q * 1440 - s) % 1440 = (t - s) % 1440 := by omega
  rw [e1, e2, Int.add_mul]
  omega
theorem below_step {s e : Int} (t : Int) (s0 : 0 ≤ s) (s1 : s ≤ 1439) (e0 : 0 ≤ e) (e1 : e ≤ 1439) (ne : s ≠ e) : below s e (t + 1) = below s e t + (if quietB s e (t % 1440) then 1 else 0) := by
  rw [quietB_len s0 s1 e0 e1 ne (by omega) (by omega)]
  simp only [decide_eq_true_eq]
  unfold below
  have a1 : (t % 1440 - s) % 1440 = (t - s) % 1440 := by omega
  rw [a1]
  by_cases h : (t - s) % 1440 = 1439
  · have b1 : (t + 1 - s) / 1440 = (t - s) / 1440 + 1 := by omega
    have b2 : (t + 1 - s) % 1440 = 0 := by omega
    rw [b1, b2, h, Int.add_mul]
    have b3 : 0 < (e - s) % 1440 := by omega
    have b4 : (e - s) % 1440 < 1440 := by omega
    generalize (e - s) % 1440 = L at *
    rw [if_neg (by omega)]
    by_cases h2 : L < 1439
    · rw [if_pos h2, if_neg (by omega)]; omega
    · rw [if_neg h2]
      by_cases h3 : 1439 < L
      · omega
      · rw [if_neg h3]; omega
  · have b1 : (t + 1 - s) / 1440 = (t - s) / 1440 := by omega
    have b2 : (t + 1 - s) % 1440 = (t - s) % 1440 + 1 := by omega
    rw [b1, b2]
    generalize (t - s) % 1440 = r at *
    generalize (e - s) % 1440 = L at *
    generalize (t - s) / 1440 * L = P at *
    split <;> split <;> split <;> omega
/-- the first loud moment -/
def loudV (s e z m : Int) : Int := if quietB s e ((m + z) % 1440) then m + (e - m - z) % 1440 else m
theorem loud_here {s e : Int} (z m : Int) (s0 : 0 ≤ s) (s1 : s ≤ 1439) (e0 : 0 ≤ e) (e1 : e ≤ 1439) (ne : s ≠ e) : quietB s e ((loudV s e z m + z) % 1440) = false := by
  unfold loudV
  by_cases h : quietB s e ((m + z) % 1440) = true
  · rw [if_pos h]
    have a : (m + (e - m - z) % 1440 + z) % 1440 = e := by omega
    rw [a, quietB_len s0 s1 e0 e1 ne e0 (by omega)]
    exact decide_eq_false (by omega)
  · rw [if_neg h]
    exact Bool.eq_false_iff.mpr h
theorem loud_ge (s e z m : Int) : m ≤ loudV s e z m ∧ loudV s e z m < m + 1440 := by
  unfold loudV
  split <;> omega
theorem loud_upto {s e : Int} (z m u : Int) (s0 : 0 ≤ s) (s1 : s ≤ 1439) (e0 : 0 ≤ e) (e1 : e ≤ 1439) (ne : s ≠ e) (h0 : m ≤ u) (h1 : u < loudV s e z m) : quietB s e ((u + z) % 1440) = true := by
  unfold loudV at h1
  by_cases h : quietB s e ((m + z) % 1440) = true
  · rw [if_pos h] at h1
    rw [quietB_len s0 s1 e0 e1 ne (by omega) (by omega)] at h ⊢
    have h' := of_decide_eq_true h
    exact decide_eq_true (by omega)
  · rw [if_neg h] at h1
    omega
/-- how many are quiet from one on and below another -/
def countV (s e z i o : Int) : Int := if o ≤ i then 0 else below s e (o + z) - below s e (i + z)
end Bw

set_option Elab.async false
set_option linter.all false
set_option maxRecDepth 100000
set_option maxHeartbeats 8000000
namespace Bw
open PySem L2

def top (i : Nat) : Stmt := PySem.Challenge.pw_bellsaway_k05_what_is_no_clock.main.body.getD i (.Pass ⟨0, 0, 0, 0⟩)
abbrev s_is_whole : Stmt := top 15
theorem sc_is_whole : FnScope ["thing"] ["thing"] (defScope s_is_whole) := ⟨rfl, rfl, rfl, by decide +kernel, rfl, by decide +kernel, by decide +kernel⟩
abbrev s_is_whole_between : Stmt := top 16
theorem sc_is_whole_between : FnScope ["thing", "least", "most"] ["thing", "least", "most"] (defScope s_is_whole_between) := ⟨rfl, rfl, rfl, by decide +kernel, rfl, by decide +kernel, by decide +kernel⟩
abbrev s_is_minute_of_day : Stmt := top 20
theorem sc_is_minute_of_day : FnScope ["thing"] ["thing"] (defScope s_is_minute_of_day) := ⟨rfl, rfl, rfl, by decide +kernel, rfl, by decide +kernel, by decide +kernel⟩
abbrev s_is_quiet_hours : Stmt := top 21
theorem sc_is_quiet_hours : FnScope ["thing"] ["thing"] (defScope s_is_quiet_hours) := ⟨rfl, rfl, rfl, by decide +kernel, rfl, by decide +kernel, by decide +kernel⟩
abbrev s_check_zone : Stmt := top 22
theorem sc_check_zone : FnScope ["zone"] ["zone"] (defScope s_check_zone) := ⟨rfl, rfl, rfl, by decide +kernel, rfl, by decide +kernel, by decide +kernel⟩
abbrev s_check_quiet : Stmt := top 23
theorem sc_check_quiet : FnScope ["quiet"] ["quiet"] (defScope s_check_quiet) := ⟨rfl, rfl, rfl, by decide +kernel, rfl, by decide +kernel, by decide +kernel⟩
abbrev s_check_minute_of_hour : Stmt := top 24
theorem sc_check_minute_of_hour : FnScope ["minute"] ["minute"] (defScope s_check_minute_of_hour) := ⟨rfl, rfl, rfl, by decide +kernel, rfl, by decide +kernel, by decide +kernel⟩
abbrev s_check_minute_of_day : Stmt := top 25
theorem sc_check_minute_of_day : FnScope ["minute"] ["minute"] (defScope s_check_minute_of_day) := ⟨rfl, rfl, rfl, by decide +kernel, rfl, by decide +kernel, by decide +kernel⟩
abbrev s_shown : Stmt := top 26
theorem sc_shown : FnScope ["moment", "zone", "local"] ["moment", "zone"] (defScope s_shown) := ⟨rfl, rfl, rfl, by decide +kernel, rfl, by decide +kernel, by decide +kernel⟩
abbrev s_is_quiet : Stmt := top 27
theorem sc_is_quiet : FnScope ["quiet", "zone", "moment", "minute", "start", "end"] ["quiet", "zone", "moment"] (defScope s_is_quiet) := ⟨rfl, rfl, rfl, by decide +kernel, rfl, by decide +kernel, by decide +kernel⟩
abbrev s_loud_from : Stmt := top 28
theorem sc_loud_from : FnScope ["quiet", "zone", "moment"] ["quiet", "zone", "moment"] (defScope s_loud_from) := ⟨rfl, rfl, rfl, by decide +kernel, rfl, by decide +kernel, by decide +kernel⟩
abbrev s_quiet_below : Stmt := top 29
theorem sc_quiet_below : FnScope ["quiet", "zone", "moment", "length", "since"] ["quiet", "zone", "moment"] (defScope s_quiet_below) := ⟨rfl, rfl, rfl, by decide +kernel, rfl, by decide +kernel, by decide +kernel⟩
abbrev s_quiet_count : Stmt := top 30
theorem sc_quiet_count : FnScope ["quiet", "zone", "one", "other"] ["quiet", "zone", "one", "other"] (defScope s_quiet_count) := ⟨rfl, rfl, rfl, by decide +kernel, rfl, by decide +kernel, by decide +kernel⟩
abbrev s_next_hour : Stmt := top 31
theorem sc_next_hour : FnScope ["minute", "zone", "moment"] ["minute", "zone", "moment"] (defScope s_next_hour) := ⟨rfl, rfl, rfl, by decide +kernel, rfl, by decide +kernel, by decide +kernel⟩
abbrev s_next_day : Stmt := top 32
theorem sc_next_day : FnScope ["minute", "zone", "moment"] ["minute", "zone", "moment"] (defScope s_next_day) := ⟨rfl, rfl, rfl, by decide +kernel, rfl, by decide +kernel, by decide +kernel⟩
abbrev s_law_cell_at : Stmt := top 34
theorem sc_law_cell_at : FnScope ["_law_script", "_law_k"] ["_law_script", "_law_k"] (defScope s_law_cell_at) := ⟨rfl, rfl, rfl, by decide +kernel, rfl, by decide +kernel, by decide +kernel⟩
abbrev s_law_mixed : Stmt := top 35
theorem sc_law_mixed : FnScope ["_law_cell", "_law_k", "_law_number"] ["_law_cell", "_law_k"] (defScope s_law_mixed) := ⟨rfl, rfl, rfl, by decide +kernel, rfl, by decide +kernel, by decide +kernel⟩
abbrev s_law_well : Stmt := top 36
theorem sc_law_well : FnScope ["_law_cell"] ["_law_cell"] (defScope s_law_well) := ⟨rfl, rfl, rfl, by decide +kernel, rfl, by decide +kernel, by decide +kernel⟩
abbrev s_law_draw : Stmt := top 37
theorem sc_law_draw : FnScope ["_law_well_here", "_law_most", "_law_found", "_law_turn"] ["_law_well_here", "_law_most"] (defScope s_law_draw) := ⟨rfl, rfl, rfl, by decide +kernel, rfl, by decide +kernel, by decide +kernel⟩
abbrev s_law_quiet : Stmt := top 38
theorem sc_law_quiet : FnScope ["_law_well_here", "_law_start", "_law_quiet_here"] ["_law_well_here"] (defScope s_law_quiet) := ⟨rfl, rfl, rfl, by decide +kernel, rfl, by decide +kernel, by decide +kernel⟩
abbrev s_law_bad_zone : Stmt := top 39
theorem sc_law_bad_zone : FnScope ["_law_well_here", "_law_far"] ["_law_well_here"] (defScope s_law_bad_zone) := ⟨rfl, rfl, rfl, by decide +kernel, rfl, by decide +kernel, by decide +kernel⟩
abbrev s_law_bad_quiet : Stmt := top 40
theorem sc_law_bad_quiet : FnScope ["_law_well_here", "_law_good", "_law_bad", "_law_other", "_law_some"] ["_law_well_here"] (defScope s_law_bad_quiet) := ⟨rfl, rfl, rfl, by decide +kernel, rfl, by decide +kernel, by decide +kernel⟩
abbrev s_law_bad_minute : Stmt := top 41
theorem sc_law_bad_minute : FnScope ["_law_well_here", "_law_many", "_law_far"] ["_law_well_here", "_law_many"] (defScope s_law_bad_minute) := ⟨rfl, rfl, rfl, by decide +kernel, rfl, by decide +kernel, by decide +kernel⟩
abbrev s_law_asked : Stmt := top 42
theorem sc_law_asked : FnScope ["_law_way", "_law_zone", "_law_quiet_here", "_law_hour", "_law_day", "_law_moment"] ["_law_way", "_law_zone", "_law_quiet_here", "_law_hour", "_law_day", "_law_moment"] (defScope s_law_asked) := ⟨rfl, rfl, rfl, by decide +kernel, rfl, by decide +kernel, by decide +kernel⟩
abbrev s_law_refused : Stmt := top 43
theorem sc_law_refused : FnScope ["_law_way", "_law_zone", "_law_quiet_here", "_law_hour", "_law_day", "_law_moment", "_law_found", "e", "_law_others"] ["_law_way", "_law_zone", "_law_quiet_here", "_law_hour", "_law_day", "_law_moment"] (defScope s_law_refused) := ⟨rfl, rfl, rfl, by decide +kernel, rfl, by decide +kernel, by decide +kernel⟩
abbrev s_law_right : Stmt := top 44
theorem sc_law_right : FnScope ["_law_well_here", "_law_way", "_law_zone", "_law_quiet_here", "_law_hour", "_law_day", "_law_moment", "_law_told", "_law_bad_zone_here", "_law_second", "_law_refused_here", "_law_other", "_law_odd", "_law_bad"] ["_law_well_here"] (defScope s_law_right) := ⟨rfl, rfl, rfl, by decide +kernel, rfl, by decide +kernel, by decide +kernel⟩
abbrev s_law : Stmt := top 45
theorem sc_law : FnScope ["_law_script", "_law_cell"] ["_law_script"] (defScope s_law) := ⟨rfl, rfl, rfl, by decide +kernel, rfl, by decide +kernel, by decide +kernel⟩
structure Bt (K : PySem.W.Frag) (mg : Str → Option Value) (C CB : Addr) (t0 t1 : Tok) (aNoHappening aNoFit aNoWish aNoRoad aNoTime aNoRow aBackward aNoNumber aFallen aNoBook aNoText : Addr) : Prop where
  len : mg "len" = none
  int : mg "int" = none
  bool : mg "bool" = none
  tuple : mg "tuple" = none
  isinstance : mg "isinstance" = none
  range : mg "range" = none
  min : mg "min" = none
  ValueError : mg "ValueError" = none
  MINUTES_OF_DAY : mg "MINUTES_OF_DAY" = some (.int 1440 t0)
  MINUTES_OF_HOUR : mg "MINUTES_OF_HOUR" = some (.int 60 t1)
  BellError : mg "BellError" = some (.ref CB)
  NoClock : mg "NoClock" = some (.ref C)
  NoHappening : mg "NoHappening" = some (.ref aNoHappening)
  NoFit : mg "NoFit" = some (.ref aNoFit)
  NoWish : mg "NoWish" = some (.ref aNoWish)
  NoRoad : mg "NoRoad" = some (.ref aNoRoad)
  NoTime : mg "NoTime" = some (.ref aNoTime)
  NoRow : mg "NoRow" = some (.ref aNoRow)
  Backward : mg "Backward" = some (.ref aBackward)
  NoNumber : mg "NoNumber" = some (.ref aNoNumber)
  Fallen : mg "Fallen" = some (.ref aFallen)
  NoBook : mg "NoBook" = some (.ref aNoBook)
  NoText : mg "NoText" = some (.ref aNoText)
  exc : PySem.W.excIn K C vbm "ValueError.__new__" = true
  excK : ExcK K C
  exm : PySem.W.exmOne K (.ref C) (.ref CB) = some true
  any1 : PySem.W.kitAny K (.ref C) ([.ref aBackward, .ref aFallen, .ref aNoBook, .ref aNoFit, .ref aNoHappening, .ref aNoNumber, .ref aNoRoad, .ref aNoRow] : List Value) = some false
  any2 : PySem.W.kitAny K (.ref C) ([.ref aNoText, .ref aNoTime, .ref aNoWish] : List Value) = some false
  isV : PySem.W.kitOne K (.ref C) (.type "ValueError") = some true
  isC : PySem.W.kitOne K (.ref C) (.ref C) = some true

def wholeV : V → Bool
  | .int _ => true
  | _ => false
def betwV (x : V) (lo hi : Int) : Bool := match x with
  | .int i => decide (lo ≤ i) && decide (i ≤ hi)
  | _ => false
theorem betw_of {x : V} {lo hi : Int} (h : betwV x lo hi = true) : ∃ i, x = .int i ∧ lo ≤ i ∧ i ≤ hi := by
  cases x with
  | int i =>
    simp only [betwV, Bool.and_eq_true, decide_eq_true_eq] at h
    exact ⟨i, rfl, h⟩
  | _ => exact absurd (show false = true from h) Bool.false_ne_true
theorem betw_int {i lo hi : Int} (h0 : lo ≤ i) (h1 : i ≤ hi) : betwV (.int i) lo hi = true := by
  simp only [betwV, Bool.and_eq_true, decide_eq_true_eq]
  exact ⟨h0, h1⟩
/-- of a tuple the items may be asked, too -/
def elemsOk (H : Hp) : V → Prop
  | .ref p => ∃ o, H p = some o ∧ ∀ xs, o = .tup xs → ∀ y ∈ xs, okV H y
  | _ => True
def qhB (H : Hp) : V → Bool
  | .non => true
  | .ref p => match H p with
    | some (.tup [a, b]) => betwV a 0 1439 && betwV b 0 1439 && !decide (a = b)
    | _ => false
  | _ => false
theorem okV.same {H H' : Hp} {x : V} (h : okV H x) (s : Same H H') : okV H' x := by
  cases x with
  | ref a =>
    rcases h with ⟨xs, e⟩ | ⟨xs, e⟩
    · exact .inl ⟨xs, s _ _ e⟩
    · exact .inr ⟨xs, s _ _ e⟩
  | non => trivial
  | bl _ => trivial
  | int _ => trivial
  | str _ => trivial
  | _ => exact h.elim
theorem okV.but {H H' : Hp} {x : V} {w : Addr} (h : okV H x) (W : Well H' w) (s : But w H H') : okV H' x := by
  cases x with
  | ref a =>
    by_cases ha : a = w
    · obtain ⟨b, c, d, e, q⟩ := W
      exact .inl ⟨_, by rw [ha]; exact q⟩
    · rcases h with ⟨xs, e⟩ | ⟨xs, e⟩
      · exact .inl ⟨xs, s _ _ ha e⟩
      · exact .inr ⟨xs, s _ _ ha e⟩
  | non => trivial
  | bl _ => trivial
  | int _ => trivial
  | str _ => trivial
  | _ => exact h.elim
theorem QOk.ok {H : Hp} {p : Addr} {s e : Int} (q : QOk H p s e) : okV H (.ref p) ∧ elemsOk H (.ref p) ∧ qhB H (.ref p) = true := by
  refine ⟨.inr ⟨_, q.at_⟩, ⟨_, q.at_, fun xs hx y hy => ?_⟩, ?_⟩
  · cases hx
    simp only [List.mem_cons, List.not_mem_nil, or_false] at hy
    rcases hy with rfl | rfl <;> trivial
  · simp only [qhB, q.at_]
    rw [betw_int q.s0 q.s1, betw_int q.e0 q.e1]
    have : ¬ V.int s = V.int e := fun z => q.ne (V.int.inj z)
    rw [decide_eq_false this]
    rfl
/-- good quiet hours, or none -/
def QG (H : Hp) (q : V) (qo : Option (Int × Int)) : Prop := (q = .non ∧ qo = none) ∨ ∃ p s e, q = .ref p ∧ QOk H p s e ∧ qo = some (s, e)
theorem QG.ok {H : Hp} {q : V} {qo : Option (Int × Int)} (g : QG H q qo) : okV H q ∧ elemsOk H q ∧ qhB H q = true := by
  rcases g with ⟨rfl, _⟩ | ⟨p, s, e, rfl, k, _⟩
  · exact ⟨trivial, trivial, rfl⟩
  · exact k.ok
theorem QG.same {H H' : Hp} {q : V} {qo : Option (Int × Int)} (g : QG H q qo) (s : Same H H') : QG H' q qo := by
  rcases g with ⟨rfl, e⟩ | ⟨p, a, b, rfl, k, e⟩
  · exact .inl ⟨rfl, e⟩
  · exact .inr ⟨p, a, b, rfl, k.same s, e⟩
theorem QG.but {H H' : Hp} {q : V} {w : Addr} {qo : Option (Int × Int)} (g : QG H q qo) (W : Well H w) (s : But w H H') : QG H' q qo := by
  rcases g with ⟨rfl, e⟩ | ⟨p, a, b, rfl, k, e⟩
  · exact .inl ⟨rfl, e⟩
  · exact .inr ⟨p, a, b, rfl, k.but W s, e⟩
/-- what an answer is -/
inductive R5 where
  | tup (ns : List Int) | b (c : Bool) | i (n : Int)
def Res (H : Hp) (v : V) : R5 → Prop
  | .tup ns => ∃ p, v = .ref p ∧ H p = some (.tup (ns.map V.int))
  | .b c => v = .bl c
  | .i n => v = .int n
theorem Res.same {H H' : Hp} {v : V} {r : R5} (h : Res H v r) (s : Same H H') : Res H' v r := by
  cases r with
  | tup ns => obtain ⟨p, e, q⟩ := h; exact ⟨p, e, s _ _ q⟩
  | b c => exact h
  | i n => exact h
theorem Res.but {H H' : Hp} {v : V} {r : R5} {w : Addr} (h : Res H v r) (W : Well H w) (s : But w H H') : Res H' v r := by
  cases r with
  | tup ns => obtain ⟨p, e, q⟩ := h; exact ⟨p, e, s _ _ (W.neL q) q⟩
  | b c => exact h
  | i n => exact h
def val5 (a z : Int) (qo : Option (Int × Int)) (h d m : Int) : R5 :=
  if a < 2 then .tup [(m + z) / 1440, (m + z) % 1440]
  else if a < 4 then .b (match qo with | none => false | some (s, e) => quietB s e ((m + z) % 1440))
  else if a < 6 then .i (match qo with | none => m | some (s, e) => loudV s e z m)
  else if a < 8 then .i (match qo with | none => 0 | some (s, e) => countV s e z m (m + d - 700))
  else if a < 10 then .i (m + (h - m - z) % 60)
  else .i (m + (d - m - z) % 1440)
structure Gd (H : Hp) (zv q hv dv : V) (z : Int) (qo : Option (Int × Int)) (h d : Int) : Prop where
  zv : zv = .int z
  z0 : -1439 ≤ z
  z1 : z ≤ 1439
  q : QG H q qo
  hv : hv = .int h
  h0 : 0 ≤ h
  h1 : h ≤ 59
  dv : dv = .int d
  d0 : 0 ≤ d
  d1 : d ≤ 1439
def bad5 (H : Hp) (a : Int) (zv q hv dv : V) : Prop :=
  (a < 2 ∧ betwV zv (-1439) 1439 = false) ∨ (2 ≤ a ∧ a < 8 ∧ (qhB H q = false ∨ betwV zv (-1439) 1439 = false)) ∨
  (8 ≤ a ∧ a < 10 ∧ (betwV hv 0 59 = false ∨ betwV zv (-1439) 1439 = false)) ∨ (10 ≤ a ∧ (betwV dv 0 1439 = false ∨ betwV zv (-1439) 1439 = false))
/-- a statement, then the rest, with a word between the two -/
def tCut (t u : TS) : TS := fun D σ H => ∃ M : L2.St → Hp → Prop, t { D with nx := M } σ H ∧ ∀ σ' H', M σ' H' → u D σ' H'
theorem w_cut {t u : TS} {D : Ends} {σ : L2.St} {H : Hp} : tCut t u D σ H = ∃ M : L2.St → Hp → Prop, t { D with nx := M } σ H ∧ ∀ σ' H', M σ' H' → u D σ' H' := rfl
theorem pss_cut {X : Cx} {st : Stmt} {rest : List Stmt} {t u : TS} (h1 : PS X st t) (h2 : PSs X rest u) : PSs X (st :: rest) (tCut t u) := by
  intro pins s σ H D I h
  obtain ⟨M, ha, hb⟩ := h
  refine wpAny_execs_cons (thn (h1 pins s σ H { D with nx := M } I ha) fun f s1 q => ?_)
  cases f with
  | next =>
    obtain ⟨σ', H', I', q⟩ := q
    exact h2 pins s1 σ' H' D I' (hb _ _ q)
  | ret v => exact q
  | brk => exact q
  | cont => exact q

def sp_is_whole (C : Addr) : Sp := fun vs H Q E => ∃ x, vs = [x] ∧ okV H x ∧ Q (.bl (wholeV x)) H
def sp_is_whole_between (C : Addr) : Sp := fun vs H Q E => ∃ x lo hi, vs = [x, .int lo, .int hi] ∧ okV H x ∧ Q (.bl (betwV x lo hi)) H
def sp_is_minute_of_day (C : Addr) : Sp := fun vs H Q E => ∃ x, vs = [x] ∧ okV H x ∧ Q (.bl (betwV x 0 1439)) H
def sp_is_quiet_hours (C : Addr) : Sp := fun vs H Q E => ∃ x, vs = [x] ∧ okV H x ∧ elemsOk H x ∧ Q (.bl (qhB H x)) H
def sp_check_zone (C : Addr) : Sp := fun vs H Q E => ∃ x, vs = [x] ∧ okV H x ∧ ((betwV x (-1439) 1439 = true ∧ Q .non H) ∨ (betwV x (-1439) 1439 = false ∧ E (.ref C) none H))
def sp_check_quiet (C : Addr) : Sp := fun vs H Q E => ∃ x, vs = [x] ∧ okV H x ∧ elemsOk H x ∧ ((qhB H x = true ∧ Q .non H) ∨ (qhB H x = false ∧ E (.ref C) none H))
def sp_check_minute_of_hour (C : Addr) : Sp := fun vs H Q E => ∃ x, vs = [x] ∧ okV H x ∧ ((betwV x 0 59 = true ∧ Q .non H) ∨ (betwV x 0 59 = false ∧ E (.ref C) none H))
def sp_check_minute_of_day (C : Addr) : Sp := fun vs H Q E => ∃ x, vs = [x] ∧ okV H x ∧ ((betwV x 0 1439 = true ∧ Q .non H) ∨ (betwV x 0 1439 = false ∧ E (.ref C) none H))
def sp_shown (C : Addr) : Sp := fun vs H Q E => ∃ (m : Int) (x : V), vs = [.int m, x] ∧ okV H x ∧ ((∃ z, x = .int z ∧ -1439 ≤ z ∧ z ≤ 1439 ∧ ∀ p, H p = none → Q (.ref p) (upd H p (.tup [.int ((m + z) / 1440), .int ((m + z) % 1440)]))) ∨ (betwV x (-1439) 1439 = false ∧ E (.ref C) none H))
def sp_is_quiet (C : Addr) : Sp := fun vs H Q E => ∃ (q x : V) (m : Int), vs = [q, x, .int m] ∧ okV H q ∧ elemsOk H q ∧ okV H x ∧ ((∃ z, x = .int z ∧ -1439 ≤ z ∧ z ≤ 1439 ∧ ((q = .non ∧ ∀ H', Same H H' → Q (.bl false) H') ∨ ∃ p s e, q = .ref p ∧ QOk H p s e ∧ ∀ H', Same H H' → Q (.bl (quietB s e ((m + z) % 1440))) H')) ∨ ((qhB H q = false ∨ betwV x (-1439) 1439 = false) ∧ E (.ref C) none H))
def sp_loud_from (C : Addr) : Sp := fun vs H Q E => ∃ (q x : V) (m : Int), vs = [q, x, .int m] ∧ okV H q ∧ elemsOk H q ∧ okV H x ∧ ((∃ z, x = .int z ∧ -1439 ≤ z ∧ z ≤ 1439 ∧ ((q = .non ∧ ∀ H', Same H H' → Q (.int m) H') ∨ ∃ p s e, q = .ref p ∧ QOk H p s e ∧ ∀ H', Same H H' → Q (.int (loudV s e z m)) H')) ∨ ((qhB H q = false ∨ betwV x (-1439) 1439 = false) ∧ E (.ref C) none H))
def sp_quiet_below (C : Addr) : Sp := fun vs H Q E => ∃ (p : Addr) (s e z m : Int), vs = [.ref p, .int z, .int m] ∧ QOk H p s e ∧ Q (.int (below s e (m + z))) H
def sp_quiet_count (C : Addr) : Sp := fun vs H Q E => ∃ (q x : V) (i o : Int), vs = [q, x, .int i, .int o] ∧ okV H q ∧ elemsOk H q ∧ okV H x ∧ ((∃ z, x = .int z ∧ -1439 ≤ z ∧ z ≤ 1439 ∧ ((q = .non ∧ Q (.int 0) H) ∨ ∃ p s e, q = .ref p ∧ QOk H p s e ∧ Q (.int (countV s e z i o)) H)) ∨ ((qhB H q = false ∨ betwV x (-1439) 1439 = false) ∧ E (.ref C) none H))
def sp_next_hour (C : Addr) : Sp := fun vs H Q E => ∃ (y x : V) (m : Int), vs = [y, x, .int m] ∧ okV H y ∧ okV H x ∧ ((∃ i z, y = .int i ∧ 0 ≤ i ∧ i ≤ 59 ∧ x = .int z ∧ -1439 ≤ z ∧ z ≤ 1439 ∧ Q (.int (m + (i - m - z) % 60)) H) ∨ ((betwV y 0 59 = false ∨ betwV x (-1439) 1439 = false) ∧ E (.ref C) none H))
def sp_next_day (C : Addr) : Sp := fun vs H Q E => ∃ (y x : V) (m : Int), vs = [y, x, .int m] ∧ okV H y ∧ okV H x ∧ ((∃ i z, y = .int i ∧ 0 ≤ i ∧ i ≤ 1439 ∧ x = .int z ∧ -1439 ≤ z ∧ z ≤ 1439 ∧ Q (.int (m + (i - m - z) % 1440)) H) ∨ ((betwV y 0 1439 = false ∨ betwV x (-1439) 1439 = false) ∧ E (.ref C) none H))
def sp_law_cell_at (K : PySem.W.Frag) : Sp := fun vs H Q _ => ∃ (a : Addr) (ns : List Int) (k : Int), vs = [.ref a, .int k] ∧ SqL K H a (ns.map V.int) ∧ 0 ≤ k ∧ ∀ c, Q (.int c) H
def sp_law_mixed (C : Addr) : Sp := fun vs H Q E => ∃ c k : Int, vs = [.int c, .int k] ∧ ∀ r, Q (.int r) H
def sp_law_well (C : Addr) : Sp := fun vs H Q E => ∃ c : Int, vs = [.int c] ∧ ∀ p a b c d, H p = none → Q (.ref p) (upd H p (.lst [.int a, .int b, .int c, .int d]))
def sp_law_draw (C : Addr) : Sp := fun vs H Q E => ∃ (w : Addr) (m : Int), vs = [.ref w, .int m] ∧ Well H w ∧ 0 < m ∧ m < 2 ^ 62 ∧ ∀ (r : Int) (H' : Hp), 0 ≤ r → r < m → Well H' w → But w H H' → Q (.int r) H'
def sp_law_quiet (C : Addr) : Sp := fun vs H Q E => ∃ w : Addr, vs = [.ref w] ∧ Well H w ∧ ∀ (q : V) (qo : Option (Int × Int)) (H' : Hp), Well H' w → But w H H' → QG H' q qo → Q q H'
def sp_law_bad_zone (C : Addr) : Sp := fun vs H Q E => ∃ w : Addr, vs = [.ref w] ∧ Well H w ∧ ∀ (x : V) (H' : Hp), Well H' w → But w H H' → okV H' x → betwV x (-1439) 1439 = false → Q x H'
def sp_law_bad_quiet (C : Addr) : Sp := fun vs H Q E => ∃ w : Addr, vs = [.ref w] ∧ Well H w ∧ ∀ (x : V) (H' : Hp), Well H' w → But w H H' → okV H' x → elemsOk H' x → qhB H' x = false → Q x H'
def sp_law_bad_minute (C : Addr) : Sp := fun vs H Q E => ∃ (w : Addr) (n : Int), vs = [.ref w, .int n] ∧ Well H w ∧ 60 ≤ n ∧ n ≤ 1440 ∧ ∀ (x : V) (H' : Hp), Well H' w → But w H H' → okV H' x → betwV x 0 (n - 1) = false → Q x H'
def sp_law_asked (C : Addr) : Sp := fun vs H Q E => ∃ (a m : Int) (zv q hv dv : V), vs = [.int a, zv, q, hv, dv, .int m] ∧ (okV H zv ∧ okV H q ∧ elemsOk H q ∧ okV H hv ∧ okV H dv ∧ (8 ≤ a ∨ ∃ d, dv = .int d)) ∧ ((∃ z qo h d, Gd H zv q hv dv z qo h d ∧ ∀ v H', Same H H' → Res H' v (val5 a z qo h d m) → Q v H') ∨ (bad5 H a zv q hv dv ∧ E (.ref C) none H))
def sp_law_refused (C : Addr) : Sp := fun vs H Q E => ∃ (a m : Int) (zv q hv dv : V), vs = [.int a, zv, q, hv, dv, .int m] ∧ (okV H zv ∧ okV H q ∧ elemsOk H q ∧ okV H hv ∧ okV H dv ∧ (8 ≤ a ∨ ∃ d, dv = .int d)) ∧ bad5 H a zv q hv dv ∧ ∀ H', Same H H' → Q (.bl true) H'
def sp_law_right (C : Addr) : Sp := fun vs H Q E => ∃ w : Addr, vs = [.ref w] ∧ Well H w ∧ ∀ H', But w H H' → Q (.bl true) H'
def sp_law (K : PySem.W.Frag) : Sp := fun vs H Q _ => ∃ (a : Addr) (ns : List Int), vs = [.ref a] ∧ SqL K H a (ns.map V.int) ∧ ns.length ≤ 63 ∧ ∀ H', Q (.bl true) H'
section
variable {P : Program} {w : World} {K : PySem.W.Frag} {mg : Str → Option Value} {base : Heap} {f C CB : Addr} {fd : FuncData} {t0 t1 : Tok} {aNoHappening aNoFit aNoWish aNoRoad aNoTime aNoRow aBackward aNoNumber aFallen aNoBook aNoText : Addr}
theorem drw {H : Hp} {w : Addr} {m : Int} {Q : VK} {E : XK} (W : Well H w) (h0 : 0 < m) (h1 : m < 2 ^ 62) (q : ∀ (r : Int) (H' : Hp), 0 ≤ r → r < m → Well H' w → But w H H' → Q (.int r) H') : sp_law_draw C [.ref w, .int m] H Q E := ⟨w, m, rfl, W, h0, h1, q⟩

theorem ok_is_whole (B : Bt K mg C CB t0 t1 aNoHappening aNoFit aNoWish aNoRoad aNoTime aNoRow aBackward aNoNumber aFallen aNoBook aNoText)  (F : Fun K "is_whole" "is_whole" s_is_whole f fd) : FnOk P w K mg base CX0 1 f fd ["thing"] ((sp_is_whole C)) := by
  refine F.ok sc_is_whole (fun vs H Q E h => ?_) (fun cdv A outer s H vs Q E hr h => ?_)
  · obtain ⟨x, rfl, _⟩ := h
    rfl
  obtain ⟨x, rfl, ox, q⟩ := h
  refine ⟨_, (pss_one (ps_ret (pe_and (pe_callB call_isi_int rfl B.isinstance PyProof.Rows.boot_isinstance (pa_cons (pv 0) (pa_cons (pe_bltn (v := .ty "int") rfl B.int PyProof.Rows.boot_int rfl) pa_nil))) (pe_one (pe_not (pe_callB call_isi_bool rfl B.isinstance PyProof.Rows.boot_isinstance (pa_cons (pv 0) (pa_cons (pe_bltn (v := .ty "bool") rfl B.bool PyProof.Rows.boot_bool rfl) pa_nil)))))))), ?_⟩
  try simp only [w_seq, w_next, w_ifS, w_ret, w_retN, w_drop, w_asg, w_gName, w_gSub, w_var, w_c, w_op, w_un, w_rU, w_rI0, w_rI, w_test, w_b, w_and, w_or, w_not, w_andV, w_orV, w_notV, w_if, w_cons, w_nil, w_tup, w_lst, w_call, w_cB, w_eq, w_ne, w_isN, w_notN, w_chain, w_sl, w_part, w_noPart, w_forL, w_for1, w_for2, w_K, w_for3, w_isnotB, w_raise, w_try, w_cut, w_KX,  exists_const, false_or, or_false, exists_false, w_s1, w_s2, w_s3, w_s4, w_s5, L2.start, List.map_cons, List.map_nil, List.length_cons, List.length_nil, List.replicate, List.replicate_zero, List.replicate_succ, Nat.reduceAdd, Nat.reduceSub, Nat.reduceLeDiff, List.cons_append, List.nil_append, List.append_nil, List.set_cons_zero, List.set_cons_succ, List.getElem?_cons_zero, List.getElem?_cons_succ, Option.some.injEq, V.int.injEq, V.bl.injEq, V.ref.injEq, V.str.injEq, V.ty.injEq, List.cons.injEq, and_true, true_and, exists_eq_left, exists_eq_left', exists_and_left, exists_eq, exists_eq', and_self, decide_eq_true_eq, Bool.not_eq_true', decide_eq_false_iff_not, Bool.true_eq_false, Bool.false_eq_true, if_true, if_false, ite_true, ite_false, false_and, and_false, and_assoc, reduceCtorEq]
  refine ⟨ox, ?_⟩
  cases x <;> simp_all [isIntV, isBoolV, wholeV, okV]

theorem ok_is_whole_between (B : Bt K mg C CB t0 t1 aNoHappening aNoFit aNoWish aNoRoad aNoTime aNoRow aBackward aNoNumber aFallen aNoBook aNoText) (C_is_whole : CalX P w K mg base "is_whole" ["thing"] 1 (sp_is_whole C)) (F : Fun K "is_whole_between" "is_whole_between" s_is_whole_between f fd) : FnOk P w K mg base CX0 2 f fd ["thing", "least", "most"] ((sp_is_whole_between C)) := by
  refine F.ok sc_is_whole_between (fun vs H Q E h => ?_) (fun cdv A outer s H vs Q E hr h => ?_)
  · obtain ⟨x, lo, hi, rfl, _⟩ := h
    rfl
  obtain ⟨x, lo, hi, rfl, ox, q⟩ := h
  refine ⟨_, (pss_one (ps_ret (pe_and (pe_calN C_is_whole (hr.mono (by decide)) rfl (pa_cons (pv 0) pa_nil)) (pe_and (pe_cmpR op_le (pv 1) (pv 0) (nomark _)) (pe_one (pe_cmpR op_le (pv 0) (pv 2) (nomark _))))))), ?_⟩
  try simp only [w_seq, w_next, w_ifS, w_ret, w_retN, w_drop, w_asg, w_gName, w_gSub, w_var, w_c, w_op, w_un, w_rU, w_rI0, w_rI, w_test, w_b, w_and, w_or, w_not, w_andV, w_orV, w_notV, w_if, w_cons, w_nil, w_tup, w_lst, w_call, w_cB, w_eq, w_ne, w_isN, w_notN, w_chain, w_sl, w_part, w_noPart, w_forL, w_for1, w_for2, w_K, w_for3, w_isnotB, w_raise, w_try, w_cut, w_KX,  exists_const, false_or, or_false, exists_false, w_s1, w_s2, w_s3, w_s4, w_s5, L2.start, List.map_cons, List.map_nil, List.length_cons, List.length_nil, List.replicate, List.replicate_zero, List.replicate_succ, Nat.reduceAdd, Nat.reduceSub, Nat.reduceLeDiff, List.cons_append, List.nil_append, List.append_nil, List.set_cons_zero, List.set_cons_succ, List.getElem?_cons_zero, List.getElem?_cons_succ, Option.some.injEq, V.int.injEq, V.bl.injEq, V.ref.injEq, V.str.injEq, V.ty.injEq, List.cons.injEq, and_true, true_and, exists_eq_left, exists_eq_left', exists_and_left, exists_eq, exists_eq', and_self, decide_eq_true_eq, Bool.not_eq_true', decide_eq_false_iff_not, Bool.true_eq_false, Bool.false_eq_true, if_true, if_false, ite_true, ite_false, false_and, and_false, and_assoc, reduceCtorEq]
  refine ⟨x, rfl, ox, ?_⟩
  cases x <;> simp_all [wholeV, betwV]
  split <;> simp_all

theorem ok_is_minute_of_day (B : Bt K mg C CB t0 t1 aNoHappening aNoFit aNoWish aNoRoad aNoTime aNoRow aBackward aNoNumber aFallen aNoBook aNoText) (C_is_whole_between : CalX P w K mg base "is_whole_between" ["thing", "least", "most"] 2 (sp_is_whole_between C)) (F : Fun K "is_minute_of_day" "is_minute_of_day" s_is_minute_of_day f fd) : FnOk P w K mg base CX0 3 f fd ["thing"] ((sp_is_minute_of_day C)) := by
  refine F.ok sc_is_minute_of_day (fun vs H Q E h => ?_) (fun cdv A outer s H vs Q E hr h => ?_)
  · obtain ⟨x, rfl, _⟩ := h
    rfl
  obtain ⟨x, rfl, ox, q⟩ := h
  refine ⟨_, (pss_one (ps_ret (pe_calN C_is_whole_between (hr.mono (by decide)) rfl (pa_cons (pv 0) (pa_cons pe_int (pa_cons (pe_op op_sub (pe_glob (v := .int 1440) rfl B.MINUTES_OF_DAY ⟨_, rfl⟩) pe_int) pa_nil)))))), ?_⟩
  try simp only [w_seq, w_next, w_ifS, w_ret, w_retN, w_drop, w_asg, w_gName, w_gSub, w_var, w_c, w_op, w_un, w_rU, w_rI0, w_rI, w_test, w_b, w_and, w_or, w_not, w_andV, w_orV, w_notV, w_if, w_cons, w_nil, w_tup, w_lst, w_call, w_cB, w_eq, w_ne, w_isN, w_notN, w_chain, w_sl, w_part, w_noPart, w_forL, w_for1, w_for2, w_K, w_for3, w_isnotB, w_raise, w_try, w_cut, w_KX,  exists_const, false_or, or_false, exists_false, w_s1, w_s2, w_s3, w_s4, w_s5, L2.start, List.map_cons, List.map_nil, List.length_cons, List.length_nil, List.replicate, List.replicate_zero, List.replicate_succ, Nat.reduceAdd, Nat.reduceSub, Nat.reduceLeDiff, List.cons_append, List.nil_append, List.append_nil, List.set_cons_zero, List.set_cons_succ, List.getElem?_cons_zero, List.getElem?_cons_succ, Option.some.injEq, V.int.injEq, V.bl.injEq, V.ref.injEq, V.str.injEq, V.ty.injEq, List.cons.injEq, and_true, true_and, exists_eq_left, exists_eq_left', exists_and_left, exists_eq, exists_eq', and_self, decide_eq_true_eq, Bool.not_eq_true', decide_eq_false_iff_not, Bool.true_eq_false, Bool.false_eq_true, if_true, if_false, ite_true, ite_false, false_and, and_false, and_assoc, reduceCtorEq]
  exact ⟨x, 0, 1440 - 1, rfl, ox, q⟩

theorem ok_law_cell_at (B : Bt K mg C CB t0 t1 aNoHappening aNoFit aNoWish aNoRoad aNoTime aNoRow aBackward aNoNumber aFallen aNoBook aNoText)  (F : Fun K "_law_cell_at" "_law_cell_at" s_law_cell_at f fd) : FnOk P w K mg base CX0 1 f fd ["_law_script", "_law_k"] ((sp_law_cell_at K)) := by
  refine F.ok sc_law_cell_at (fun vs H Q E h => ?_) (fun cdv A outer s H vs Q E hr h => ?_)
  · obtain ⟨a, ns, k, rfl, _⟩ := h
    rfl
  obtain ⟨a, ns, k, rfl, hS, k0, q⟩ := h
  refine ⟨_, (pss_cons (ps_if (pt_cmpR op_lt (pv 1) (pe_callB call_len rfl B.len PySem.boot_len (pa_cons (pv 0) pa_nil)) (nomark _)) (pss_one (ps_ret (pe_ix ix_list (pv 0) (pv 1) (fun _ _ => rfl)))) pss_nil) (pss_one (ps_ret pe_int))), ?_⟩
  try simp only [w_seq, w_next, w_ifS, w_ret, w_retN, w_drop, w_asg, w_gName, w_gSub, w_var, w_c, w_op, w_un, w_rU, w_rI0, w_rI, w_test, w_b, w_and, w_or, w_not, w_andV, w_orV, w_notV, w_if, w_cons, w_nil, w_tup, w_lst, w_call, w_cB, w_eq, w_ne, w_isN, w_notN, w_chain, w_sl, w_part, w_noPart, w_forL, w_for1, w_for2, w_K, w_for3, w_isnotB, w_raise, w_try, w_cut, w_KX,  exists_const, false_or, or_false, exists_false, w_s1, w_s2, w_s3, w_s4, w_s5, L2.start, List.map_cons, List.map_nil, List.length_cons, List.length_nil, List.replicate, List.replicate_zero, List.replicate_succ, Nat.reduceAdd, Nat.reduceSub, Nat.reduceLeDiff, List.cons_append, List.nil_append, List.append_nil, List.set_cons_zero, List.set_cons_succ, List.getElem?_cons_zero, List.getElem?_cons_succ, Option.some.injEq, V.int.injEq, V.bl.injEq, V.ref.injEq, V.str.injEq, V.ty.injEq, List.cons.injEq, and_true, true_and, exists_eq_left, exists_eq_left', exists_and_left, exists_eq, exists_eq', and_self, decide_eq_true_eq, Bool.not_eq_true', decide_eq_false_iff_not, Bool.true_eq_false, Bool.false_eq_true, if_true, if_false, ite_true, ite_false, false_and, and_false, and_assoc, reduceCtorEq]
  refine ⟨_, .inl ⟨_, hS, rfl⟩, ?_⟩
  try simp only [w_seq, w_next, w_ifS, w_ret, w_retN, w_drop, w_asg, w_gName, w_gSub, w_var, w_c, w_op, w_un, w_rU, w_rI0, w_rI, w_test, w_b, w_and, w_or, w_not, w_andV, w_orV, w_notV, w_if, w_cons, w_nil, w_tup, w_lst, w_call, w_cB, w_eq, w_ne, w_isN, w_notN, w_chain, w_sl, w_part, w_noPart, w_forL, w_for1, w_for2, w_K, w_for3, w_isnotB, w_raise, w_try, w_cut, w_KX,  exists_const, false_or, or_false, exists_false, w_s1, w_s2, w_s3, w_s4, w_s5, L2.start, List.map_cons, List.map_nil, List.length_cons, List.length_nil, List.replicate, List.replicate_zero, List.replicate_succ, Nat.reduceAdd, Nat.reduceSub, Nat.reduceLeDiff, List.cons_append, List.nil_append, List.append_nil, List.set_cons_zero, List.set_cons_succ, List.getElem?_cons_zero, List.getElem?_cons_succ, Option.some.injEq, V.int.injEq, V.bl.injEq, V.ref.injEq, V.str.injEq, V.ty.injEq, List.cons.injEq, and_true, true_and, exists_eq_left, exists_eq_left', exists_and_left, exists_eq, exists_eq', and_self, decide_eq_true_eq, Bool.not_eq_true', decide_eq_false_iff_not, Bool.true_eq_false, Bool.false_eq_true, if_true, if_false, ite_true, ite_false, false_and, and_false, and_assoc, reduceCtorEq]
  split
  · rename_i hk
    rw [List.length_map] at hk
    obtain ⟨z, _, ez⟩ := at_mem k0 hk
    exact ixl hS ez (q z)
  · exact q 0

theorem ok_law_mixed (B : Bt K mg C CB t0 t1 aNoHappening aNoFit aNoWish aNoRoad aNoTime aNoRow aBackward aNoNumber aFallen aNoBook aNoText)  (F : Fun K "_law_mixed" "_law_mixed" s_law_mixed f fd) : FnOk P w K mg base CX0 1 f fd ["_law_cell", "_law_k"] ((sp_law_mixed C)) := by
  refine F.ok sc_law_mixed (fun vs H Q E h => ?_) (fun cdv A outer s H vs Q E hr h => ?_)
  · obtain ⟨c, k, rfl, _⟩ := h
    rfl
  obtain ⟨c, k, rfl, q⟩ := h
  refine ⟨_, (pss_cons (ps_set (i := 2) sc_law_mixed.nd rfl (Or.inl rfl) (pe_op op_mod (pe_op op_mul (pe_op op_add (pe_op op_add (pv 0) (pe_op op_mul pe_int (pv 1))) pe_int) pe_int) pe_int)) (pss_cons (ps_set (i := 2) sc_law_mixed.nd rfl (Or.inl rfl) (pe_op op_mod (pe_op op_mul (pv 2) (pe_op op_add (pe_op op_fdivL (pv 2) pe_int) pe_int)) pe_int)) (pss_one (ps_ret (pe_op op_mod (pe_op op_mul (pv 2) (pe_op op_add (pe_op op_add (pe_op op_fdivL (pv 2) pe_int) pe_int) (pv 1))) pe_int))))), ?_⟩
  try simp only [w_seq, w_next, w_ifS, w_ret, w_retN, w_drop, w_asg, w_gName, w_gSub, w_var, w_c, w_op, w_un, w_rU, w_rI0, w_rI, w_test, w_b, w_and, w_or, w_not, w_andV, w_orV, w_notV, w_if, w_cons, w_nil, w_tup, w_lst, w_call, w_cB, w_eq, w_ne, w_isN, w_notN, w_chain, w_sl, w_part, w_noPart, w_forL, w_for1, w_for2, w_K, w_for3, w_isnotB, w_raise, w_try, w_cut, w_KX,  exists_const, false_or, or_false, exists_false, w_s1, w_s2, w_s3, w_s4, w_s5, L2.start, List.map_cons, List.map_nil, List.length_cons, List.length_nil, List.replicate, List.replicate_zero, List.replicate_succ, Nat.reduceAdd, Nat.reduceSub, Nat.reduceLeDiff, List.cons_append, List.nil_append, List.append_nil, List.set_cons_zero, List.set_cons_succ, List.getElem?_cons_zero, List.getElem?_cons_succ, Option.some.injEq, V.int.injEq, V.bl.injEq, V.ref.injEq, V.str.injEq, V.ty.injEq, List.cons.injEq, and_true, true_and, exists_eq_left, exists_eq_left', exists_and_left, exists_eq, exists_eq', and_self, decide_eq_true_eq, Bool.not_eq_true', decide_eq_false_iff_not, Bool.true_eq_false, Bool.false_eq_true, if_true, if_false, ite_true, ite_false, false_and, and_false, and_assoc, reduceCtorEq]
  have e1 := Int.emod_nonneg ((c + 7919 * k + 1) * 48271) (b := 2147483647) (by decide)
  have e2 := Int.emod_lt_of_pos ((c + 7919 * k + 1) * 48271) (b := 2147483647) (by decide)
  generalize (c + 7919 * k + 1) * 48271 % 2147483647 = x at *
  have e3 := Int.emod_nonneg (x * (x / 1009 + 69621)) (b := 2147483647) (by decide)
  have e4 := Int.emod_lt_of_pos (x * (x / 1009 + 69621)) (b := 2147483647) (by decide)
  generalize x * (x / 1009 + 69621) % 2147483647 = y at *
  refine ⟨.inl ⟨by decide, by decide⟩, .inr ⟨by decide, by decide⟩, by decide, ⟨by decide, by decide⟩, .inl ⟨by omega, by omega⟩, by decide, ⟨by decide, by decide⟩, .inl ⟨by omega, by omega⟩, by decide, q _⟩

theorem ok_law_well (B : Bt K mg C CB t0 t1 aNoHappening aNoFit aNoWish aNoRoad aNoTime aNoRow aBackward aNoNumber aFallen aNoBook aNoText)  (F : Fun K "_law_well" "_law_well" s_law_well f fd) : FnOk P w K mg base CX0 1 f fd ["_law_cell"] ((sp_law_well C)) := by
  refine F.ok sc_law_well (fun vs H Q E h => ?_) (fun cdv A outer s H vs Q E hr h => ?_)
  · obtain ⟨c, rfl, _⟩ := h
    rfl
  obtain ⟨c, rfl, q⟩ := h
  refine ⟨_, (pss_one (ps_ret (pe_lst (pa_cons (pe_op op_fdivL (pv 0) pe_int) (pa_cons (pe_op op_mod (pv 0) pe_int) (pa_cons (pe_op op_mod (pv 0) pe_int) (pa_cons pe_int pa_nil))))))), ?_⟩
  try simp only [w_seq, w_next, w_ifS, w_ret, w_retN, w_drop, w_asg, w_gName, w_gSub, w_var, w_c, w_op, w_un, w_rU, w_rI0, w_rI, w_test, w_b, w_and, w_or, w_not, w_andV, w_orV, w_notV, w_if, w_cons, w_nil, w_tup, w_lst, w_call, w_cB, w_eq, w_ne, w_isN, w_notN, w_chain, w_sl, w_part, w_noPart, w_forL, w_for1, w_for2, w_K, w_for3, w_isnotB, w_raise, w_try, w_cut, w_KX,  exists_const, false_or, or_false, exists_false, w_s1, w_s2, w_s3, w_s4, w_s5, L2.start, List.map_cons, List.map_nil, List.length_cons, List.length_nil, List.replicate, List.replicate_zero, List.replicate_succ, Nat.reduceAdd, Nat.reduceSub, Nat.reduceLeDiff, List.cons_append, List.nil_append, List.append_nil, List.set_cons_zero, List.set_cons_succ, List.getElem?_cons_zero, List.getElem?_cons_succ, Option.some.injEq, V.int.injEq, V.bl.injEq, V.ref.injEq, V.str.injEq, V.ty.injEq, List.cons.injEq, and_true, true_and, exists_eq_left, exists_eq_left', exists_and_left, exists_eq, exists_eq', and_self, decide_eq_true_eq, Bool.not_eq_true', decide_eq_false_iff_not, Bool.true_eq_false, Bool.false_eq_true, if_true, if_false, ite_true, ite_false, false_and, and_false, and_assoc, reduceCtorEq]
  exact ⟨⟨by decide, by decide⟩, by decide, by decide, sz8 (by decide), fun p hp => q p _ _ _ _ hp⟩

theorem ok_law_draw (B : Bt K mg C CB t0 t1 aNoHappening aNoFit aNoWish aNoRoad aNoTime aNoRow aBackward aNoNumber aFallen aNoBook aNoText) (C_law_mixed : CalX P w K mg base "_law_mixed" ["_law_cell", "_law_k"] 1 (sp_law_mixed C)) (F : Fun K "_law_draw" "_law_draw" s_law_draw f fd) : FnOk P w K mg base CX0 2 f fd ["_law_well_here", "_law_most"] ((sp_law_draw C)) := by
  refine F.ok sc_law_draw (fun vs H Q E h => ?_) (fun cdv A outer s H vs Q E hr h => ?_)
  · obtain ⟨wl, m, rfl, _⟩ := h
    rfl
  obtain ⟨wl, m, rfl, W, m0, m1, q⟩ := h
  refine ⟨_, (pss_cons (ps_if (L2.PW.pt (pw_and (pt_cmpR op_eq (pe_ix ix_list (pv 0) pe_int (fun _ _ => rfl)) pe_int (nomark _)) (pw_and1 (pt_cmpR op_gt (pe_ix ix_list (pv 0) pe_int (fun _ _ => rfl)) pe_int (nomark _))))) (pss_cons (ps_set (i := 2) sc_law_draw.nd rfl (Or.inl rfl) (pe_op op_mod (pe_ix ix_list (pv 0) pe_int (fun _ _ => rfl)) (pv 1))) (pss_cons (ps_asg (pe_op op_fdivL (pe_ix ix_list (pv 0) pe_int (fun _ _ => rfl)) (pv 1)) (pg_sub (pv 0) pe_int set_list)) (pss_one (ps_ret (pv 2))))) pss_nil) (pss_cons (ps_set (i := 2) sc_law_draw.nd rfl (Or.inl rfl) pe_int) (pss_cons (ps_for PassesOwn.never rfl (pi_range1 rfl B.range (pa_cons (pe_op op_add pe_int (pe_op op_mul pe_int (pe_callTy call_int1 rfl B.int PyProof.Rows.boot_int (pa_cons (pe_cmpR op_gt (pv 1) (pe_op op_pow pe_int pe_int) (nomark _)) pa_nil)))) pa_nil)) (pg_name (i := 3) sc_law_draw.nd rfl (Or.inl rfl)) (pss_cons (ps_asg (pe_op op_add (pe_ix ix_list (pv 0) pe_int (fun _ _ => rfl)) pe_int) (pg_sub (pv 0) pe_int set_list)) (pss_one (ps_set (i := 2) sc_law_draw.nd rfl (Or.inl rfl) (pe_op op_add (pe_op op_mul (pv 2) pe_int) (pe_calN C_law_mixed (hr.mono (by decide)) rfl (pa_cons (pe_ix ix_list (pv 0) pe_int (fun _ _ => rfl)) (pa_cons (pe_ix ix_list (pv 0) pe_int (fun _ _ => rfl)) pa_nil)))))))) (pss_one (ps_ret (pe_op op_mod (pv 2) (pv 1))))))), ?_⟩
  obtain ⟨a, b, c, d, hw⟩ := W
  have fin : ∀ r : Int, 0 < m → 0 ≤ r % m ∧ r % m < m := fun r h => ⟨Int.emod_nonneg _ (by omega), Int.emod_lt_of_pos _ h⟩
  try simp only [w_seq, w_next, w_ifS, w_ret, w_retN, w_drop, w_asg, w_gName, w_gSub, w_var, w_c, w_op, w_un, w_rU, w_rI0, w_rI, w_test, w_b, w_and, w_or, w_not, w_andV, w_orV, w_notV, w_if, w_cons, w_nil, w_tup, w_lst, w_call, w_cB, w_eq, w_ne, w_isN, w_notN, w_chain, w_sl, w_part, w_noPart, w_forL, w_for1, w_for2, w_K, w_for3, w_isnotB, w_raise, w_try, w_cut, w_KX,  exists_const, false_or, or_false, exists_false, w_s1, w_s2, w_s3, w_s4, w_s5, L2.start, List.map_cons, List.map_nil, List.length_cons, List.length_nil, List.replicate, List.replicate_zero, List.replicate_succ, Nat.reduceAdd, Nat.reduceSub, Nat.reduceLeDiff, List.cons_append, List.nil_append, List.append_nil, List.set_cons_zero, List.set_cons_succ, List.getElem?_cons_zero, List.getElem?_cons_succ, Option.some.injEq, V.int.injEq, V.bl.injEq, V.ref.injEq, V.str.injEq, V.ty.injEq, List.cons.injEq, and_true, true_and, exists_eq_left, exists_eq_left', exists_and_left, exists_eq, exists_eq', and_self, decide_eq_true_eq, Bool.not_eq_true', decide_eq_false_iff_not, Bool.true_eq_false, Bool.false_eq_true, if_true, if_false, ite_true, ite_false, false_and, and_false, and_assoc, reduceCtorEq]
  refine ixl (SqL.of hw) (v := .int b) rfl ?_
  try simp only [w_seq, w_next, w_ifS, w_ret, w_retN, w_drop, w_asg, w_gName, w_gSub, w_var, w_c, w_op, w_un, w_rU, w_rI0, w_rI, w_test, w_b, w_and, w_or, w_not, w_andV, w_orV, w_notV, w_if, w_cons, w_nil, w_tup, w_lst, w_call, w_cB, w_eq, w_ne, w_isN, w_notN, w_chain, w_sl, w_part, w_noPart, w_forL, w_for1, w_for2, w_K, w_for3, w_isnotB, w_raise, w_try, w_cut, w_KX,  exists_const, false_or, or_false, exists_false, w_s1, w_s2, w_s3, w_s4, w_s5, L2.start, List.map_cons, List.map_nil, List.length_cons, List.length_nil, List.replicate, List.replicate_zero, List.replicate_succ, Nat.reduceAdd, Nat.reduceSub, Nat.reduceLeDiff, List.cons_append, List.nil_append, List.append_nil, List.set_cons_zero, List.set_cons_succ, List.getElem?_cons_zero, List.getElem?_cons_succ, Option.some.injEq, V.int.injEq, V.bl.injEq, V.ref.injEq, V.str.injEq, V.ty.injEq, List.cons.injEq, and_true, true_and, exists_eq_left, exists_eq_left', exists_and_left, exists_eq, exists_eq', and_self, decide_eq_true_eq, Bool.not_eq_true', decide_eq_false_iff_not, Bool.true_eq_false, Bool.false_eq_true, if_true, if_false, ite_true, ite_false, false_and, and_false, and_assoc, reduceCtorEq]
  by_cases hb : b = 0
  · rw [if_pos hb]
    refine ixl (SqL.of hw) (v := .int a) rfl ?_
    try simp only [w_seq, w_next, w_ifS, w_ret, w_retN, w_drop, w_asg, w_gName, w_gSub, w_var, w_c, w_op, w_un, w_rU, w_rI0, w_rI, w_test, w_b, w_and, w_or, w_not, w_andV, w_orV, w_notV, w_if, w_cons, w_nil, w_tup, w_lst, w_call, w_cB, w_eq, w_ne, w_isN, w_notN, w_chain, w_sl, w_part, w_noPart, w_forL, w_for1, w_for2, w_K, w_for3, w_isnotB, w_raise, w_try, w_cut, w_KX,  exists_const, false_or, or_false, exists_false, w_s1, w_s2, w_s3, w_s4, w_s5, L2.start, List.map_cons, List.map_nil, List.length_cons, List.length_nil, List.replicate, List.replicate_zero, List.replicate_succ, Nat.reduceAdd, Nat.reduceSub, Nat.reduceLeDiff, List.cons_append, List.nil_append, List.append_nil, List.set_cons_zero, List.set_cons_succ, List.getElem?_cons_zero, List.getElem?_cons_succ, Option.some.injEq, V.int.injEq, V.bl.injEq, V.ref.injEq, V.str.injEq, V.ty.injEq, List.cons.injEq, and_true, true_and, exists_eq_left, exists_eq_left', exists_and_left, exists_eq, exists_eq', and_self, decide_eq_true_eq, Bool.not_eq_true', decide_eq_false_iff_not, Bool.true_eq_false, Bool.false_eq_true, if_true, if_false, ite_true, ite_false, false_and, and_false, and_assoc, reduceCtorEq]
    by_cases ha : 0 < a
    · rw [if_pos ha]
      refine ixl (SqL.of hw) (v := .int a) rfl ?_
      try simp only [w_seq, w_next, w_ifS, w_ret, w_retN, w_drop, w_asg, w_gName, w_gSub, w_var, w_c, w_op, w_un, w_rU, w_rI0, w_rI, w_test, w_b, w_and, w_or, w_not, w_andV, w_orV, w_notV, w_if, w_cons, w_nil, w_tup, w_lst, w_call, w_cB, w_eq, w_ne, w_isN, w_notN, w_chain, w_sl, w_part, w_noPart, w_forL, w_for1, w_for2, w_K, w_for3, w_isnotB, w_raise, w_try, w_cut, w_KX,  exists_const, false_or, or_false, exists_false, w_s1, w_s2, w_s3, w_s4, w_s5, L2.start, List.map_cons, List.map_nil, List.length_cons, List.length_nil, List.replicate, List.replicate_zero, List.replicate_succ, Nat.reduceAdd, Nat.reduceSub, Nat.reduceLeDiff, List.cons_append, List.nil_append, List.append_nil, List.set_cons_zero, List.set_cons_succ, List.getElem?_cons_zero, List.getElem?_cons_succ, Option.some.injEq, V.int.injEq, V.bl.injEq, V.ref.injEq, V.str.injEq, V.ty.injEq, List.cons.injEq, and_true, true_and, exists_eq_left, exists_eq_left', exists_and_left, exists_eq, exists_eq', and_self, decide_eq_true_eq, Bool.not_eq_true', decide_eq_false_iff_not, Bool.true_eq_false, Bool.false_eq_true, if_true, if_false, ite_true, ite_false, false_and, and_false, and_assoc, reduceCtorEq]
      refine ⟨m0, ixl (SqL.of hw) (v := .int a) rfl ?_⟩
      try simp only [w_seq, w_next, w_ifS, w_ret, w_retN, w_drop, w_asg, w_gName, w_gSub, w_var, w_c, w_op, w_un, w_rU, w_rI0, w_rI, w_test, w_b, w_and, w_or, w_not, w_andV, w_orV, w_notV, w_if, w_cons, w_nil, w_tup, w_lst, w_call, w_cB, w_eq, w_ne, w_isN, w_notN, w_chain, w_sl, w_part, w_noPart, w_forL, w_for1, w_for2, w_K, w_for3, w_isnotB, w_raise, w_try, w_cut, w_KX,  exists_const, false_or, or_false, exists_false, w_s1, w_s2, w_s3, w_s4, w_s5, L2.start, List.map_cons, List.map_nil, List.length_cons, List.length_nil, List.replicate, List.replicate_zero, List.replicate_succ, Nat.reduceAdd, Nat.reduceSub, Nat.reduceLeDiff, List.cons_append, List.nil_append, List.append_nil, List.set_cons_zero, List.set_cons_succ, List.getElem?_cons_zero, List.getElem?_cons_succ, Option.some.injEq, V.int.injEq, V.bl.injEq, V.ref.injEq, V.str.injEq, V.ty.injEq, List.cons.injEq, and_true, true_and, exists_eq_left, exists_eq_left', exists_and_left, exists_eq, exists_eq', and_self, decide_eq_true_eq, Bool.not_eq_true', decide_eq_false_iff_not, Bool.true_eq_false, Bool.false_eq_true, if_true, if_false, ite_true, ite_false, false_and, and_false, and_assoc, reduceCtorEq]
      refine ⟨⟨m0, m1⟩, setl hw (j := 0) rfl ?_⟩
      try simp only [w_seq, w_next, w_ifS, w_ret, w_retN, w_drop, w_asg, w_gName, w_gSub, w_var, w_c, w_op, w_un, w_rU, w_rI0, w_rI, w_test, w_b, w_and, w_or, w_not, w_andV, w_orV, w_notV, w_if, w_cons, w_nil, w_tup, w_lst, w_call, w_cB, w_eq, w_ne, w_isN, w_notN, w_chain, w_sl, w_part, w_noPart, w_forL, w_for1, w_for2, w_K, w_for3, w_isnotB, w_raise, w_try, w_cut, w_KX,  exists_const, false_or, or_false, exists_false, w_s1, w_s2, w_s3, w_s4, w_s5, L2.start, List.map_cons, List.map_nil, List.length_cons, List.length_nil, List.replicate, List.replicate_zero, List.replicate_succ, Nat.reduceAdd, Nat.reduceSub, Nat.reduceLeDiff, List.cons_append, List.nil_append, List.append_nil, List.set_cons_zero, List.set_cons_succ, List.getElem?_cons_zero, List.getElem?_cons_succ, Option.some.injEq, V.int.injEq, V.bl.injEq, V.ref.injEq, V.str.injEq, V.ty.injEq, List.cons.injEq, and_true, true_and, exists_eq_left, exists_eq_left', exists_and_left, exists_eq, exists_eq', and_self, decide_eq_true_eq, Bool.not_eq_true', decide_eq_false_iff_not, Bool.true_eq_false, Bool.false_eq_true, if_true, if_false, ite_true, ite_false, false_and, and_false, and_assoc, reduceCtorEq]
      exact q _ _ (fin a m0).1 (fin a m0).2 ⟨_, _, _, _, upd_same⟩ (But.upd _)
    · rw [if_neg ha]
      refine ⟨⟨by decide, by decide, by decide⟩, ?_⟩
      have he : 0 ≤ (if (10 : Int) ^ Int.toNat 6 < m then (1 : Int) else 0) ∧ (if (10 : Int) ^ Int.toNat 6 < m then (1 : Int) else 0) ≤ 1 := by split <;> omega
      generalize (if (10 : Int) ^ Int.toNat 6 < m then (1 : Int) else 0) = e at *
      refine ⟨.inl ⟨by decide, by decide⟩, by omega, by omega, ?_⟩
      refine ForR.by (fun _ σ H1 => ∃ (fv : Int) (tv : Option V), σ = [some (.ref wl), some (.int m), some (.int fv), tv] ∧ Well H1 wl ∧ But wl H H1) ⟨0, none, rfl, ⟨a, b, c, d, hw⟩, But.refl _ _⟩ ?_ ?_
      · rintro i σ H1 hi ⟨fv, tv, rfl, ⟨a', b', c', d', hw1⟩, B1⟩
        try simp only [w_seq, w_next, w_ifS, w_ret, w_retN, w_drop, w_asg, w_gName, w_gSub, w_var, w_c, w_op, w_un, w_rU, w_rI0, w_rI, w_test, w_b, w_and, w_or, w_not, w_andV, w_orV, w_notV, w_if, w_cons, w_nil, w_tup, w_lst, w_call, w_cB, w_eq, w_ne, w_isN, w_notN, w_chain, w_sl, w_part, w_noPart, w_forL, w_for1, w_for2, w_K, w_for3, w_isnotB, w_raise, w_try, w_cut, w_KX,  exists_const, false_or, or_false, exists_false, w_s1, w_s2, w_s3, w_s4, w_s5, L2.start, List.map_cons, List.map_nil, List.length_cons, List.length_nil, List.replicate, List.replicate_zero, List.replicate_succ, Nat.reduceAdd, Nat.reduceSub, Nat.reduceLeDiff, List.cons_append, List.nil_append, List.append_nil, List.set_cons_zero, List.set_cons_succ, List.getElem?_cons_zero, List.getElem?_cons_succ, Option.some.injEq, V.int.injEq, V.bl.injEq, V.ref.injEq, V.str.injEq, V.ty.injEq, List.cons.injEq, and_true, true_and, exists_eq_left, exists_eq_left', exists_and_left, exists_eq, exists_eq', and_self, decide_eq_true_eq, Bool.not_eq_true', decide_eq_false_iff_not, Bool.true_eq_false, Bool.false_eq_true, if_true, if_false, ite_true, ite_false, false_and, and_false, and_assoc, reduceCtorEq]
        refine ixl (SqL.of hw1) (v := .int d') rfl ?_
        try simp only [w_seq, w_next, w_ifS, w_ret, w_retN, w_drop, w_asg, w_gName, w_gSub, w_var, w_c, w_op, w_un, w_rU, w_rI0, w_rI, w_test, w_b, w_and, w_or, w_not, w_andV, w_orV, w_notV, w_if, w_cons, w_nil, w_tup, w_lst, w_call, w_cB, w_eq, w_ne, w_isN, w_notN, w_chain, w_sl, w_part, w_noPart, w_forL, w_for1, w_for2, w_K, w_for3, w_isnotB, w_raise, w_try, w_cut, w_KX,  exists_const, false_or, or_false, exists_false, w_s1, w_s2, w_s3, w_s4, w_s5, L2.start, List.map_cons, List.map_nil, List.length_cons, List.length_nil, List.replicate, List.replicate_zero, List.replicate_succ, Nat.reduceAdd, Nat.reduceSub, Nat.reduceLeDiff, List.cons_append, List.nil_append, List.append_nil, List.set_cons_zero, List.set_cons_succ, List.getElem?_cons_zero, List.getElem?_cons_succ, Option.some.injEq, V.int.injEq, V.bl.injEq, V.ref.injEq, V.str.injEq, V.ty.injEq, List.cons.injEq, and_true, true_and, exists_eq_left, exists_eq_left', exists_and_left, exists_eq, exists_eq', and_self, decide_eq_true_eq, Bool.not_eq_true', decide_eq_false_iff_not, Bool.true_eq_false, Bool.false_eq_true, if_true, if_false, ite_true, ite_false, false_and, and_false, and_assoc, reduceCtorEq]
        refine setl hw1 (j := 3) rfl ?_
        try simp only [w_seq, w_next, w_ifS, w_ret, w_retN, w_drop, w_asg, w_gName, w_gSub, w_var, w_c, w_op, w_un, w_rU, w_rI0, w_rI, w_test, w_b, w_and, w_or, w_not, w_andV, w_orV, w_notV, w_if, w_cons, w_nil, w_tup, w_lst, w_call, w_cB, w_eq, w_ne, w_isN, w_notN, w_chain, w_sl, w_part, w_noPart, w_forL, w_for1, w_for2, w_K, w_for3, w_isnotB, w_raise, w_try, w_cut, w_KX,  exists_const, false_or, or_false, exists_false, w_s1, w_s2, w_s3, w_s4, w_s5, L2.start, List.map_cons, List.map_nil, List.length_cons, List.length_nil, List.replicate, List.replicate_zero, List.replicate_succ, Nat.reduceAdd, Nat.reduceSub, Nat.reduceLeDiff, List.cons_append, List.nil_append, List.append_nil, List.set_cons_zero, List.set_cons_succ, List.getElem?_cons_zero, List.getElem?_cons_succ, Option.some.injEq, V.int.injEq, V.bl.injEq, V.ref.injEq, V.str.injEq, V.ty.injEq, List.cons.injEq, and_true, true_and, exists_eq_left, exists_eq_left', exists_and_left, exists_eq, exists_eq', and_self, decide_eq_true_eq, Bool.not_eq_true', decide_eq_false_iff_not, Bool.true_eq_false, Bool.false_eq_true, if_true, if_false, ite_true, ite_false, false_and, and_false, and_assoc, reduceCtorEq]
        refine ⟨.inr ⟨by decide, by decide⟩, ?_⟩
        refine ixl (SqL.of upd_same) (v := .int c') rfl ?_
        try simp only [w_seq, w_next, w_ifS, w_ret, w_retN, w_drop, w_asg, w_gName, w_gSub, w_var, w_c, w_op, w_un, w_rU, w_rI0, w_rI, w_test, w_b, w_and, w_or, w_not, w_andV, w_orV, w_notV, w_if, w_cons, w_nil, w_tup, w_lst, w_call, w_cB, w_eq, w_ne, w_isN, w_notN, w_chain, w_sl, w_part, w_noPart, w_forL, w_for1, w_for2, w_K, w_for3, w_isnotB, w_raise, w_try, w_cut, w_KX,  exists_const, false_or, or_false, exists_false, w_s1, w_s2, w_s3, w_s4, w_s5, L2.start, List.map_cons, List.map_nil, List.length_cons, List.length_nil, List.replicate, List.replicate_zero, List.replicate_succ, Nat.reduceAdd, Nat.reduceSub, Nat.reduceLeDiff, List.cons_append, List.nil_append, List.append_nil, List.set_cons_zero, List.set_cons_succ, List.getElem?_cons_zero, List.getElem?_cons_succ, Option.some.injEq, V.int.injEq, V.bl.injEq, V.ref.injEq, V.str.injEq, V.ty.injEq, List.cons.injEq, and_true, true_and, exists_eq_left, exists_eq_left', exists_and_left, exists_eq, exists_eq', and_self, decide_eq_true_eq, Bool.not_eq_true', decide_eq_false_iff_not, Bool.true_eq_false, Bool.false_eq_true, if_true, if_false, ite_true, ite_false, false_and, and_false, and_assoc, reduceCtorEq]
        refine ixl (SqL.of upd_same) (v := .int (d' + 1)) rfl ?_
        try simp only [w_seq, w_next, w_ifS, w_ret, w_retN, w_drop, w_asg, w_gName, w_gSub, w_var, w_c, w_op, w_un, w_rU, w_rI0, w_rI, w_test, w_b, w_and, w_or, w_not, w_andV, w_orV, w_notV, w_if, w_cons, w_nil, w_tup, w_lst, w_call, w_cB, w_eq, w_ne, w_isN, w_notN, w_chain, w_sl, w_part, w_noPart, w_forL, w_for1, w_for2, w_K, w_for3, w_isnotB, w_raise, w_try, w_cut, w_KX,  exists_const, false_or, or_false, exists_false, w_s1, w_s2, w_s3, w_s4, w_s5, L2.start, List.map_cons, List.map_nil, List.length_cons, List.length_nil, List.replicate, List.replicate_zero, List.replicate_succ, Nat.reduceAdd, Nat.reduceSub, Nat.reduceLeDiff, List.cons_append, List.nil_append, List.append_nil, List.set_cons_zero, List.set_cons_succ, List.getElem?_cons_zero, List.getElem?_cons_succ, Option.some.injEq, V.int.injEq, V.bl.injEq, V.ref.injEq, V.str.injEq, V.ty.injEq, List.cons.injEq, and_true, true_and, exists_eq_left, exists_eq_left', exists_and_left, exists_eq, exists_eq', and_self, decide_eq_true_eq, Bool.not_eq_true', decide_eq_false_iff_not, Bool.true_eq_false, Bool.false_eq_true, if_true, if_false, ite_true, ite_false, false_and, and_false, and_assoc, reduceCtorEq]
        refine ⟨_, _, rfl, fun r => ?_⟩
        try simp only [w_seq, w_next, w_ifS, w_ret, w_retN, w_drop, w_asg, w_gName, w_gSub, w_var, w_c, w_op, w_un, w_rU, w_rI0, w_rI, w_test, w_b, w_and, w_or, w_not, w_andV, w_orV, w_notV, w_if, w_cons, w_nil, w_tup, w_lst, w_call, w_cB, w_eq, w_ne, w_isN, w_notN, w_chain, w_sl, w_part, w_noPart, w_forL, w_for1, w_for2, w_K, w_for3, w_isnotB, w_raise, w_try, w_cut, w_KX,  exists_const, false_or, or_false, exists_false, w_s1, w_s2, w_s3, w_s4, w_s5, L2.start, List.map_cons, List.map_nil, List.length_cons, List.length_nil, List.replicate, List.replicate_zero, List.replicate_succ, Nat.reduceAdd, Nat.reduceSub, Nat.reduceLeDiff, List.cons_append, List.nil_append, List.append_nil, List.set_cons_zero, List.set_cons_succ, List.getElem?_cons_zero, List.getElem?_cons_succ, Option.some.injEq, V.int.injEq, V.bl.injEq, V.ref.injEq, V.str.injEq, V.ty.injEq, List.cons.injEq, and_true, true_and, exists_eq_left, exists_eq_left', exists_and_left, exists_eq, exists_eq', and_self, decide_eq_true_eq, Bool.not_eq_true', decide_eq_false_iff_not, Bool.true_eq_false, Bool.false_eq_true, if_true, if_false, ite_true, ite_false, false_and, and_false, and_assoc, reduceCtorEq]
        exact ⟨⟨_, _, _, _, upd_same⟩, B1.trans (But.upd _)⟩
      · rintro σ H1 ⟨fv, tv, rfl, W1, B1⟩
        try simp only [w_seq, w_next, w_ifS, w_ret, w_retN, w_drop, w_asg, w_gName, w_gSub, w_var, w_c, w_op, w_un, w_rU, w_rI0, w_rI, w_test, w_b, w_and, w_or, w_not, w_andV, w_orV, w_notV, w_if, w_cons, w_nil, w_tup, w_lst, w_call, w_cB, w_eq, w_ne, w_isN, w_notN, w_chain, w_sl, w_part, w_noPart, w_forL, w_for1, w_for2, w_K, w_for3, w_isnotB, w_raise, w_try, w_cut, w_KX,  exists_const, false_or, or_false, exists_false, w_s1, w_s2, w_s3, w_s4, w_s5, L2.start, List.map_cons, List.map_nil, List.length_cons, List.length_nil, List.replicate, List.replicate_zero, List.replicate_succ, Nat.reduceAdd, Nat.reduceSub, Nat.reduceLeDiff, List.cons_append, List.nil_append, List.append_nil, List.set_cons_zero, List.set_cons_succ, List.getElem?_cons_zero, List.getElem?_cons_succ, Option.some.injEq, V.int.injEq, V.bl.injEq, V.ref.injEq, V.str.injEq, V.ty.injEq, List.cons.injEq, and_true, true_and, exists_eq_left, exists_eq_left', exists_and_left, exists_eq, exists_eq', and_self, decide_eq_true_eq, Bool.not_eq_true', decide_eq_false_iff_not, Bool.true_eq_false, Bool.false_eq_true, if_true, if_false, ite_true, ite_false, false_and, and_false, and_assoc, reduceCtorEq]
        exact ⟨m0, q _ H1 (fin fv m0).1 (fin fv m0).2 W1 B1⟩

  · rw [if_neg hb]
    refine ⟨⟨by decide, by decide, by decide⟩, ?_⟩
    have he : 0 ≤ (if (10 : Int) ^ Int.toNat 6 < m then (1 : Int) else 0) ∧ (if (10 : Int) ^ Int.toNat 6 < m then (1 : Int) else 0) ≤ 1 := by split <;> omega
    generalize (if (10 : Int) ^ Int.toNat 6 < m then (1 : Int) else 0) = e at *
    refine ⟨.inl ⟨by decide, by decide⟩, by omega, by omega, ?_⟩
    refine ForR.by (fun _ σ H1 => ∃ (fv : Int) (tv : Option V), σ = [some (.ref wl), some (.int m), some (.int fv), tv] ∧ Well H1 wl ∧ But wl H H1) ⟨0, none, rfl, ⟨a, b, c, d, hw⟩, But.refl _ _⟩ ?_ ?_
    · rintro i σ H1 hi ⟨fv, tv, rfl, ⟨a', b', c', d', hw1⟩, B1⟩
      try simp only [w_seq, w_next, w_ifS, w_ret, w_retN, w_drop, w_asg, w_gName, w_gSub, w_var, w_c, w_op, w_un, w_rU, w_rI0, w_rI, w_test, w_b, w_and, w_or, w_not, w_andV, w_orV, w_notV, w_if, w_cons, w_nil, w_tup, w_lst, w_call, w_cB, w_eq, w_ne, w_isN, w_notN, w_chain, w_sl, w_part, w_noPart, w_forL, w_for1, w_for2, w_K, w_for3, w_isnotB, w_raise, w_try, w_cut, w_KX,  exists_const, false_or, or_false, exists_false, w_s1, w_s2, w_s3, w_s4, w_s5, L2.start, List.map_cons, List.map_nil, List.length_cons, List.length_nil, List.replicate, List.replicate_zero, List.replicate_succ, Nat.reduceAdd, Nat.reduceSub, Nat.reduceLeDiff, List.cons_append, List.nil_append, List.append_nil, List.set_cons_zero, List.set_cons_succ, List.getElem?_cons_zero, List.getElem?_cons_succ, Option.some.injEq, V.int.injEq, V.bl.injEq, V.ref.injEq, V.str.injEq, V.ty.injEq, List.cons.injEq, and_true, true_and, exists_eq_left, exists_eq_left', exists_and_left, exists_eq, exists_eq', and_self, decide_eq_true_eq, Bool.not_eq_true', decide_eq_false_iff_not, Bool.true_eq_false, Bool.false_eq_true, if_true, if_false, ite_true, ite_false, false_and, and_false, and_assoc, reduceCtorEq]
      refine ixl (SqL.of hw1) (v := .int d') rfl ?_
      try simp only [w_seq, w_next, w_ifS, w_ret, w_retN, w_drop, w_asg, w_gName, w_gSub, w_var, w_c, w_op, w_un, w_rU, w_rI0, w_rI, w_test, w_b, w_and, w_or, w_not, w_andV, w_orV, w_notV, w_if, w_cons, w_nil, w_tup, w_lst, w_call, w_cB, w_eq, w_ne, w_isN, w_notN, w_chain, w_sl, w_part, w_noPart, w_forL, w_for1, w_for2, w_K, w_for3, w_isnotB, w_raise, w_try, w_cut, w_KX,  exists_const, false_or, or_false, exists_false, w_s1, w_s2, w_s3, w_s4, w_s5, L2.start, List.map_cons, List.map_nil, List.length_cons, List.length_nil, List.replicate, List.replicate_zero, List.replicate_succ, Nat.reduceAdd, Nat.reduceSub, Nat.reduceLeDiff, List.cons_append, List.nil_append, List.append_nil, List.set_cons_zero, List.set_cons_succ, List.getElem?_cons_zero, List.getElem?_cons_succ, Option.some.injEq, V.int.injEq, V.bl.injEq, V.ref.injEq, V.str.injEq, V.ty.injEq, List.cons.injEq, and_true, true_and, exists_eq_left, exists_eq_left', exists_and_left, exists_eq, exists_eq', and_self, decide_eq_true_eq, Bool.not_eq_true', decide_eq_false_iff_not, Bool.true_eq_false, Bool.false_eq_true, if_true, if_false, ite_true, ite_false, false_and, and_false, and_assoc, reduceCtorEq]
      refine setl hw1 (j := 3) rfl ?_
      try simp only [w_seq, w_next, w_ifS, w_ret, w_retN, w_drop, w_asg, w_gName, w_gSub, w_var, w_c, w_op, w_un, w_rU, w_rI0, w_rI, w_test, w_b, w_and, w_or, w_not, w_andV, w_orV, w_notV, w_if, w_cons, w_nil, w_tup, w_lst, w_call, w_cB, w_eq, w_ne, w_isN, w_notN, w_chain, w_sl, w_part, w_noPart, w_forL, w_for1, w_for2, w_K, w_for3, w_isnotB, w_raise, w_try, w_cut, w_KX,  exists_const, false_or, or_false, exists_false, w_s1, w_s2, w_s3, w_s4, w_s5, L2.start, List.map_cons, List.map_nil, List.length_cons, List.length_nil, List.replicate, List.replicate_zero, List.replicate_succ, Nat.reduceAdd, Nat.reduceSub, Nat.reduceLeDiff, List.cons_append, List.nil_append, List.append_nil, List.set_cons_zero, List.set_cons_succ, List.getElem?_cons_zero, List.getElem?_cons_succ, Option.some.injEq, V.int.injEq, V.bl.injEq, V.ref.injEq, V.str.injEq, V.ty.injEq, List.cons.injEq, and_true, true_and, exists_eq_left, exists_eq_left', exists_and_left, exists_eq, exists_eq', and_self, decide_eq_true_eq, Bool.not_eq_true', decide_eq_false_iff_not, Bool.true_eq_false, Bool.false_eq_true, if_true, if_false, ite_true, ite_false, false_and, and_false, and_assoc, reduceCtorEq]
      refine ⟨.inr ⟨by decide, by decide⟩, ?_⟩
      refine ixl (SqL.of upd_same) (v := .int c') rfl ?_
      try simp only [w_seq, w_next, w_ifS, w_ret, w_retN, w_drop, w_asg, w_gName, w_gSub, w_var, w_c, w_op, w_un, w_rU, w_rI0, w_rI, w_test, w_b, w_and, w_or, w_not, w_andV, w_orV, w_notV, w_if, w_cons, w_nil, w_tup, w_lst, w_call, w_cB, w_eq, w_ne, w_isN, w_notN, w_chain, w_sl, w_part, w_noPart, w_forL, w_for1, w_for2, w_K, w_for3, w_isnotB, w_raise, w_try, w_cut, w_KX,  exists_const, false_or, or_false, exists_false, w_s1, w_s2, w_s3, w_s4, w_s5, L2.start, List.map_cons, List.map_nil, List.length_cons, List.length_nil, List.replicate, List.replicate_zero, List.replicate_succ, Nat.reduceAdd, Nat.reduceSub, Nat.reduceLeDiff, List.cons_append, List.nil_append, List.append_nil, List.set_cons_zero, List.set_cons_succ, List.getElem?_cons_zero, List.getElem?_cons_succ, Option.some.injEq, V.int.injEq, V.bl.injEq, V.ref.injEq, V.str.injEq, V.ty.injEq, List.cons.injEq, and_true, true_and, exists_eq_left, exists_eq_left', exists_and_left, exists_eq, exists_eq', and_self, decide_eq_true_eq, Bool.not_eq_true', decide_eq_false_iff_not, Bool.true_eq_false, Bool.false_eq_true, if_true, if_false, ite_true, ite_false, false_and, and_false, and_assoc, reduceCtorEq]
      refine ixl (SqL.of upd_same) (v := .int (d' + 1)) rfl ?_
      try simp only [w_seq, w_next, w_ifS, w_ret, w_retN, w_drop, w_asg, w_gName, w_gSub, w_var, w_c, w_op, w_un, w_rU, w_rI0, w_rI, w_test, w_b, w_and, w_or, w_not, w_andV, w_orV, w_notV, w_if, w_cons, w_nil, w_tup, w_lst, w_call, w_cB, w_eq, w_ne, w_isN, w_notN, w_chain, w_sl, w_part, w_noPart, w_forL, w_for1, w_for2, w_K, w_for3, w_isnotB, w_raise, w_try, w_cut, w_KX,  exists_const, false_or, or_false, exists_false, w_s1, w_s2, w_s3, w_s4, w_s5, L2.start, List.map_cons, List.map_nil, List.length_cons, List.length_nil, List.replicate, List.replicate_zero, List.replicate_succ, Nat.reduceAdd, Nat.reduceSub, Nat.reduceLeDiff, List.cons_append, List.nil_append, List.append_nil, List.set_cons_zero, List.set_cons_succ, List.getElem?_cons_zero, List.getElem?_cons_succ, Option.some.injEq, V.int.injEq, V.bl.injEq, V.ref.injEq, V.str.injEq, V.ty.injEq, List.cons.injEq, and_true, true_and, exists_eq_left, exists_eq_left', exists_and_left, exists_eq, exists_eq', and_self, decide_eq_true_eq, Bool.not_eq_true', decide_eq_false_iff_not, Bool.true_eq_false, Bool.false_eq_true, if_true, if_false, ite_true, ite_false, false_and, and_false, and_assoc, reduceCtorEq]
      refine ⟨_, _, rfl, fun r => ?_⟩
      try simp only [w_seq, w_next, w_ifS, w_ret, w_retN, w_drop, w_asg, w_gName, w_gSub, w_var, w_c, w_op, w_un, w_rU, w_rI0, w_rI, w_test, w_b, w_and, w_or, w_not, w_andV, w_orV, w_notV, w_if, w_cons, w_nil, w_tup, w_lst, w_call, w_cB, w_eq, w_ne, w_isN, w_notN, w_chain, w_sl, w_part, w_noPart, w_forL, w_for1, w_for2, w_K, w_for3, w_isnotB, w_raise, w_try, w_cut, w_KX,  exists_const, false_or, or_false, exists_false, w_s1, w_s2, w_s3, w_s4, w_s5, L2.start, List.map_cons, List.map_nil, List.length_cons, List.length_nil, List.replicate, List.replicate_zero, List.replicate_succ, Nat.reduceAdd, Nat.reduceSub, Nat.reduceLeDiff, List.cons_append, List.nil_append, List.append_nil, List.set_cons_zero, List.set_cons_succ, List.getElem?_cons_zero, List.getElem?_cons_succ, Option.some.injEq, V.int.injEq, V.bl.injEq, V.ref.injEq, V.str.injEq, V.ty.injEq, List.cons.injEq, and_true, true_and, exists_eq_left, exists_eq_left', exists_and_left, exists_eq, exists_eq', and_self, decide_eq_true_eq, Bool.not_eq_true', decide_eq_false_iff_not, Bool.true_eq_false, Bool.false_eq_true, if_true, if_false, ite_true, ite_false, false_and, and_false, and_assoc, reduceCtorEq]
      exact ⟨⟨_, _, _, _, upd_same⟩, B1.trans (But.upd _)⟩
    · rintro σ H1 ⟨fv, tv, rfl, W1, B1⟩
      try simp only [w_seq, w_next, w_ifS, w_ret, w_retN, w_drop, w_asg, w_gName, w_gSub, w_var, w_c, w_op, w_un, w_rU, w_rI0, w_rI, w_test, w_b, w_and, w_or, w_not, w_andV, w_orV, w_notV, w_if, w_cons, w_nil, w_tup, w_lst, w_call, w_cB, w_eq, w_ne, w_isN, w_notN, w_chain, w_sl, w_part, w_noPart, w_forL, w_for1, w_for2, w_K, w_for3, w_isnotB, w_raise, w_try, w_cut, w_KX,  exists_const, false_or, or_false, exists_false, w_s1, w_s2, w_s3, w_s4, w_s5, L2.start, List.map_cons, List.map_nil, List.length_cons, List.length_nil, List.replicate, List.replicate_zero, List.replicate_succ, Nat.reduceAdd, Nat.reduceSub, Nat.reduceLeDiff, List.cons_append, List.nil_append, List.append_nil, List.set_cons_zero, List.set_cons_succ, List.getElem?_cons_zero, List.getElem?_cons_succ, Option.some.injEq, V.int.injEq, V.bl.injEq, V.ref.injEq, V.str.injEq, V.ty.injEq, List.cons.injEq, and_true, true_and, exists_eq_left, exists_eq_left', exists_and_left, exists_eq, exists_eq', and_self, decide_eq_true_eq, Bool.not_eq_true', decide_eq_false_iff_not, Bool.true_eq_false, Bool.false_eq_true, if_true, if_false, ite_true, ite_false, false_and, and_false, and_assoc, reduceCtorEq]
      exact ⟨m0, q _ H1 (fin fv m0).1 (fin fv m0).2 W1 B1⟩


theorem ok_is_quiet_hours (B : Bt K mg C CB t0 t1 aNoHappening aNoFit aNoWish aNoRoad aNoTime aNoRow aBackward aNoNumber aFallen aNoBook aNoText) (C_is_minute_of_day : CalX P w K mg base "is_minute_of_day" ["thing"] 3 (sp_is_minute_of_day C)) (F : Fun K "is_quiet_hours" "is_quiet_hours" s_is_quiet_hours f fd) : FnOk P w K mg base CX0 4 f fd ["thing"] ((sp_is_quiet_hours C)) := by
  refine F.ok sc_is_quiet_hours (fun vs H Q E h => ?_) (fun cdv A outer s H vs Q E hr h => ?_)
  · obtain ⟨x, rfl, _⟩ := h
    rfl
  obtain ⟨x, rfl, ox, oe, q⟩ := h
  refine ⟨_, (pss_cons (ps_if (pt_cmp (pc_isN (pv 0))) (pss_one (ps_ret pe_bl)) pss_nil) (pss_cons (ps_if (L2.PW.pt (pw_or (pt_not (pt_val (pe_callB call_isi_tuple rfl B.isinstance PyProof.Rows.boot_isinstance (pa_cons (pv 0) (pa_cons (pe_bltn (v := .ty "tuple") rfl B.tuple PyProof.Rows.boot_tuple rfl) pa_nil))))) (pw_or1 (pt_cmpR op_ne (pe_callB call_len rfl B.len PySem.boot_len (pa_cons (pv 0) pa_nil)) pe_int (nomark _))))) (pss_one (ps_ret pe_bl)) pss_nil) (pss_one (ps_ret (pe_and (pe_calN C_is_minute_of_day (hr.mono (by decide)) rfl (pa_cons (pe_ix ix_tup (pv 0) pe_int (fun _ _ => rfl)) pa_nil)) (pe_and (pe_calN C_is_minute_of_day (hr.mono (by decide)) rfl (pa_cons (pe_ix ix_tup (pv 0) pe_int (fun _ _ => rfl)) pa_nil)) (pe_one (pe_cmpR op_ne (pe_ix ix_tup (pv 0) pe_int (fun _ _ => rfl)) (pe_ix ix_tup (pv 0) pe_int (fun _ _ => rfl)) (nomark _))))))))), ?_⟩
  cases x with
  | non =>
    try simp only [w_seq, w_next, w_ifS, w_ret, w_retN, w_drop, w_asg, w_gName, w_gSub, w_var, w_c, w_op, w_un, w_rU, w_rI0, w_rI, w_test, w_b, w_and, w_or, w_not, w_andV, w_orV, w_notV, w_if, w_cons, w_nil, w_tup, w_lst, w_call, w_cB, w_eq, w_ne, w_isN, w_notN, w_chain, w_sl, w_part, w_noPart, w_forL, w_for1, w_for2, w_K, w_for3, w_isnotB, w_raise, w_try, w_cut, w_KX,  exists_const, false_or, or_false, exists_false, w_s1, w_s2, w_s3, w_s4, w_s5, L2.start, List.map_cons, List.map_nil, List.length_cons, List.length_nil, List.replicate, List.replicate_zero, List.replicate_succ, Nat.reduceAdd, Nat.reduceSub, Nat.reduceLeDiff, List.cons_append, List.nil_append, List.append_nil, List.set_cons_zero, List.set_cons_succ, List.getElem?_cons_zero, List.getElem?_cons_succ, Option.some.injEq, V.int.injEq, V.bl.injEq, V.ref.injEq, V.str.injEq, V.ty.injEq, List.cons.injEq, and_true, true_and, exists_eq_left, exists_eq_left', exists_and_left, exists_eq, exists_eq', and_self, decide_eq_true_eq, Bool.not_eq_true', decide_eq_false_iff_not, Bool.true_eq_false, Bool.false_eq_true, if_true, if_false, ite_true, ite_false, false_and, and_false, and_assoc, reduceCtorEq]
    exact q
  | bl b =>
    have et : isTupV H (.bl b) = false := rfl
    try simp only [et, w_seq, w_next, w_ifS, w_ret, w_retN, w_drop, w_asg, w_gName, w_gSub, w_var, w_c, w_op, w_un, w_rU, w_rI0, w_rI, w_test, w_b, w_and, w_or, w_not, w_andV, w_orV, w_notV, w_if, w_cons, w_nil, w_tup, w_lst, w_call, w_cB, w_eq, w_ne, w_isN, w_notN, w_chain, w_sl, w_part, w_noPart, w_forL, w_for1, w_for2, w_K, w_for3, w_isnotB, w_raise, w_try, w_cut, w_KX,  exists_const, false_or, or_false, exists_false, w_s1, w_s2, w_s3, w_s4, w_s5, L2.start, List.map_cons, List.map_nil, List.length_cons, List.length_nil, List.replicate, List.replicate_zero, List.replicate_succ, Nat.reduceAdd, Nat.reduceSub, Nat.reduceLeDiff, List.cons_append, List.nil_append, List.append_nil, List.set_cons_zero, List.set_cons_succ, List.getElem?_cons_zero, List.getElem?_cons_succ, Option.some.injEq, V.int.injEq, V.bl.injEq, V.ref.injEq, V.str.injEq, V.ty.injEq, List.cons.injEq, and_true, true_and, exists_eq_left, exists_eq_left', exists_and_left, exists_eq, exists_eq', and_self, decide_eq_true_eq, Bool.not_eq_true', decide_eq_false_iff_not, Bool.true_eq_false, Bool.false_eq_true, if_true, if_false, ite_true, ite_false, false_and, and_false, and_assoc, reduceCtorEq]
    exact ⟨trivial, q⟩
  | int b =>
    have et : isTupV H (.int b) = false := rfl
    try simp only [et, w_seq, w_next, w_ifS, w_ret, w_retN, w_drop, w_asg, w_gName, w_gSub, w_var, w_c, w_op, w_un, w_rU, w_rI0, w_rI, w_test, w_b, w_and, w_or, w_not, w_andV, w_orV, w_notV, w_if, w_cons, w_nil, w_tup, w_lst, w_call, w_cB, w_eq, w_ne, w_isN, w_notN, w_chain, w_sl, w_part, w_noPart, w_forL, w_for1, w_for2, w_K, w_for3, w_isnotB, w_raise, w_try, w_cut, w_KX,  exists_const, false_or, or_false, exists_false, w_s1, w_s2, w_s3, w_s4, w_s5, L2.start, List.map_cons, List.map_nil, List.length_cons, List.length_nil, List.replicate, List.replicate_zero, List.replicate_succ, Nat.reduceAdd, Nat.reduceSub, Nat.reduceLeDiff, List.cons_append, List.nil_append, List.append_nil, List.set_cons_zero, List.set_cons_succ, List.getElem?_cons_zero, List.getElem?_cons_succ, Option.some.injEq, V.int.injEq, V.bl.injEq, V.ref.injEq, V.str.injEq, V.ty.injEq, List.cons.injEq, and_true, true_and, exists_eq_left, exists_eq_left', exists_and_left, exists_eq, exists_eq', and_self, decide_eq_true_eq, Bool.not_eq_true', decide_eq_false_iff_not, Bool.true_eq_false, Bool.false_eq_true, if_true, if_false, ite_true, ite_false, false_and, and_false, and_assoc, reduceCtorEq]
    exact ⟨trivial, q⟩
  | str b =>
    have et : isTupV H (.str b) = false := rfl
    try simp only [et, w_seq, w_next, w_ifS, w_ret, w_retN, w_drop, w_asg, w_gName, w_gSub, w_var, w_c, w_op, w_un, w_rU, w_rI0, w_rI, w_test, w_b, w_and, w_or, w_not, w_andV, w_orV, w_notV, w_if, w_cons, w_nil, w_tup, w_lst, w_call, w_cB, w_eq, w_ne, w_isN, w_notN, w_chain, w_sl, w_part, w_noPart, w_forL, w_for1, w_for2, w_K, w_for3, w_isnotB, w_raise, w_try, w_cut, w_KX,  exists_const, false_or, or_false, exists_false, w_s1, w_s2, w_s3, w_s4, w_s5, L2.start, List.map_cons, List.map_nil, List.length_cons, List.length_nil, List.replicate, List.replicate_zero, List.replicate_succ, Nat.reduceAdd, Nat.reduceSub, Nat.reduceLeDiff, List.cons_append, List.nil_append, List.append_nil, List.set_cons_zero, List.set_cons_succ, List.getElem?_cons_zero, List.getElem?_cons_succ, Option.some.injEq, V.int.injEq, V.bl.injEq, V.ref.injEq, V.str.injEq, V.ty.injEq, List.cons.injEq, and_true, true_and, exists_eq_left, exists_eq_left', exists_and_left, exists_eq, exists_eq', and_self, decide_eq_true_eq, Bool.not_eq_true', decide_eq_false_iff_not, Bool.true_eq_false, Bool.false_eq_true, if_true, if_false, ite_true, ite_false, false_and, and_false, and_assoc, reduceCtorEq]
    exact ⟨trivial, q⟩
  | ref p =>
    try simp only [w_seq, w_next, w_ifS, w_ret, w_retN, w_drop, w_asg, w_gName, w_gSub, w_var, w_c, w_op, w_un, w_rU, w_rI0, w_rI, w_test, w_b, w_and, w_or, w_not, w_andV, w_orV, w_notV, w_if, w_cons, w_nil, w_tup, w_lst, w_call, w_cB, w_eq, w_ne, w_isN, w_notN, w_chain, w_sl, w_part, w_noPart, w_forL, w_for1, w_for2, w_K, w_for3, w_isnotB, w_raise, w_try, w_cut, w_KX,  exists_const, false_or, or_false, exists_false, w_s1, w_s2, w_s3, w_s4, w_s5, L2.start, List.map_cons, List.map_nil, List.length_cons, List.length_nil, List.replicate, List.replicate_zero, List.replicate_succ, Nat.reduceAdd, Nat.reduceSub, Nat.reduceLeDiff, List.cons_append, List.nil_append, List.append_nil, List.set_cons_zero, List.set_cons_succ, List.getElem?_cons_zero, List.getElem?_cons_succ, Option.some.injEq, V.int.injEq, V.bl.injEq, V.ref.injEq, V.str.injEq, V.ty.injEq, List.cons.injEq, and_true, true_and, exists_eq_left, exists_eq_left', exists_and_left, exists_eq, exists_eq', and_self, decide_eq_true_eq, Bool.not_eq_true', decide_eq_false_iff_not, Bool.true_eq_false, Bool.false_eq_true, if_true, if_false, ite_true, ite_false, false_and, and_false, and_assoc, reduceCtorEq]
    refine ⟨ox, ?_⟩
    rcases ox with ⟨xs, hp⟩ | ⟨xs, hp⟩
    · have et : isTupV H (.ref p) = false := by simp [isTupV, hp]
      have eq : qhB H (.ref p) = false := by simp [qhB, hp]
      rw [eq] at q
      try simp only [et, w_seq, w_next, w_ifS, w_ret, w_retN, w_drop, w_asg, w_gName, w_gSub, w_var, w_c, w_op, w_un, w_rU, w_rI0, w_rI, w_test, w_b, w_and, w_or, w_not, w_andV, w_orV, w_notV, w_if, w_cons, w_nil, w_tup, w_lst, w_call, w_cB, w_eq, w_ne, w_isN, w_notN, w_chain, w_sl, w_part, w_noPart, w_forL, w_for1, w_for2, w_K, w_for3, w_isnotB, w_raise, w_try, w_cut, w_KX,  exists_const, false_or, or_false, exists_false, w_s1, w_s2, w_s3, w_s4, w_s5, L2.start, List.map_cons, List.map_nil, List.length_cons, List.length_nil, List.replicate, List.replicate_zero, List.replicate_succ, Nat.reduceAdd, Nat.reduceSub, Nat.reduceLeDiff, List.cons_append, List.nil_append, List.append_nil, List.set_cons_zero, List.set_cons_succ, List.getElem?_cons_zero, List.getElem?_cons_succ, Option.some.injEq, V.int.injEq, V.bl.injEq, V.ref.injEq, V.str.injEq, V.ty.injEq, List.cons.injEq, and_true, true_and, exists_eq_left, exists_eq_left', exists_and_left, exists_eq, exists_eq', and_self, decide_eq_true_eq, Bool.not_eq_true', decide_eq_false_iff_not, Bool.true_eq_false, Bool.false_eq_true, if_true, if_false, ite_true, ite_false, false_and, and_false, and_assoc, reduceCtorEq]
      exact q
    · have et : isTupV H (.ref p) = true := by simp [isTupV, hp]
      obtain ⟨o, ho, hel⟩ := oe
      rw [hp] at ho
      cases ho
      have hel := hel xs rfl
      try simp only [et, w_seq, w_next, w_ifS, w_ret, w_retN, w_drop, w_asg, w_gName, w_gSub, w_var, w_c, w_op, w_un, w_rU, w_rI0, w_rI, w_test, w_b, w_and, w_or, w_not, w_andV, w_orV, w_notV, w_if, w_cons, w_nil, w_tup, w_lst, w_call, w_cB, w_eq, w_ne, w_isN, w_notN, w_chain, w_sl, w_part, w_noPart, w_forL, w_for1, w_for2, w_K, w_for3, w_isnotB, w_raise, w_try, w_cut, w_KX,  exists_const, false_or, or_false, exists_false, w_s1, w_s2, w_s3, w_s4, w_s5, L2.start, List.map_cons, List.map_nil, List.length_cons, List.length_nil, List.replicate, List.replicate_zero, List.replicate_succ, Nat.reduceAdd, Nat.reduceSub, Nat.reduceLeDiff, List.cons_append, List.nil_append, List.append_nil, List.set_cons_zero, List.set_cons_succ, List.getElem?_cons_zero, List.getElem?_cons_succ, Option.some.injEq, V.int.injEq, V.bl.injEq, V.ref.injEq, V.str.injEq, V.ty.injEq, List.cons.injEq, and_true, true_and, exists_eq_left, exists_eq_left', exists_and_left, exists_eq, exists_eq', and_self, decide_eq_true_eq, Bool.not_eq_true', decide_eq_false_iff_not, Bool.true_eq_false, Bool.false_eq_true, if_true, if_false, ite_true, ite_false, false_and, and_false, and_assoc, reduceCtorEq]
      refine ⟨_, .inr ⟨_, SqT.of hp, rfl⟩, ?_⟩
      try simp only [w_seq, w_next, w_ifS, w_ret, w_retN, w_drop, w_asg, w_gName, w_gSub, w_var, w_c, w_op, w_un, w_rU, w_rI0, w_rI, w_test, w_b, w_and, w_or, w_not, w_andV, w_orV, w_notV, w_if, w_cons, w_nil, w_tup, w_lst, w_call, w_cB, w_eq, w_ne, w_isN, w_notN, w_chain, w_sl, w_part, w_noPart, w_forL, w_for1, w_for2, w_K, w_for3, w_isnotB, w_raise, w_try, w_cut, w_KX,  exists_const, false_or, or_false, exists_false, w_s1, w_s2, w_s3, w_s4, w_s5, L2.start, List.map_cons, List.map_nil, List.length_cons, List.length_nil, List.replicate, List.replicate_zero, List.replicate_succ, Nat.reduceAdd, Nat.reduceSub, Nat.reduceLeDiff, List.cons_append, List.nil_append, List.append_nil, List.set_cons_zero, List.set_cons_succ, List.getElem?_cons_zero, List.getElem?_cons_succ, Option.some.injEq, V.int.injEq, V.bl.injEq, V.ref.injEq, V.str.injEq, V.ty.injEq, List.cons.injEq, and_true, true_and, exists_eq_left, exists_eq_left', exists_and_left, exists_eq, exists_eq', and_self, decide_eq_true_eq, Bool.not_eq_true', decide_eq_false_iff_not, Bool.true_eq_false, Bool.false_eq_true, if_true, if_false, ite_true, ite_false, false_and, and_false, and_assoc, reduceCtorEq]
      by_cases h2 : xs.length = 2
      · obtain ⟨y0, y1, rfl⟩ : ∃ y0 y1, xs = [y0, y1] := by
          match xs, h2 with
          | [y0, y1], _ => exact ⟨y0, y1, rfl⟩
        have eq : qhB H (.ref p) = (betwV y0 0 1439 && betwV y1 0 1439 && !decide (y0 = y1)) := by simp [qhB, hp]
        rw [eq] at q
        refine (if_neg (by simp)).mpr ?_
        refine ixt (SqT.of hp) (v := y0) rfl ?_
        refine ⟨_, rfl, hel y0 (by simp), ?_⟩
        try simp only [w_seq, w_next, w_ifS, w_ret, w_retN, w_drop, w_asg, w_gName, w_gSub, w_var, w_c, w_op, w_un, w_rU, w_rI0, w_rI, w_test, w_b, w_and, w_or, w_not, w_andV, w_orV, w_notV, w_if, w_cons, w_nil, w_tup, w_lst, w_call, w_cB, w_eq, w_ne, w_isN, w_notN, w_chain, w_sl, w_part, w_noPart, w_forL, w_for1, w_for2, w_K, w_for3, w_isnotB, w_raise, w_try, w_cut, w_KX,  exists_const, false_or, or_false, exists_false, w_s1, w_s2, w_s3, w_s4, w_s5, L2.start, List.map_cons, List.map_nil, List.length_cons, List.length_nil, List.replicate, List.replicate_zero, List.replicate_succ, Nat.reduceAdd, Nat.reduceSub, Nat.reduceLeDiff, List.cons_append, List.nil_append, List.append_nil, List.set_cons_zero, List.set_cons_succ, List.getElem?_cons_zero, List.getElem?_cons_succ, Option.some.injEq, V.int.injEq, V.bl.injEq, V.ref.injEq, V.str.injEq, V.ty.injEq, List.cons.injEq, and_true, true_and, exists_eq_left, exists_eq_left', exists_and_left, exists_eq, exists_eq', and_self, decide_eq_true_eq, Bool.not_eq_true', decide_eq_false_iff_not, Bool.true_eq_false, Bool.false_eq_true, if_true, if_false, ite_true, ite_false, false_and, and_false, and_assoc, reduceCtorEq]
        by_cases b0 : betwV y0 0 1439 = true
        · rw [b0, Bool.true_and] at q
          rw [if_pos b0]
          refine ixt (SqT.of hp) (v := y1) rfl ?_
          refine ⟨_, rfl, hel y1 (by simp), ?_⟩
          try simp only [w_seq, w_next, w_ifS, w_ret, w_retN, w_drop, w_asg, w_gName, w_gSub, w_var, w_c, w_op, w_un, w_rU, w_rI0, w_rI, w_test, w_b, w_and, w_or, w_not, w_andV, w_orV, w_notV, w_if, w_cons, w_nil, w_tup, w_lst, w_call, w_cB, w_eq, w_ne, w_isN, w_notN, w_chain, w_sl, w_part, w_noPart, w_forL, w_for1, w_for2, w_K, w_for3, w_isnotB, w_raise, w_try, w_cut, w_KX,  exists_const, false_or, or_false, exists_false, w_s1, w_s2, w_s3, w_s4, w_s5, L2.start, List.map_cons, List.map_nil, List.length_cons, List.length_nil, List.replicate, List.replicate_zero, List.replicate_succ, Nat.reduceAdd, Nat.reduceSub, Nat.reduceLeDiff, List.cons_append, List.nil_append, List.append_nil, List.set_cons_zero, List.set_cons_succ, List.getElem?_cons_zero, List.getElem?_cons_succ, Option.some.injEq, V.int.injEq, V.bl.injEq, V.ref.injEq, V.str.injEq, V.ty.injEq, List.cons.injEq, and_true, true_and, exists_eq_left, exists_eq_left', exists_and_left, exists_eq, exists_eq', and_self, decide_eq_true_eq, Bool.not_eq_true', decide_eq_false_iff_not, Bool.true_eq_false, Bool.false_eq_true, if_true, if_false, ite_true, ite_false, false_and, and_false, and_assoc, reduceCtorEq]
          by_cases b1 : betwV y1 0 1439 = true
          · rw [b1, Bool.true_and] at q
            rw [if_pos b1]
            obtain ⟨i0, rfl, _, _⟩ := betw_of b0
            obtain ⟨i1, rfl, _, _⟩ := betw_of b1
            refine ixt (SqT.of hp) (v := .int i0) rfl ?_
            refine ixt (SqT.of hp) (v := .int i1) rfl ?_
            exact ⟨rfl, q⟩
          · rw [Bool.eq_false_iff.mpr b1, Bool.false_and] at q
            rw [if_neg b1]
            exact q
        · rw [Bool.eq_false_iff.mpr b0, Bool.false_and, Bool.false_and] at q
          rw [if_neg b0]
          exact q
      · have eq : qhB H (.ref p) = false := by
          simp only [qhB, hp]
          match xs, h2 with
          | [], _ => rfl
          | [_], _ => rfl
          | _ :: _ :: _ :: _, _ => rfl
          | [_, _], h2 => exact absurd rfl h2
        rw [eq] at q
        refine (if_pos ?_).mpr q
        intro z
        exact h2 (by omega)
  | _ => exact ox.elim

theorem ok_check_zone (B : Bt K mg C CB t0 t1 aNoHappening aNoFit aNoWish aNoRoad aNoTime aNoRow aBackward aNoNumber aFallen aNoBook aNoText) (C_is_whole_between : CalX P w K mg base "is_whole_between" ["thing", "least", "most"] 2 (sp_is_whole_between C)) (F : Fun K "check_zone" "check_zone" s_check_zone f fd) : FnOk P w K mg base (CXF P w) 3 f fd ["zone"] ((sp_check_zone C)) := by
  refine Fun.okX F sc_check_zone (fun vs H Q E h => ?_) (fun cdv A outer s H vs Q E hr h => ?_)
  · obtain ⟨x, rfl, _⟩ := h
    rfl
  obtain ⟨x, rfl, ox, h⟩ := h
  refine ⟨_, (pss_one (ps_if (pt_not (pt_val (pe_calX C_is_whole_between (hr.mono (by decide)) rfl (pa_cons (pv 0) (pa_cons (pe_op op_sub pe_int (pe_glob (v := .int 1440) rfl B.MINUTES_OF_DAY ⟨_, rfl⟩)) (pa_cons (pe_op op_sub (pe_glob (v := .int 1440) rfl B.MINUTES_OF_DAY ⟨_, rfl⟩) pe_int) pa_nil)))))) (pss_one (ps_raise (R := fun H9 => E (.ref C) none H9) rfl rfl B.NoClock B.exc (fun _ _ _ _ _ _ _ I hx hE => raiseX I hx hE))) pss_nil)), ?_⟩
  try simp only [w_seq, w_next, w_ifS, w_ret, w_retN, w_drop, w_asg, w_gName, w_gSub, w_var, w_c, w_op, w_un, w_rU, w_rI0, w_rI, w_test, w_b, w_and, w_or, w_not, w_andV, w_orV, w_notV, w_if, w_cons, w_nil, w_tup, w_lst, w_call, w_cB, w_eq, w_ne, w_isN, w_notN, w_chain, w_sl, w_part, w_noPart, w_forL, w_for1, w_for2, w_K, w_for3, w_isnotB, w_raise, w_try, w_cut, w_KX,  exists_const, false_or, or_false, exists_false, w_s1, w_s2, w_s3, w_s4, w_s5, L2.start, List.map_cons, List.map_nil, List.length_cons, List.length_nil, List.replicate, List.replicate_zero, List.replicate_succ, Nat.reduceAdd, Nat.reduceSub, Nat.reduceLeDiff, List.cons_append, List.nil_append, List.append_nil, List.set_cons_zero, List.set_cons_succ, List.getElem?_cons_zero, List.getElem?_cons_succ, Option.some.injEq, V.int.injEq, V.bl.injEq, V.ref.injEq, V.str.injEq, V.ty.injEq, List.cons.injEq, and_true, true_and, exists_eq_left, exists_eq_left', exists_and_left, exists_eq, exists_eq', and_self, decide_eq_true_eq, Bool.not_eq_true', decide_eq_false_iff_not, Bool.true_eq_false, Bool.false_eq_true, if_true, if_false, ite_true, ite_false, false_and, and_false, and_assoc, reduceCtorEq]
  refine ⟨_, _, _, rfl, ox, ?_⟩
  rcases h with ⟨b, q⟩ | ⟨b, q⟩
  · have e : betwV x (1 - 1440) (1440 - 1) = true := b
    try simp only [e, w_seq, w_next, w_ifS, w_ret, w_retN, w_drop, w_asg, w_gName, w_gSub, w_var, w_c, w_op, w_un, w_rU, w_rI0, w_rI, w_test, w_b, w_and, w_or, w_not, w_andV, w_orV, w_notV, w_if, w_cons, w_nil, w_tup, w_lst, w_call, w_cB, w_eq, w_ne, w_isN, w_notN, w_chain, w_sl, w_part, w_noPart, w_forL, w_for1, w_for2, w_K, w_for3, w_isnotB, w_raise, w_try, w_cut, w_KX,  exists_const, false_or, or_false, exists_false, w_s1, w_s2, w_s3, w_s4, w_s5, L2.start, List.map_cons, List.map_nil, List.length_cons, List.length_nil, List.replicate, List.replicate_zero, List.replicate_succ, Nat.reduceAdd, Nat.reduceSub, Nat.reduceLeDiff, List.cons_append, List.nil_append, List.append_nil, List.set_cons_zero, List.set_cons_succ, List.getElem?_cons_zero, List.getElem?_cons_succ, Option.some.injEq, V.int.injEq, V.bl.injEq, V.ref.injEq, V.str.injEq, V.ty.injEq, List.cons.injEq, and_true, true_and, exists_eq_left, exists_eq_left', exists_and_left, exists_eq, exists_eq', and_self, decide_eq_true_eq, Bool.not_eq_true', decide_eq_false_iff_not, Bool.true_eq_false, Bool.false_eq_true, if_true, if_false, ite_true, ite_false, false_and, and_false, and_assoc, reduceCtorEq]
    exact q
  · have e : betwV x (1 - 1440) (1440 - 1) = false := b
    try simp only [e, w_seq, w_next, w_ifS, w_ret, w_retN, w_drop, w_asg, w_gName, w_gSub, w_var, w_c, w_op, w_un, w_rU, w_rI0, w_rI, w_test, w_b, w_and, w_or, w_not, w_andV, w_orV, w_notV, w_if, w_cons, w_nil, w_tup, w_lst, w_call, w_cB, w_eq, w_ne, w_isN, w_notN, w_chain, w_sl, w_part, w_noPart, w_forL, w_for1, w_for2, w_K, w_for3, w_isnotB, w_raise, w_try, w_cut, w_KX,  exists_const, false_or, or_false, exists_false, w_s1, w_s2, w_s3, w_s4, w_s5, L2.start, List.map_cons, List.map_nil, List.length_cons, List.length_nil, List.replicate, List.replicate_zero, List.replicate_succ, Nat.reduceAdd, Nat.reduceSub, Nat.reduceLeDiff, List.cons_append, List.nil_append, List.append_nil, List.set_cons_zero, List.set_cons_succ, List.getElem?_cons_zero, List.getElem?_cons_succ, Option.some.injEq, V.int.injEq, V.bl.injEq, V.ref.injEq, V.str.injEq, V.ty.injEq, List.cons.injEq, and_true, true_and, exists_eq_left, exists_eq_left', exists_and_left, exists_eq, exists_eq', and_self, decide_eq_true_eq, Bool.not_eq_true', decide_eq_false_iff_not, Bool.true_eq_false, Bool.false_eq_true, if_true, if_false, ite_true, ite_false, false_and, and_false, and_assoc, reduceCtorEq]
    exact q

theorem ok_check_minute_of_hour (B : Bt K mg C CB t0 t1 aNoHappening aNoFit aNoWish aNoRoad aNoTime aNoRow aBackward aNoNumber aFallen aNoBook aNoText) (C_is_whole_between : CalX P w K mg base "is_whole_between" ["thing", "least", "most"] 2 (sp_is_whole_between C)) (F : Fun K "check_minute_of_hour" "check_minute_of_hour" s_check_minute_of_hour f fd) : FnOk P w K mg base (CXF P w) 3 f fd ["minute"] ((sp_check_minute_of_hour C)) := by
  refine Fun.okX F sc_check_minute_of_hour (fun vs H Q E h => ?_) (fun cdv A outer s H vs Q E hr h => ?_)
  · obtain ⟨x, rfl, _⟩ := h
    rfl
  obtain ⟨x, rfl, ox, h⟩ := h
  refine ⟨_, (pss_one (ps_if (pt_not (pt_val (pe_calX C_is_whole_between (hr.mono (by decide)) rfl (pa_cons (pv 0) (pa_cons pe_int (pa_cons (pe_op op_sub (pe_glob (v := .int 60) rfl B.MINUTES_OF_HOUR ⟨_, rfl⟩) pe_int) pa_nil)))))) (pss_one (ps_raise (R := fun H9 => E (.ref C) none H9) rfl rfl B.NoClock B.exc (fun _ _ _ _ _ _ _ I hx hE => raiseX I hx hE))) pss_nil)), ?_⟩
  try simp only [w_seq, w_next, w_ifS, w_ret, w_retN, w_drop, w_asg, w_gName, w_gSub, w_var, w_c, w_op, w_un, w_rU, w_rI0, w_rI, w_test, w_b, w_and, w_or, w_not, w_andV, w_orV, w_notV, w_if, w_cons, w_nil, w_tup, w_lst, w_call, w_cB, w_eq, w_ne, w_isN, w_notN, w_chain, w_sl, w_part, w_noPart, w_forL, w_for1, w_for2, w_K, w_for3, w_isnotB, w_raise, w_try, w_cut, w_KX,  exists_const, false_or, or_false, exists_false, w_s1, w_s2, w_s3, w_s4, w_s5, L2.start, List.map_cons, List.map_nil, List.length_cons, List.length_nil, List.replicate, List.replicate_zero, List.replicate_succ, Nat.reduceAdd, Nat.reduceSub, Nat.reduceLeDiff, List.cons_append, List.nil_append, List.append_nil, List.set_cons_zero, List.set_cons_succ, List.getElem?_cons_zero, List.getElem?_cons_succ, Option.some.injEq, V.int.injEq, V.bl.injEq, V.ref.injEq, V.str.injEq, V.ty.injEq, List.cons.injEq, and_true, true_and, exists_eq_left, exists_eq_left', exists_and_left, exists_eq, exists_eq', and_self, decide_eq_true_eq, Bool.not_eq_true', decide_eq_false_iff_not, Bool.true_eq_false, Bool.false_eq_true, if_true, if_false, ite_true, ite_false, false_and, and_false, and_assoc, reduceCtorEq]
  refine ⟨_, _, _, rfl, ox, ?_⟩
  rcases h with ⟨b, q⟩ | ⟨b, q⟩
  · have e : betwV x 0 (60 - 1) = true := b
    try simp only [e, w_seq, w_next, w_ifS, w_ret, w_retN, w_drop, w_asg, w_gName, w_gSub, w_var, w_c, w_op, w_un, w_rU, w_rI0, w_rI, w_test, w_b, w_and, w_or, w_not, w_andV, w_orV, w_notV, w_if, w_cons, w_nil, w_tup, w_lst, w_call, w_cB, w_eq, w_ne, w_isN, w_notN, w_chain, w_sl, w_part, w_noPart, w_forL, w_for1, w_for2, w_K, w_for3, w_isnotB, w_raise, w_try, w_cut, w_KX,  exists_const, false_or, or_false, exists_false, w_s1, w_s2, w_s3, w_s4, w_s5, L2.start, List.map_cons, List.map_nil, List.length_cons, List.length_nil, List.replicate, List.replicate_zero, List.replicate_succ, Nat.reduceAdd, Nat.reduceSub, Nat.reduceLeDiff, List.cons_append, List.nil_append, List.append_nil, List.set_cons_zero, List.set_cons_succ, List.getElem?_cons_zero, List.getElem?_cons_succ, Option.some.injEq, V.int.injEq, V.bl.injEq, V.ref.injEq, V.str.injEq, V.ty.injEq, List.cons.injEq, and_true, true_and, exists_eq_left, exists_eq_left', exists_and_left, exists_eq, exists_eq', and_self, decide_eq_true_eq, Bool.not_eq_true', decide_eq_false_iff_not, Bool.true_eq_false, Bool.false_eq_true, if_true, if_false, ite_true, ite_false, false_and, and_false, and_assoc, reduceCtorEq]
    exact q
  · have e : betwV x 0 (60 - 1) = false := b
    try simp only [e, w_seq, w_next, w_ifS, w_ret, w_retN, w_drop, w_asg, w_gName, w_gSub, w_var, w_c, w_op, w_un, w_rU, w_rI0, w_rI, w_test, w_b, w_and, w_or, w_not, w_andV, w_orV, w_notV, w_if, w_cons, w_nil, w_tup, w_lst, w_call, w_cB, w_eq, w_ne, w_isN, w_notN, w_chain, w_sl, w_part, w_noPart, w_forL, w_for1, w_for2, w_K, w_for3, w_isnotB, w_raise, w_try, w_cut, w_KX,  exists_const, false_or, or_false, exists_false, w_s1, w_s2, w_s3, w_s4, w_s5, L2.start, List.map_cons, List.map_nil, List.length_cons, List.length_nil, List.replicate, List.replicate_zero, List.replicate_succ, Nat.reduceAdd, Nat.reduceSub, Nat.reduceLeDiff, List.cons_append, List.nil_append, List.append_nil, List.set_cons_zero, List.set_cons_succ, List.getElem?_cons_zero, List.getElem?_cons_succ, Option.some.injEq, V.int.injEq, V.bl.injEq, V.ref.injEq, V.str.injEq, V.ty.injEq, List.cons.injEq, and_true, true_and, exists_eq_left, exists_eq_left', exists_and_left, exists_eq, exists_eq', and_self, decide_eq_true_eq, Bool.not_eq_true', decide_eq_false_iff_not, Bool.true_eq_false, Bool.false_eq_true, if_true, if_false, ite_true, ite_false, false_and, and_false, and_assoc, reduceCtorEq]
    exact q

theorem ok_check_minute_of_day (B : Bt K mg C CB t0 t1 aNoHappening aNoFit aNoWish aNoRoad aNoTime aNoRow aBackward aNoNumber aFallen aNoBook aNoText) (C_is_minute_of_day : CalX P w K mg base "is_minute_of_day" ["thing"] 3 (sp_is_minute_of_day C)) (F : Fun K "check_minute_of_day" "check_minute_of_day" s_check_minute_of_day f fd) : FnOk P w K mg base (CXF P w) 4 f fd ["minute"] ((sp_check_minute_of_day C)) := by
  refine Fun.okX F sc_check_minute_of_day (fun vs H Q E h => ?_) (fun cdv A outer s H vs Q E hr h => ?_)
  · obtain ⟨x, rfl, _⟩ := h
    rfl
  obtain ⟨x, rfl, ox, h⟩ := h
  refine ⟨_, (pss_one (ps_if (pt_not (pt_val (pe_calX C_is_minute_of_day (hr.mono (by decide)) rfl (pa_cons (pv 0) pa_nil)))) (pss_one (ps_raise (R := fun H9 => E (.ref C) none H9) rfl rfl B.NoClock B.exc (fun _ _ _ _ _ _ _ I hx hE => raiseX I hx hE))) pss_nil)), ?_⟩
  try simp only [w_seq, w_next, w_ifS, w_ret, w_retN, w_drop, w_asg, w_gName, w_gSub, w_var, w_c, w_op, w_un, w_rU, w_rI0, w_rI, w_test, w_b, w_and, w_or, w_not, w_andV, w_orV, w_notV, w_if, w_cons, w_nil, w_tup, w_lst, w_call, w_cB, w_eq, w_ne, w_isN, w_notN, w_chain, w_sl, w_part, w_noPart, w_forL, w_for1, w_for2, w_K, w_for3, w_isnotB, w_raise, w_try, w_cut, w_KX,  exists_const, false_or, or_false, exists_false, w_s1, w_s2, w_s3, w_s4, w_s5, L2.start, List.map_cons, List.map_nil, List.length_cons, List.length_nil, List.replicate, List.replicate_zero, List.replicate_succ, Nat.reduceAdd, Nat.reduceSub, Nat.reduceLeDiff, List.cons_append, List.nil_append, List.append_nil, List.set_cons_zero, List.set_cons_succ, List.getElem?_cons_zero, List.getElem?_cons_succ, Option.some.injEq, V.int.injEq, V.bl.injEq, V.ref.injEq, V.str.injEq, V.ty.injEq, List.cons.injEq, and_true, true_and, exists_eq_left, exists_eq_left', exists_and_left, exists_eq, exists_eq', and_self, decide_eq_true_eq, Bool.not_eq_true', decide_eq_false_iff_not, Bool.true_eq_false, Bool.false_eq_true, if_true, if_false, ite_true, ite_false, false_and, and_false, and_assoc, reduceCtorEq]
  refine ⟨_, rfl, ox, ?_⟩
  rcases h with ⟨e, q⟩ | ⟨e, q⟩
  · try simp only [e, w_seq, w_next, w_ifS, w_ret, w_retN, w_drop, w_asg, w_gName, w_gSub, w_var, w_c, w_op, w_un, w_rU, w_rI0, w_rI, w_test, w_b, w_and, w_or, w_not, w_andV, w_orV, w_notV, w_if, w_cons, w_nil, w_tup, w_lst, w_call, w_cB, w_eq, w_ne, w_isN, w_notN, w_chain, w_sl, w_part, w_noPart, w_forL, w_for1, w_for2, w_K, w_for3, w_isnotB, w_raise, w_try, w_cut, w_KX,  exists_const, false_or, or_false, exists_false, w_s1, w_s2, w_s3, w_s4, w_s5, L2.start, List.map_cons, List.map_nil, List.length_cons, List.length_nil, List.replicate, List.replicate_zero, List.replicate_succ, Nat.reduceAdd, Nat.reduceSub, Nat.reduceLeDiff, List.cons_append, List.nil_append, List.append_nil, List.set_cons_zero, List.set_cons_succ, List.getElem?_cons_zero, List.getElem?_cons_succ, Option.some.injEq, V.int.injEq, V.bl.injEq, V.ref.injEq, V.str.injEq, V.ty.injEq, List.cons.injEq, and_true, true_and, exists_eq_left, exists_eq_left', exists_and_left, exists_eq, exists_eq', and_self, decide_eq_true_eq, Bool.not_eq_true', decide_eq_false_iff_not, Bool.true_eq_false, Bool.false_eq_true, if_true, if_false, ite_true, ite_false, false_and, and_false, and_assoc, reduceCtorEq]
    exact q
  · try simp only [e, w_seq, w_next, w_ifS, w_ret, w_retN, w_drop, w_asg, w_gName, w_gSub, w_var, w_c, w_op, w_un, w_rU, w_rI0, w_rI, w_test, w_b, w_and, w_or, w_not, w_andV, w_orV, w_notV, w_if, w_cons, w_nil, w_tup, w_lst, w_call, w_cB, w_eq, w_ne, w_isN, w_notN, w_chain, w_sl, w_part, w_noPart, w_forL, w_for1, w_for2, w_K, w_for3, w_isnotB, w_raise, w_try, w_cut, w_KX,  exists_const, false_or, or_false, exists_false, w_s1, w_s2, w_s3, w_s4, w_s5, L2.start, List.map_cons, List.map_nil, List.length_cons, List.length_nil, List.replicate, List.replicate_zero, List.replicate_succ, Nat.reduceAdd, Nat.reduceSub, Nat.reduceLeDiff, List.cons_append, List.nil_append, List.append_nil, List.set_cons_zero, List.set_cons_succ, List.getElem?_cons_zero, List.getElem?_cons_succ, Option.some.injEq, V.int.injEq, V.bl.injEq, V.ref.injEq, V.str.injEq, V.ty.injEq, List.cons.injEq, and_true, true_and, exists_eq_left, exists_eq_left', exists_and_left, exists_eq, exists_eq', and_self, decide_eq_true_eq, Bool.not_eq_true', decide_eq_false_iff_not, Bool.true_eq_false, Bool.false_eq_true, if_true, if_false, ite_true, ite_false, false_and, and_false, and_assoc, reduceCtorEq]
    exact q

theorem ok_check_quiet (B : Bt K mg C CB t0 t1 aNoHappening aNoFit aNoWish aNoRoad aNoTime aNoRow aBackward aNoNumber aFallen aNoBook aNoText) (C_is_quiet_hours : CalX P w K mg base "is_quiet_hours" ["thing"] 4 (sp_is_quiet_hours C)) (F : Fun K "check_quiet" "check_quiet" s_check_quiet f fd) : FnOk P w K mg base (CXF P w) 5 f fd ["quiet"] ((sp_check_quiet C)) := by
  refine Fun.okX F sc_check_quiet (fun vs H Q E h => ?_) (fun cdv A outer s H vs Q E hr h => ?_)
  · obtain ⟨x, rfl, _⟩ := h
    rfl
  obtain ⟨x, rfl, ox, oe, h⟩ := h
  refine ⟨_, (pss_one (ps_if (pt_not (pt_val (pe_calX C_is_quiet_hours (hr.mono (by decide)) rfl (pa_cons (pv 0) pa_nil)))) (pss_one (ps_raise (R := fun H9 => E (.ref C) none H9) rfl rfl B.NoClock B.exc (fun _ _ _ _ _ _ _ I hx hE => raiseX I hx hE))) pss_nil)), ?_⟩
  try simp only [w_seq, w_next, w_ifS, w_ret, w_retN, w_drop, w_asg, w_gName, w_gSub, w_var, w_c, w_op, w_un, w_rU, w_rI0, w_rI, w_test, w_b, w_and, w_or, w_not, w_andV, w_orV, w_notV, w_if, w_cons, w_nil, w_tup, w_lst, w_call, w_cB, w_eq, w_ne, w_isN, w_notN, w_chain, w_sl, w_part, w_noPart, w_forL, w_for1, w_for2, w_K, w_for3, w_isnotB, w_raise, w_try, w_cut, w_KX,  exists_const, false_or, or_false, exists_false, w_s1, w_s2, w_s3, w_s4, w_s5, L2.start, List.map_cons, List.map_nil, List.length_cons, List.length_nil, List.replicate, List.replicate_zero, List.replicate_succ, Nat.reduceAdd, Nat.reduceSub, Nat.reduceLeDiff, List.cons_append, List.nil_append, List.append_nil, List.set_cons_zero, List.set_cons_succ, List.getElem?_cons_zero, List.getElem?_cons_succ, Option.some.injEq, V.int.injEq, V.bl.injEq, V.ref.injEq, V.str.injEq, V.ty.injEq, List.cons.injEq, and_true, true_and, exists_eq_left, exists_eq_left', exists_and_left, exists_eq, exists_eq', and_self, decide_eq_true_eq, Bool.not_eq_true', decide_eq_false_iff_not, Bool.true_eq_false, Bool.false_eq_true, if_true, if_false, ite_true, ite_false, false_and, and_false, and_assoc, reduceCtorEq]
  refine ⟨_, rfl, ox, oe, ?_⟩
  rcases h with ⟨e, q⟩ | ⟨e, q⟩
  · try simp only [e, w_seq, w_next, w_ifS, w_ret, w_retN, w_drop, w_asg, w_gName, w_gSub, w_var, w_c, w_op, w_un, w_rU, w_rI0, w_rI, w_test, w_b, w_and, w_or, w_not, w_andV, w_orV, w_notV, w_if, w_cons, w_nil, w_tup, w_lst, w_call, w_cB, w_eq, w_ne, w_isN, w_notN, w_chain, w_sl, w_part, w_noPart, w_forL, w_for1, w_for2, w_K, w_for3, w_isnotB, w_raise, w_try, w_cut, w_KX,  exists_const, false_or, or_false, exists_false, w_s1, w_s2, w_s3, w_s4, w_s5, L2.start, List.map_cons, List.map_nil, List.length_cons, List.length_nil, List.replicate, List.replicate_zero, List.replicate_succ, Nat.reduceAdd, Nat.reduceSub, Nat.reduceLeDiff, List.cons_append, List.nil_append, List.append_nil, List.set_cons_zero, List.set_cons_succ, List.getElem?_cons_zero, List.getElem?_cons_succ, Option.some.injEq, V.int.injEq, V.bl.injEq, V.ref.injEq, V.str.injEq, V.ty.injEq, List.cons.injEq, and_true, true_and, exists_eq_left, exists_eq_left', exists_and_left, exists_eq, exists_eq', and_self, decide_eq_true_eq, Bool.not_eq_true', decide_eq_false_iff_not, Bool.true_eq_false, Bool.false_eq_true, if_true, if_false, ite_true, ite_false, false_and, and_false, and_assoc, reduceCtorEq]
    exact q
  · try simp only [e, w_seq, w_next, w_ifS, w_ret, w_retN, w_drop, w_asg, w_gName, w_gSub, w_var, w_c, w_op, w_un, w_rU, w_rI0, w_rI, w_test, w_b, w_and, w_or, w_not, w_andV, w_orV, w_notV, w_if, w_cons, w_nil, w_tup, w_lst, w_call, w_cB, w_eq, w_ne, w_isN, w_notN, w_chain, w_sl, w_part, w_noPart, w_forL, w_for1, w_for2, w_K, w_for3, w_isnotB, w_raise, w_try, w_cut, w_KX,  exists_const, false_or, or_false, exists_false, w_s1, w_s2, w_s3, w_s4, w_s5, L2.start, List.map_cons, List.map_nil, List.length_cons, List.length_nil, List.replicate, List.replicate_zero, List.replicate_succ, Nat.reduceAdd, Nat.reduceSub, Nat.reduceLeDiff, List.cons_append, List.nil_append, List.append_nil, List.set_cons_zero, List.set_cons_succ, List.getElem?_cons_zero, List.getElem?_cons_succ, Option.some.injEq, V.int.injEq, V.bl.injEq, V.ref.injEq, V.str.injEq, V.ty.injEq, List.cons.injEq, and_true, true_and, exists_eq_left, exists_eq_left', exists_and_left, exists_eq, exists_eq', and_self, decide_eq_true_eq, Bool.not_eq_true', decide_eq_false_iff_not, Bool.true_eq_false, Bool.false_eq_true, if_true, if_false, ite_true, ite_false, false_and, and_false, and_assoc, reduceCtorEq]
    exact q

theorem ok_shown (B : Bt K mg C CB t0 t1 aNoHappening aNoFit aNoWish aNoRoad aNoTime aNoRow aBackward aNoNumber aFallen aNoBook aNoText) (C_check_zone : CalX P w K mg base "check_zone" ["zone"] 3 (sp_check_zone C)) (F : Fun K "shown" "shown" s_shown f fd) : FnOk P w K mg base (CXF P w) 4 f fd ["moment", "zone"] ((sp_shown C)) := by
  refine Fun.okX F sc_shown (fun vs H Q E h => ?_) (fun cdv A outer s H vs Q E hr h => ?_)
  · obtain ⟨m, x, rfl, _⟩ := h
    rfl
  obtain ⟨m, x, rfl, ox, h⟩ := h
  refine ⟨_, (pss_cons (ps_expr (pe_calX C_check_zone (hr.mono (by decide)) rfl (pa_cons (pv 1) pa_nil))) (pss_cons (ps_set (i := 2) sc_shown.nd rfl (Or.inl rfl) (pe_op op_add (pv 0) (pv 1))) (pss_one (ps_ret (pe_tup (pa_cons (pe_op op_fdivL (pv 2) (pe_glob (v := .int 1440) rfl B.MINUTES_OF_DAY ⟨_, rfl⟩)) (pa_cons (pe_op op_mod (pv 2) (pe_glob (v := .int 1440) rfl B.MINUTES_OF_DAY ⟨_, rfl⟩)) pa_nil))))))), ?_⟩
  try simp only [w_seq, w_next, w_ifS, w_ret, w_retN, w_drop, w_asg, w_gName, w_gSub, w_var, w_c, w_op, w_un, w_rU, w_rI0, w_rI, w_test, w_b, w_and, w_or, w_not, w_andV, w_orV, w_notV, w_if, w_cons, w_nil, w_tup, w_lst, w_call, w_cB, w_eq, w_ne, w_isN, w_notN, w_chain, w_sl, w_part, w_noPart, w_forL, w_for1, w_for2, w_K, w_for3, w_isnotB, w_raise, w_try, w_cut, w_KX,  exists_const, false_or, or_false, exists_false, w_s1, w_s2, w_s3, w_s4, w_s5, L2.start, List.map_cons, List.map_nil, List.length_cons, List.length_nil, List.replicate, List.replicate_zero, List.replicate_succ, Nat.reduceAdd, Nat.reduceSub, Nat.reduceLeDiff, List.cons_append, List.nil_append, List.append_nil, List.set_cons_zero, List.set_cons_succ, List.getElem?_cons_zero, List.getElem?_cons_succ, Option.some.injEq, V.int.injEq, V.bl.injEq, V.ref.injEq, V.str.injEq, V.ty.injEq, List.cons.injEq, and_true, true_and, exists_eq_left, exists_eq_left', exists_and_left, exists_eq, exists_eq', and_self, decide_eq_true_eq, Bool.not_eq_true', decide_eq_false_iff_not, Bool.true_eq_false, Bool.false_eq_true, if_true, if_false, ite_true, ite_false, false_and, and_false, and_assoc, reduceCtorEq]
  refine ⟨_, rfl, ox, ?_⟩
  rcases h with ⟨z, rfl, z0, z1, q⟩ | ⟨b, q⟩
  · refine .inl ⟨betw_int z0 z1, ?_⟩
    try simp only [w_seq, w_next, w_ifS, w_ret, w_retN, w_drop, w_asg, w_gName, w_gSub, w_var, w_c, w_op, w_un, w_rU, w_rI0, w_rI, w_test, w_b, w_and, w_or, w_not, w_andV, w_orV, w_notV, w_if, w_cons, w_nil, w_tup, w_lst, w_call, w_cB, w_eq, w_ne, w_isN, w_notN, w_chain, w_sl, w_part, w_noPart, w_forL, w_for1, w_for2, w_K, w_for3, w_isnotB, w_raise, w_try, w_cut, w_KX,  exists_const, false_or, or_false, exists_false, w_s1, w_s2, w_s3, w_s4, w_s5, L2.start, List.map_cons, List.map_nil, List.length_cons, List.length_nil, List.replicate, List.replicate_zero, List.replicate_succ, Nat.reduceAdd, Nat.reduceSub, Nat.reduceLeDiff, List.cons_append, List.nil_append, List.append_nil, List.set_cons_zero, List.set_cons_succ, List.getElem?_cons_zero, List.getElem?_cons_succ, Option.some.injEq, V.int.injEq, V.bl.injEq, V.ref.injEq, V.str.injEq, V.ty.injEq, List.cons.injEq, and_true, true_and, exists_eq_left, exists_eq_left', exists_and_left, exists_eq, exists_eq', and_self, decide_eq_true_eq, Bool.not_eq_true', decide_eq_false_iff_not, Bool.true_eq_false, Bool.false_eq_true, if_true, if_false, ite_true, ite_false, false_and, and_false, and_assoc, reduceCtorEq]
    exact ⟨⟨by decide, by decide⟩, by decide, sz8 (by decide), q⟩
  · exact .inr ⟨b, q⟩

theorem ok_is_quiet (B : Bt K mg C CB t0 t1 aNoHappening aNoFit aNoWish aNoRoad aNoTime aNoRow aBackward aNoNumber aFallen aNoBook aNoText) (C_check_quiet : CalX P w K mg base "check_quiet" ["quiet"] 5 (sp_check_quiet C)) (C_shown : CalX P w K mg base "shown" ["moment", "zone"] 4 (sp_shown C)) (F : Fun K "is_quiet" "is_quiet" s_is_quiet f fd) : FnOk P w K mg base (CXF P w) 6 f fd ["quiet", "zone", "moment"] ((sp_is_quiet C)) := by
  refine Fun.okX F sc_is_quiet (fun vs H Q E h => ?_) (fun cdv A outer s H vs Q E hr h => ?_)
  · obtain ⟨qv, x, m, rfl, _⟩ := h
    rfl
  obtain ⟨qv, x, m, rfl, oq, oe, ox, h⟩ := h
  refine ⟨_, (pss_cons (ps_expr (pe_calX C_check_quiet (hr.mono (by decide)) rfl (pa_cons (pv 0) pa_nil))) (pss_cons (ps_set (i := 3) sc_is_quiet.nd rfl (Or.inl rfl) (pe_ix ix_tup (pe_calX C_shown (hr.mono (by decide)) rfl (pa_cons (pv 2) (pa_cons (pv 1) pa_nil))) pe_int (fun _ _ => rfl))) (pss_cons (ps_if (pt_cmp (pc_isN (pv 0))) (pss_one (ps_ret pe_bl)) pss_nil) (pss_cons (ps_set (i := 4) sc_is_quiet.nd rfl (Or.inl rfl) (pe_ix ix_tup (pv 0) pe_int (fun _ _ => rfl))) (pss_cons (ps_set (i := 5) sc_is_quiet.nd rfl (Or.inl rfl) (pe_ix ix_tup (pv 0) pe_int (fun _ _ => rfl))) (pss_cons (ps_if (pt_cmpR op_lt (pv 4) (pv 5) (nomark _)) (pss_one (ps_ret (pe_and (pe_cmpR op_le (pv 4) (pv 3) (nomark _)) (pe_one (pe_cmpR op_lt (pv 3) (pv 5) (nomark _)))))) pss_nil) (pss_one (ps_ret (pe_or (pe_cmpR op_le (pv 4) (pv 3) (nomark _)) (pe_one (pe_cmpR op_lt (pv 3) (pv 5) (nomark _)))))))))))), ?_⟩
  try simp only [w_seq, w_next, w_ifS, w_ret, w_retN, w_drop, w_asg, w_gName, w_gSub, w_var, w_c, w_op, w_un, w_rU, w_rI0, w_rI, w_test, w_b, w_and, w_or, w_not, w_andV, w_orV, w_notV, w_if, w_cons, w_nil, w_tup, w_lst, w_call, w_cB, w_eq, w_ne, w_isN, w_notN, w_chain, w_sl, w_part, w_noPart, w_forL, w_for1, w_for2, w_K, w_for3, w_isnotB, w_raise, w_try, w_cut, w_KX,  exists_const, false_or, or_false, exists_false, w_s1, w_s2, w_s3, w_s4, w_s5, L2.start, List.map_cons, List.map_nil, List.length_cons, List.length_nil, List.replicate, List.replicate_zero, List.replicate_succ, Nat.reduceAdd, Nat.reduceSub, Nat.reduceLeDiff, List.cons_append, List.nil_append, List.append_nil, List.set_cons_zero, List.set_cons_succ, List.getElem?_cons_zero, List.getElem?_cons_succ, Option.some.injEq, V.int.injEq, V.bl.injEq, V.ref.injEq, V.str.injEq, V.ty.injEq, List.cons.injEq, and_true, true_and, exists_eq_left, exists_eq_left', exists_and_left, exists_eq, exists_eq', and_self, decide_eq_true_eq, Bool.not_eq_true', decide_eq_false_iff_not, Bool.true_eq_false, Bool.false_eq_true, if_true, if_false, ite_true, ite_false, false_and, and_false, and_assoc, reduceCtorEq]
  refine ⟨_, rfl, oq, oe, ?_⟩
  rcases h with ⟨z, rfl, z0, z1, hg⟩ | ⟨hb, q⟩
  · have hqh : qhB H qv = true := by
      rcases hg with ⟨rfl, _⟩ | ⟨p, s, e, rfl, k, _⟩
      · rfl
      · exact k.ok.2.2
    refine .inl ⟨hqh, ?_⟩
    try simp only [w_seq, w_next, w_ifS, w_ret, w_retN, w_drop, w_asg, w_gName, w_gSub, w_var, w_c, w_op, w_un, w_rU, w_rI0, w_rI, w_test, w_b, w_and, w_or, w_not, w_andV, w_orV, w_notV, w_if, w_cons, w_nil, w_tup, w_lst, w_call, w_cB, w_eq, w_ne, w_isN, w_notN, w_chain, w_sl, w_part, w_noPart, w_forL, w_for1, w_for2, w_K, w_for3, w_isnotB, w_raise, w_try, w_cut, w_KX,  exists_const, false_or, or_false, exists_false, w_s1, w_s2, w_s3, w_s4, w_s5, L2.start, List.map_cons, List.map_nil, List.length_cons, List.length_nil, List.replicate, List.replicate_zero, List.replicate_succ, Nat.reduceAdd, Nat.reduceSub, Nat.reduceLeDiff, List.cons_append, List.nil_append, List.append_nil, List.set_cons_zero, List.set_cons_succ, List.getElem?_cons_zero, List.getElem?_cons_succ, Option.some.injEq, V.int.injEq, V.bl.injEq, V.ref.injEq, V.str.injEq, V.ty.injEq, List.cons.injEq, and_true, true_and, exists_eq_left, exists_eq_left', exists_and_left, exists_eq, exists_eq', and_self, decide_eq_true_eq, Bool.not_eq_true', decide_eq_false_iff_not, Bool.true_eq_false, Bool.false_eq_true, if_true, if_false, ite_true, ite_false, false_and, and_false, and_assoc, reduceCtorEq]
    refine ⟨m, _, rfl, trivial, .inl ⟨z, rfl, z0, z1, fun pp hpp => ?_⟩⟩
    refine ixt (SqT.of upd_same) (v := .int ((m + z) % 1440)) rfl ?_
    try simp only [w_seq, w_next, w_ifS, w_ret, w_retN, w_drop, w_asg, w_gName, w_gSub, w_var, w_c, w_op, w_un, w_rU, w_rI0, w_rI, w_test, w_b, w_and, w_or, w_not, w_andV, w_orV, w_notV, w_if, w_cons, w_nil, w_tup, w_lst, w_call, w_cB, w_eq, w_ne, w_isN, w_notN, w_chain, w_sl, w_part, w_noPart, w_forL, w_for1, w_for2, w_K, w_for3, w_isnotB, w_raise, w_try, w_cut, w_KX,  exists_const, false_or, or_false, exists_false, w_s1, w_s2, w_s3, w_s4, w_s5, L2.start, List.map_cons, List.map_nil, List.length_cons, List.length_nil, List.replicate, List.replicate_zero, List.replicate_succ, Nat.reduceAdd, Nat.reduceSub, Nat.reduceLeDiff, List.cons_append, List.nil_append, List.append_nil, List.set_cons_zero, List.set_cons_succ, List.getElem?_cons_zero, List.getElem?_cons_succ, Option.some.injEq, V.int.injEq, V.bl.injEq, V.ref.injEq, V.str.injEq, V.ty.injEq, List.cons.injEq, and_true, true_and, exists_eq_left, exists_eq_left', exists_and_left, exists_eq, exists_eq', and_self, decide_eq_true_eq, Bool.not_eq_true', decide_eq_false_iff_not, Bool.true_eq_false, Bool.false_eq_true, if_true, if_false, ite_true, ite_false, false_and, and_false, and_assoc, reduceCtorEq]
    have sm := same_new hpp (.tup [.int ((m + z) / 1440), .int ((m + z) % 1440)])
    rcases hg with ⟨rfl, q⟩ | ⟨p, s, e, rfl, hq, q⟩
    · try simp only [w_seq, w_next, w_ifS, w_ret, w_retN, w_drop, w_asg, w_gName, w_gSub, w_var, w_c, w_op, w_un, w_rU, w_rI0, w_rI, w_test, w_b, w_and, w_or, w_not, w_andV, w_orV, w_notV, w_if, w_cons, w_nil, w_tup, w_lst, w_call, w_cB, w_eq, w_ne, w_isN, w_notN, w_chain, w_sl, w_part, w_noPart, w_forL, w_for1, w_for2, w_K, w_for3, w_isnotB, w_raise, w_try, w_cut, w_KX,  exists_const, false_or, or_false, exists_false, w_s1, w_s2, w_s3, w_s4, w_s5, L2.start, List.map_cons, List.map_nil, List.length_cons, List.length_nil, List.replicate, List.replicate_zero, List.replicate_succ, Nat.reduceAdd, Nat.reduceSub, Nat.reduceLeDiff, List.cons_append, List.nil_append, List.append_nil, List.set_cons_zero, List.set_cons_succ, List.getElem?_cons_zero, List.getElem?_cons_succ, Option.some.injEq, V.int.injEq, V.bl.injEq, V.ref.injEq, V.str.injEq, V.ty.injEq, List.cons.injEq, and_true, true_and, exists_eq_left, exists_eq_left', exists_and_left, exists_eq, exists_eq', and_self, decide_eq_true_eq, Bool.not_eq_true', decide_eq_false_iff_not, Bool.true_eq_false, Bool.false_eq_true, if_true, if_false, ite_true, ite_false, false_and, and_false, and_assoc, reduceCtorEq]
      exact q _ sm
    · try simp only [w_seq, w_next, w_ifS, w_ret, w_retN, w_drop, w_asg, w_gName, w_gSub, w_var, w_c, w_op, w_un, w_rU, w_rI0, w_rI, w_test, w_b, w_and, w_or, w_not, w_andV, w_orV, w_notV, w_if, w_cons, w_nil, w_tup, w_lst, w_call, w_cB, w_eq, w_ne, w_isN, w_notN, w_chain, w_sl, w_part, w_noPart, w_forL, w_for1, w_for2, w_K, w_for3, w_isnotB, w_raise, w_try, w_cut, w_KX,  exists_const, false_or, or_false, exists_false, w_s1, w_s2, w_s3, w_s4, w_s5, L2.start, List.map_cons, List.map_nil, List.length_cons, List.length_nil, List.replicate, List.replicate_zero, List.replicate_succ, Nat.reduceAdd, Nat.reduceSub, Nat.reduceLeDiff, List.cons_append, List.nil_append, List.append_nil, List.set_cons_zero, List.set_cons_succ, List.getElem?_cons_zero, List.getElem?_cons_succ, Option.some.injEq, V.int.injEq, V.bl.injEq, V.ref.injEq, V.str.injEq, V.ty.injEq, List.cons.injEq, and_true, true_and, exists_eq_left, exists_eq_left', exists_and_left, exists_eq, exists_eq', and_self, decide_eq_true_eq, Bool.not_eq_true', decide_eq_false_iff_not, Bool.true_eq_false, Bool.false_eq_true, if_true, if_false, ite_true, ite_false, false_and, and_false, and_assoc, reduceCtorEq]
      have hq2 := hq.same sm
      have q2 := q _ sm
      refine ixt (SqT.of hq2.at_) (v := .int s) rfl ?_
      try simp only [w_seq, w_next, w_ifS, w_ret, w_retN, w_drop, w_asg, w_gName, w_gSub, w_var, w_c, w_op, w_un, w_rU, w_rI0, w_rI, w_test, w_b, w_and, w_or, w_not, w_andV, w_orV, w_notV, w_if, w_cons, w_nil, w_tup, w_lst, w_call, w_cB, w_eq, w_ne, w_isN, w_notN, w_chain, w_sl, w_part, w_noPart, w_forL, w_for1, w_for2, w_K, w_for3, w_isnotB, w_raise, w_try, w_cut, w_KX,  exists_const, false_or, or_false, exists_false, w_s1, w_s2, w_s3, w_s4, w_s5, L2.start, List.map_cons, List.map_nil, List.length_cons, List.length_nil, List.replicate, List.replicate_zero, List.replicate_succ, Nat.reduceAdd, Nat.reduceSub, Nat.reduceLeDiff, List.cons_append, List.nil_append, List.append_nil, List.set_cons_zero, List.set_cons_succ, List.getElem?_cons_zero, List.getElem?_cons_succ, Option.some.injEq, V.int.injEq, V.bl.injEq, V.ref.injEq, V.str.injEq, V.ty.injEq, List.cons.injEq, and_true, true_and, exists_eq_left, exists_eq_left', exists_and_left, exists_eq, exists_eq', and_self, decide_eq_true_eq, Bool.not_eq_true', decide_eq_false_iff_not, Bool.true_eq_false, Bool.false_eq_true, if_true, if_false, ite_true, ite_false, false_and, and_false, and_assoc, reduceCtorEq]
      refine ixt (SqT.of hq2.at_) (v := .int e) rfl ?_
      try simp only [w_seq, w_next, w_ifS, w_ret, w_retN, w_drop, w_asg, w_gName, w_gSub, w_var, w_c, w_op, w_un, w_rU, w_rI0, w_rI, w_test, w_b, w_and, w_or, w_not, w_andV, w_orV, w_notV, w_if, w_cons, w_nil, w_tup, w_lst, w_call, w_cB, w_eq, w_ne, w_isN, w_notN, w_chain, w_sl, w_part, w_noPart, w_forL, w_for1, w_for2, w_K, w_for3, w_isnotB, w_raise, w_try, w_cut, w_KX,  exists_const, false_or, or_false, exists_false, w_s1, w_s2, w_s3, w_s4, w_s5, L2.start, List.map_cons, List.map_nil, List.length_cons, List.length_nil, List.replicate, List.replicate_zero, List.replicate_succ, Nat.reduceAdd, Nat.reduceSub, Nat.reduceLeDiff, List.cons_append, List.nil_append, List.append_nil, List.set_cons_zero, List.set_cons_succ, List.getElem?_cons_zero, List.getElem?_cons_succ, Option.some.injEq, V.int.injEq, V.bl.injEq, V.ref.injEq, V.str.injEq, V.ty.injEq, List.cons.injEq, and_true, true_and, exists_eq_left, exists_eq_left', exists_and_left, exists_eq, exists_eq', and_self, decide_eq_true_eq, Bool.not_eq_true', decide_eq_false_iff_not, Bool.true_eq_false, Bool.false_eq_true, if_true, if_false, ite_true, ite_false, false_and, and_false, and_assoc, reduceCtorEq]
      unfold quietB at q2
      by_cases h1 : s < e
      · rw [if_pos h1]
        rw [if_pos h1] at q2
        try simp only [w_seq, w_next, w_ifS, w_ret, w_retN, w_drop, w_asg, w_gName, w_gSub, w_var, w_c, w_op, w_un, w_rU, w_rI0, w_rI, w_test, w_b, w_and, w_or, w_not, w_andV, w_orV, w_notV, w_if, w_cons, w_nil, w_tup, w_lst, w_call, w_cB, w_eq, w_ne, w_isN, w_notN, w_chain, w_sl, w_part, w_noPart, w_forL, w_for1, w_for2, w_K, w_for3, w_isnotB, w_raise, w_try, w_cut, w_KX,  exists_const, false_or, or_false, exists_false, w_s1, w_s2, w_s3, w_s4, w_s5, L2.start, List.map_cons, List.map_nil, List.length_cons, List.length_nil, List.replicate, List.replicate_zero, List.replicate_succ, Nat.reduceAdd, Nat.reduceSub, Nat.reduceLeDiff, List.cons_append, List.nil_append, List.append_nil, List.set_cons_zero, List.set_cons_succ, List.getElem?_cons_zero, List.getElem?_cons_succ, Option.some.injEq, V.int.injEq, V.bl.injEq, V.ref.injEq, V.str.injEq, V.ty.injEq, List.cons.injEq, and_true, true_and, exists_eq_left, exists_eq_left', exists_and_left, exists_eq, exists_eq', and_self, decide_eq_true_eq, Bool.not_eq_true', decide_eq_false_iff_not, Bool.true_eq_false, Bool.false_eq_true, if_true, if_false, ite_true, ite_false, false_and, and_false, and_assoc, reduceCtorEq]
        by_cases h2 : s ≤ (m + z) % 1440
        · rw [if_pos h2]
          rw [decide_eq_true h2, Bool.true_and] at q2
          exact q2
        · rw [if_neg h2]
          rw [decide_eq_false h2, Bool.false_and] at q2
          exact q2
      · rw [if_neg h1]
        rw [if_neg h1] at q2
        try simp only [w_seq, w_next, w_ifS, w_ret, w_retN, w_drop, w_asg, w_gName, w_gSub, w_var, w_c, w_op, w_un, w_rU, w_rI0, w_rI, w_test, w_b, w_and, w_or, w_not, w_andV, w_orV, w_notV, w_if, w_cons, w_nil, w_tup, w_lst, w_call, w_cB, w_eq, w_ne, w_isN, w_notN, w_chain, w_sl, w_part, w_noPart, w_forL, w_for1, w_for2, w_K, w_for3, w_isnotB, w_raise, w_try, w_cut, w_KX,  exists_const, false_or, or_false, exists_false, w_s1, w_s2, w_s3, w_s4, w_s5, L2.start, List.map_cons, List.map_nil, List.length_cons, List.length_nil, List.replicate, List.replicate_zero, List.replicate_succ, Nat.reduceAdd, Nat.reduceSub, Nat.reduceLeDiff, List.cons_append, List.nil_append, List.append_nil, List.set_cons_zero, List.set_cons_succ, List.getElem?_cons_zero, List.getElem?_cons_succ, Option.some.injEq, V.int.injEq, V.bl.injEq, V.ref.injEq, V.str.injEq, V.ty.injEq, List.cons.injEq, and_true, true_and, exists_eq_left, exists_eq_left', exists_and_left, exists_eq, exists_eq', and_self, decide_eq_true_eq, Bool.not_eq_true', decide_eq_false_iff_not, Bool.true_eq_false, Bool.false_eq_true, if_true, if_false, ite_true, ite_false, false_and, and_false, and_assoc, reduceCtorEq]
        by_cases h2 : s ≤ (m + z) % 1440
        · rw [if_pos h2]
          rw [decide_eq_true h2, Bool.true_or] at q2
          exact q2
        · rw [if_neg h2]
          rw [decide_eq_false h2, Bool.false_or] at q2
          exact q2
  · by_cases hqh : qhB H qv = true
    · refine .inl ⟨hqh, ?_⟩
      try simp only [w_seq, w_next, w_ifS, w_ret, w_retN, w_drop, w_asg, w_gName, w_gSub, w_var, w_c, w_op, w_un, w_rU, w_rI0, w_rI, w_test, w_b, w_and, w_or, w_not, w_andV, w_orV, w_notV, w_if, w_cons, w_nil, w_tup, w_lst, w_call, w_cB, w_eq, w_ne, w_isN, w_notN, w_chain, w_sl, w_part, w_noPart, w_forL, w_for1, w_for2, w_K, w_for3, w_isnotB, w_raise, w_try, w_cut, w_KX,  exists_const, false_or, or_false, exists_false, w_s1, w_s2, w_s3, w_s4, w_s5, L2.start, List.map_cons, List.map_nil, List.length_cons, List.length_nil, List.replicate, List.replicate_zero, List.replicate_succ, Nat.reduceAdd, Nat.reduceSub, Nat.reduceLeDiff, List.cons_append, List.nil_append, List.append_nil, List.set_cons_zero, List.set_cons_succ, List.getElem?_cons_zero, List.getElem?_cons_succ, Option.some.injEq, V.int.injEq, V.bl.injEq, V.ref.injEq, V.str.injEq, V.ty.injEq, List.cons.injEq, and_true, true_and, exists_eq_left, exists_eq_left', exists_and_left, exists_eq, exists_eq', and_self, decide_eq_true_eq, Bool.not_eq_true', decide_eq_false_iff_not, Bool.true_eq_false, Bool.false_eq_true, if_true, if_false, ite_true, ite_false, false_and, and_false, and_assoc, reduceCtorEq]
      refine ⟨m, _, rfl, ox, .inr ⟨?_, q⟩⟩
      rcases hb with hb | hb
      · rw [hqh] at hb; cases hb
      · exact hb
    · exact .inr ⟨Bool.eq_false_iff.mpr hqh, q⟩

theorem ok_loud_from (B : Bt K mg C CB t0 t1 aNoHappening aNoFit aNoWish aNoRoad aNoTime aNoRow aBackward aNoNumber aFallen aNoBook aNoText) (C_is_quiet : CalX P w K mg base "is_quiet" ["quiet", "zone", "moment"] 6 (sp_is_quiet C)) (C_next_day : CalX P w K mg base "next_day" ["minute", "zone", "moment"] 5 (sp_next_day C)) (F : Fun K "loud_from" "loud_from" s_loud_from f fd) : FnOk P w K mg base (CXF P w) 7 f fd ["quiet", "zone", "moment"] ((sp_loud_from C)) := by
  refine Fun.okX F sc_loud_from (fun vs H Q E h => ?_) (fun cdv A outer s H vs Q E hr h => ?_)
  · obtain ⟨qv, x, m, rfl, _⟩ := h
    rfl
  obtain ⟨qv, x, m, rfl, oq, oe, ox, h⟩ := h
  refine ⟨_, (pss_cons (ps_if (pt_val (pe_calX C_is_quiet (hr.mono (by decide)) rfl (pa_cons (pv 0) (pa_cons (pv 1) (pa_cons (pv 2) pa_nil))))) (pss_one (ps_ret (pe_calX C_next_day (hr.mono (by decide)) rfl (pa_cons (pe_ix ix_tup (pv 0) pe_int (fun _ _ => rfl)) (pa_cons (pv 1) (pa_cons (pv 2) pa_nil)))))) pss_nil) (pss_one (ps_ret (pv 2)))), ?_⟩
  try simp only [w_seq, w_next, w_ifS, w_ret, w_retN, w_drop, w_asg, w_gName, w_gSub, w_var, w_c, w_op, w_un, w_rU, w_rI0, w_rI, w_test, w_b, w_and, w_or, w_not, w_andV, w_orV, w_notV, w_if, w_cons, w_nil, w_tup, w_lst, w_call, w_cB, w_eq, w_ne, w_isN, w_notN, w_chain, w_sl, w_part, w_noPart, w_forL, w_for1, w_for2, w_K, w_for3, w_isnotB, w_raise, w_try, w_cut, w_KX,  exists_const, false_or, or_false, exists_false, w_s1, w_s2, w_s3, w_s4, w_s5, L2.start, List.map_cons, List.map_nil, List.length_cons, List.length_nil, List.replicate, List.replicate_zero, List.replicate_succ, Nat.reduceAdd, Nat.reduceSub, Nat.reduceLeDiff, List.cons_append, List.nil_append, List.append_nil, List.set_cons_zero, List.set_cons_succ, List.getElem?_cons_zero, List.getElem?_cons_succ, Option.some.injEq, V.int.injEq, V.bl.injEq, V.ref.injEq, V.str.injEq, V.ty.injEq, List.cons.injEq, and_true, true_and, exists_eq_left, exists_eq_left', exists_and_left, exists_eq, exists_eq', and_self, decide_eq_true_eq, Bool.not_eq_true', decide_eq_false_iff_not, Bool.true_eq_false, Bool.false_eq_true, if_true, if_false, ite_true, ite_false, false_and, and_false, and_assoc, reduceCtorEq]
  refine ⟨_, _, m, rfl, oq, oe, ox, ?_⟩
  rcases h with ⟨z, rfl, z0, z1, hg⟩ | ⟨hb, q⟩
  · refine .inl ⟨z, rfl, z0, z1, ?_⟩
    rcases hg with ⟨rfl, q⟩ | ⟨p, s, e, rfl, hq, q⟩
    · refine .inl ⟨rfl, fun H1 S1 => ?_⟩
      try simp only [w_seq, w_next, w_ifS, w_ret, w_retN, w_drop, w_asg, w_gName, w_gSub, w_var, w_c, w_op, w_un, w_rU, w_rI0, w_rI, w_test, w_b, w_and, w_or, w_not, w_andV, w_orV, w_notV, w_if, w_cons, w_nil, w_tup, w_lst, w_call, w_cB, w_eq, w_ne, w_isN, w_notN, w_chain, w_sl, w_part, w_noPart, w_forL, w_for1, w_for2, w_K, w_for3, w_isnotB, w_raise, w_try, w_cut, w_KX,  exists_const, false_or, or_false, exists_false, w_s1, w_s2, w_s3, w_s4, w_s5, L2.start, List.map_cons, List.map_nil, List.length_cons, List.length_nil, List.replicate, List.replicate_zero, List.replicate_succ, Nat.reduceAdd, Nat.reduceSub, Nat.reduceLeDiff, List.cons_append, List.nil_append, List.append_nil, List.set_cons_zero, List.set_cons_succ, List.getElem?_cons_zero, List.getElem?_cons_succ, Option.some.injEq, V.int.injEq, V.bl.injEq, V.ref.injEq, V.str.injEq, V.ty.injEq, List.cons.injEq, and_true, true_and, exists_eq_left, exists_eq_left', exists_and_left, exists_eq, exists_eq', and_self, decide_eq_true_eq, Bool.not_eq_true', decide_eq_false_iff_not, Bool.true_eq_false, Bool.false_eq_true, if_true, if_false, ite_true, ite_false, false_and, and_false, and_assoc, reduceCtorEq]
      exact q _ S1
    · refine .inr ⟨p, s, e, rfl, hq, fun H1 S1 => ?_⟩
      have q1 := q _ S1
      unfold loudV at q1
      try simp only [w_seq, w_next, w_ifS, w_ret, w_retN, w_drop, w_asg, w_gName, w_gSub, w_var, w_c, w_op, w_un, w_rU, w_rI0, w_rI, w_test, w_b, w_and, w_or, w_not, w_andV, w_orV, w_notV, w_if, w_cons, w_nil, w_tup, w_lst, w_call, w_cB, w_eq, w_ne, w_isN, w_notN, w_chain, w_sl, w_part, w_noPart, w_forL, w_for1, w_for2, w_K, w_for3, w_isnotB, w_raise, w_try, w_cut, w_KX,  exists_const, false_or, or_false, exists_false, w_s1, w_s2, w_s3, w_s4, w_s5, L2.start, List.map_cons, List.map_nil, List.length_cons, List.length_nil, List.replicate, List.replicate_zero, List.replicate_succ, Nat.reduceAdd, Nat.reduceSub, Nat.reduceLeDiff, List.cons_append, List.nil_append, List.append_nil, List.set_cons_zero, List.set_cons_succ, List.getElem?_cons_zero, List.getElem?_cons_succ, Option.some.injEq, V.int.injEq, V.bl.injEq, V.ref.injEq, V.str.injEq, V.ty.injEq, List.cons.injEq, and_true, true_and, exists_eq_left, exists_eq_left', exists_and_left, exists_eq, exists_eq', and_self, decide_eq_true_eq, Bool.not_eq_true', decide_eq_false_iff_not, Bool.true_eq_false, Bool.false_eq_true, if_true, if_false, ite_true, ite_false, false_and, and_false, and_assoc, reduceCtorEq]
      by_cases h : quietB s e ((m + z) % 1440) = true
      · rw [if_pos h] at q1
        rw [if_pos h]
        refine ixt (SqT.of (hq.same S1).at_) (v := .int e) rfl ?_
        exact ⟨_, _, m, rfl, trivial, trivial, .inl ⟨e, z, rfl, hq.e0, hq.e1, rfl, z0, z1, q1⟩⟩
      · rw [if_neg h] at q1
        rw [if_neg h]
        try simp only [w_seq, w_next, w_ifS, w_ret, w_retN, w_drop, w_asg, w_gName, w_gSub, w_var, w_c, w_op, w_un, w_rU, w_rI0, w_rI, w_test, w_b, w_and, w_or, w_not, w_andV, w_orV, w_notV, w_if, w_cons, w_nil, w_tup, w_lst, w_call, w_cB, w_eq, w_ne, w_isN, w_notN, w_chain, w_sl, w_part, w_noPart, w_forL, w_for1, w_for2, w_K, w_for3, w_isnotB, w_raise, w_try, w_cut, w_KX,  exists_const, false_or, or_false, exists_false, w_s1, w_s2, w_s3, w_s4, w_s5, L2.start, List.map_cons, List.map_nil, List.length_cons, List.length_nil, List.replicate, List.replicate_zero, List.replicate_succ, Nat.reduceAdd, Nat.reduceSub, Nat.reduceLeDiff, List.cons_append, List.nil_append, List.append_nil, List.set_cons_zero, List.set_cons_succ, List.getElem?_cons_zero, List.getElem?_cons_succ, Option.some.injEq, V.int.injEq, V.bl.injEq, V.ref.injEq, V.str.injEq, V.ty.injEq, List.cons.injEq, and_true, true_and, exists_eq_left, exists_eq_left', exists_and_left, exists_eq, exists_eq', and_self, decide_eq_true_eq, Bool.not_eq_true', decide_eq_false_iff_not, Bool.true_eq_false, Bool.false_eq_true, if_true, if_false, ite_true, ite_false, false_and, and_false, and_assoc, reduceCtorEq]
        exact q1
  · exact .inr ⟨hb, q⟩

theorem ok_quiet_below (B : Bt K mg C CB t0 t1 aNoHappening aNoFit aNoWish aNoRoad aNoTime aNoRow aBackward aNoNumber aFallen aNoBook aNoText)  (F : Fun K "quiet_below" "quiet_below" s_quiet_below f fd) : FnOk P w K mg base CX0 1 f fd ["quiet", "zone", "moment"] ((sp_quiet_below C)) := by
  refine F.ok sc_quiet_below (fun vs H Q E h => ?_) (fun cdv A outer s H vs Q E hr h => ?_)
  · obtain ⟨p, s, e, z, m, rfl, _⟩ := h
    rfl
  obtain ⟨p, s, e, z, m, rfl, hq, q⟩ := h
  refine ⟨_, (pss_cons (ps_set (i := 3) sc_quiet_below.nd rfl (Or.inl rfl) (pe_op op_mod (pe_op op_sub (pe_ix ix_tup (pv 0) pe_int (fun _ _ => rfl)) (pe_ix ix_tup (pv 0) pe_int (fun _ _ => rfl))) (pe_glob (v := .int 1440) rfl B.MINUTES_OF_DAY ⟨_, rfl⟩))) (pss_cons (ps_set (i := 4) sc_quiet_below.nd rfl (Or.inl rfl) (pe_op op_sub (pe_op op_add (pv 2) (pv 1)) (pe_ix ix_tup (pv 0) pe_int (fun _ _ => rfl)))) (pss_one (ps_ret (pe_op op_add (pe_op op_mul (pe_op op_fdivL (pv 4) (pe_glob (v := .int 1440) rfl B.MINUTES_OF_DAY ⟨_, rfl⟩)) (pv 3)) (pe_callB (call_min2 rfl) rfl B.min PyProof.Rows.boot_min (pa_cons (pe_op op_mod (pv 4) (pe_glob (v := .int 1440) rfl B.MINUTES_OF_DAY ⟨_, rfl⟩)) (pa_cons (pv 3) pa_nil)))))))), ?_⟩
  try simp only [w_seq, w_next, w_ifS, w_ret, w_retN, w_drop, w_asg, w_gName, w_gSub, w_var, w_c, w_op, w_un, w_rU, w_rI0, w_rI, w_test, w_b, w_and, w_or, w_not, w_andV, w_orV, w_notV, w_if, w_cons, w_nil, w_tup, w_lst, w_call, w_cB, w_eq, w_ne, w_isN, w_notN, w_chain, w_sl, w_part, w_noPart, w_forL, w_for1, w_for2, w_K, w_for3, w_isnotB, w_raise, w_try, w_cut, w_KX,  exists_const, false_or, or_false, exists_false, w_s1, w_s2, w_s3, w_s4, w_s5, L2.start, List.map_cons, List.map_nil, List.length_cons, List.length_nil, List.replicate, List.replicate_zero, List.replicate_succ, Nat.reduceAdd, Nat.reduceSub, Nat.reduceLeDiff, List.cons_append, List.nil_append, List.append_nil, List.set_cons_zero, List.set_cons_succ, List.getElem?_cons_zero, List.getElem?_cons_succ, Option.some.injEq, V.int.injEq, V.bl.injEq, V.ref.injEq, V.str.injEq, V.ty.injEq, List.cons.injEq, and_true, true_and, exists_eq_left, exists_eq_left', exists_and_left, exists_eq, exists_eq', and_self, decide_eq_true_eq, Bool.not_eq_true', decide_eq_false_iff_not, Bool.true_eq_false, Bool.false_eq_true, if_true, if_false, ite_true, ite_false, false_and, and_false, and_assoc, reduceCtorEq]
  have L0 : 0 ≤ (e - s) % 1440 := by omega
  have L1 : (e - s) % 1440 < 1440 := by omega
  unfold below at q
  refine ixt (SqT.of hq.at_) (v := .int e) rfl ?_
  try simp only [w_seq, w_next, w_ifS, w_ret, w_retN, w_drop, w_asg, w_gName, w_gSub, w_var, w_c, w_op, w_un, w_rU, w_rI0, w_rI, w_test, w_b, w_and, w_or, w_not, w_andV, w_orV, w_notV, w_if, w_cons, w_nil, w_tup, w_lst, w_call, w_cB, w_eq, w_ne, w_isN, w_notN, w_chain, w_sl, w_part, w_noPart, w_forL, w_for1, w_for2, w_K, w_for3, w_isnotB, w_raise, w_try, w_cut, w_KX,  exists_const, false_or, or_false, exists_false, w_s1, w_s2, w_s3, w_s4, w_s5, L2.start, List.map_cons, List.map_nil, List.length_cons, List.length_nil, List.replicate, List.replicate_zero, List.replicate_succ, Nat.reduceAdd, Nat.reduceSub, Nat.reduceLeDiff, List.cons_append, List.nil_append, List.append_nil, List.set_cons_zero, List.set_cons_succ, List.getElem?_cons_zero, List.getElem?_cons_succ, Option.some.injEq, V.int.injEq, V.bl.injEq, V.ref.injEq, V.str.injEq, V.ty.injEq, List.cons.injEq, and_true, true_and, exists_eq_left, exists_eq_left', exists_and_left, exists_eq, exists_eq', and_self, decide_eq_true_eq, Bool.not_eq_true', decide_eq_false_iff_not, Bool.true_eq_false, Bool.false_eq_true, if_true, if_false, ite_true, ite_false, false_and, and_false, and_assoc, reduceCtorEq]
  refine ixt (SqT.of hq.at_) (v := .int s) rfl ?_
  try simp only [w_seq, w_next, w_ifS, w_ret, w_retN, w_drop, w_asg, w_gName, w_gSub, w_var, w_c, w_op, w_un, w_rU, w_rI0, w_rI, w_test, w_b, w_and, w_or, w_not, w_andV, w_orV, w_notV, w_if, w_cons, w_nil, w_tup, w_lst, w_call, w_cB, w_eq, w_ne, w_isN, w_notN, w_chain, w_sl, w_part, w_noPart, w_forL, w_for1, w_for2, w_K, w_for3, w_isnotB, w_raise, w_try, w_cut, w_KX,  exists_const, false_or, or_false, exists_false, w_s1, w_s2, w_s3, w_s4, w_s5, L2.start, List.map_cons, List.map_nil, List.length_cons, List.length_nil, List.replicate, List.replicate_zero, List.replicate_succ, Nat.reduceAdd, Nat.reduceSub, Nat.reduceLeDiff, List.cons_append, List.nil_append, List.append_nil, List.set_cons_zero, List.set_cons_succ, List.getElem?_cons_zero, List.getElem?_cons_succ, Option.some.injEq, V.int.injEq, V.bl.injEq, V.ref.injEq, V.str.injEq, V.ty.injEq, List.cons.injEq, and_true, true_and, exists_eq_left, exists_eq_left', exists_and_left, exists_eq, exists_eq', and_self, decide_eq_true_eq, Bool.not_eq_true', decide_eq_false_iff_not, Bool.true_eq_false, Bool.false_eq_true, if_true, if_false, ite_true, ite_false, false_and, and_false, and_assoc, reduceCtorEq]
  refine ⟨by decide, ?_⟩
  refine ixt (SqT.of hq.at_) (v := .int s) rfl ?_
  try simp only [w_seq, w_next, w_ifS, w_ret, w_retN, w_drop, w_asg, w_gName, w_gSub, w_var, w_c, w_op, w_un, w_rU, w_rI0, w_rI, w_test, w_b, w_and, w_or, w_not, w_andV, w_orV, w_notV, w_if, w_cons, w_nil, w_tup, w_lst, w_call, w_cB, w_eq, w_ne, w_isN, w_notN, w_chain, w_sl, w_part, w_noPart, w_forL, w_for1, w_for2, w_K, w_for3, w_isnotB, w_raise, w_try, w_cut, w_KX,  exists_const, false_or, or_false, exists_false, w_s1, w_s2, w_s3, w_s4, w_s5, L2.start, List.map_cons, List.map_nil, List.length_cons, List.length_nil, List.replicate, List.replicate_zero, List.replicate_succ, Nat.reduceAdd, Nat.reduceSub, Nat.reduceLeDiff, List.cons_append, List.nil_append, List.append_nil, List.set_cons_zero, List.set_cons_succ, List.getElem?_cons_zero, List.getElem?_cons_succ, Option.some.injEq, V.int.injEq, V.bl.injEq, V.ref.injEq, V.str.injEq, V.ty.injEq, List.cons.injEq, and_true, true_and, exists_eq_left, exists_eq_left', exists_and_left, exists_eq, exists_eq', and_self, decide_eq_true_eq, Bool.not_eq_true', decide_eq_false_iff_not, Bool.true_eq_false, Bool.false_eq_true, if_true, if_false, ite_true, ite_false, false_and, and_false, and_assoc, reduceCtorEq]
  exact ⟨⟨by decide, by decide⟩, .inr ⟨by omega, by omega⟩, by decide, q⟩

theorem ok_quiet_count (B : Bt K mg C CB t0 t1 aNoHappening aNoFit aNoWish aNoRoad aNoTime aNoRow aBackward aNoNumber aFallen aNoBook aNoText) (C_check_quiet : CalX P w K mg base "check_quiet" ["quiet"] 5 (sp_check_quiet C)) (C_check_zone : CalX P w K mg base "check_zone" ["zone"] 3 (sp_check_zone C)) (C_quiet_below : CalX P w K mg base "quiet_below" ["quiet", "zone", "moment"] 1 (sp_quiet_below C)) (F : Fun K "quiet_count" "quiet_count" s_quiet_count f fd) : FnOk P w K mg base (CXF P w) 6 f fd ["quiet", "zone", "one", "other"] ((sp_quiet_count C)) := by
  refine Fun.okX F sc_quiet_count (fun vs H Q E h => ?_) (fun cdv A outer s H vs Q E hr h => ?_)
  · obtain ⟨qv, x, i, o, rfl, _⟩ := h
    rfl
  obtain ⟨qv, x, i, o, rfl, oq, oe, ox, h⟩ := h
  refine ⟨_, (pss_cons (ps_expr (pe_calX C_check_quiet (hr.mono (by decide)) rfl (pa_cons (pv 0) pa_nil))) (pss_cons (ps_expr (pe_calX C_check_zone (hr.mono (by decide)) rfl (pa_cons (pv 1) pa_nil))) (pss_cons (ps_if (L2.PW.pt (pw_or (pt_cmp (pc_isN (pv 0))) (pw_or1 (pt_cmpR op_le (pv 3) (pv 2) (nomark _))))) (pss_one (ps_ret pe_int)) pss_nil) (pss_one (ps_ret (pe_op op_sub (pe_calX C_quiet_below (hr.mono (by decide)) rfl (pa_cons (pv 0) (pa_cons (pv 1) (pa_cons (pv 3) pa_nil)))) (pe_calX C_quiet_below (hr.mono (by decide)) rfl (pa_cons (pv 0) (pa_cons (pv 1) (pa_cons (pv 2) pa_nil)))))))))), ?_⟩
  try simp only [w_seq, w_next, w_ifS, w_ret, w_retN, w_drop, w_asg, w_gName, w_gSub, w_var, w_c, w_op, w_un, w_rU, w_rI0, w_rI, w_test, w_b, w_and, w_or, w_not, w_andV, w_orV, w_notV, w_if, w_cons, w_nil, w_tup, w_lst, w_call, w_cB, w_eq, w_ne, w_isN, w_notN, w_chain, w_sl, w_part, w_noPart, w_forL, w_for1, w_for2, w_K, w_for3, w_isnotB, w_raise, w_try, w_cut, w_KX,  exists_const, false_or, or_false, exists_false, w_s1, w_s2, w_s3, w_s4, w_s5, L2.start, List.map_cons, List.map_nil, List.length_cons, List.length_nil, List.replicate, List.replicate_zero, List.replicate_succ, Nat.reduceAdd, Nat.reduceSub, Nat.reduceLeDiff, List.cons_append, List.nil_append, List.append_nil, List.set_cons_zero, List.set_cons_succ, List.getElem?_cons_zero, List.getElem?_cons_succ, Option.some.injEq, V.int.injEq, V.bl.injEq, V.ref.injEq, V.str.injEq, V.ty.injEq, List.cons.injEq, and_true, true_and, exists_eq_left, exists_eq_left', exists_and_left, exists_eq, exists_eq', and_self, decide_eq_true_eq, Bool.not_eq_true', decide_eq_false_iff_not, Bool.true_eq_false, Bool.false_eq_true, if_true, if_false, ite_true, ite_false, false_and, and_false, and_assoc, reduceCtorEq]
  refine ⟨_, rfl, oq, oe, ?_⟩
  rcases h with ⟨z, rfl, z0, z1, hg⟩ | ⟨hb, q⟩
  · have hqh : qhB H qv = true := by
      rcases hg with ⟨rfl, _⟩ | ⟨p, s, e, rfl, k, _⟩
      · rfl
      · exact k.ok.2.2
    refine .inl ⟨hqh, ?_⟩
    try simp only [w_seq, w_next, w_ifS, w_ret, w_retN, w_drop, w_asg, w_gName, w_gSub, w_var, w_c, w_op, w_un, w_rU, w_rI0, w_rI, w_test, w_b, w_and, w_or, w_not, w_andV, w_orV, w_notV, w_if, w_cons, w_nil, w_tup, w_lst, w_call, w_cB, w_eq, w_ne, w_isN, w_notN, w_chain, w_sl, w_part, w_noPart, w_forL, w_for1, w_for2, w_K, w_for3, w_isnotB, w_raise, w_try, w_cut, w_KX,  exists_const, false_or, or_false, exists_false, w_s1, w_s2, w_s3, w_s4, w_s5, L2.start, List.map_cons, List.map_nil, List.length_cons, List.length_nil, List.replicate, List.replicate_zero, List.replicate_succ, Nat.reduceAdd, Nat.reduceSub, Nat.reduceLeDiff, List.cons_append, List.nil_append, List.append_nil, List.set_cons_zero, List.set_cons_succ, List.getElem?_cons_zero, List.getElem?_cons_succ, Option.some.injEq, V.int.injEq, V.bl.injEq, V.ref.injEq, V.str.injEq, V.ty.injEq, List.cons.injEq, and_true, true_and, exists_eq_left, exists_eq_left', exists_and_left, exists_eq, exists_eq', and_self, decide_eq_true_eq, Bool.not_eq_true', decide_eq_false_iff_not, Bool.true_eq_false, Bool.false_eq_true, if_true, if_false, ite_true, ite_false, false_and, and_false, and_assoc, reduceCtorEq]
    refine ⟨_, rfl, trivial, .inl ⟨betw_int z0 z1, ?_⟩⟩
    try simp only [w_seq, w_next, w_ifS, w_ret, w_retN, w_drop, w_asg, w_gName, w_gSub, w_var, w_c, w_op, w_un, w_rU, w_rI0, w_rI, w_test, w_b, w_and, w_or, w_not, w_andV, w_orV, w_notV, w_if, w_cons, w_nil, w_tup, w_lst, w_call, w_cB, w_eq, w_ne, w_isN, w_notN, w_chain, w_sl, w_part, w_noPart, w_forL, w_for1, w_for2, w_K, w_for3, w_isnotB, w_raise, w_try, w_cut, w_KX,  exists_const, false_or, or_false, exists_false, w_s1, w_s2, w_s3, w_s4, w_s5, L2.start, List.map_cons, List.map_nil, List.length_cons, List.length_nil, List.replicate, List.replicate_zero, List.replicate_succ, Nat.reduceAdd, Nat.reduceSub, Nat.reduceLeDiff, List.cons_append, List.nil_append, List.append_nil, List.set_cons_zero, List.set_cons_succ, List.getElem?_cons_zero, List.getElem?_cons_succ, Option.some.injEq, V.int.injEq, V.bl.injEq, V.ref.injEq, V.str.injEq, V.ty.injEq, List.cons.injEq, and_true, true_and, exists_eq_left, exists_eq_left', exists_and_left, exists_eq, exists_eq', and_self, decide_eq_true_eq, Bool.not_eq_true', decide_eq_false_iff_not, Bool.true_eq_false, Bool.false_eq_true, if_true, if_false, ite_true, ite_false, false_and, and_false, and_assoc, reduceCtorEq]
    rcases hg with ⟨rfl, q⟩ | ⟨p, s, e, rfl, hq, q⟩
    · try simp only [w_seq, w_next, w_ifS, w_ret, w_retN, w_drop, w_asg, w_gName, w_gSub, w_var, w_c, w_op, w_un, w_rU, w_rI0, w_rI, w_test, w_b, w_and, w_or, w_not, w_andV, w_orV, w_notV, w_if, w_cons, w_nil, w_tup, w_lst, w_call, w_cB, w_eq, w_ne, w_isN, w_notN, w_chain, w_sl, w_part, w_noPart, w_forL, w_for1, w_for2, w_K, w_for3, w_isnotB, w_raise, w_try, w_cut, w_KX,  exists_const, false_or, or_false, exists_false, w_s1, w_s2, w_s3, w_s4, w_s5, L2.start, List.map_cons, List.map_nil, List.length_cons, List.length_nil, List.replicate, List.replicate_zero, List.replicate_succ, Nat.reduceAdd, Nat.reduceSub, Nat.reduceLeDiff, List.cons_append, List.nil_append, List.append_nil, List.set_cons_zero, List.set_cons_succ, List.getElem?_cons_zero, List.getElem?_cons_succ, Option.some.injEq, V.int.injEq, V.bl.injEq, V.ref.injEq, V.str.injEq, V.ty.injEq, List.cons.injEq, and_true, true_and, exists_eq_left, exists_eq_left', exists_and_left, exists_eq, exists_eq', and_self, decide_eq_true_eq, Bool.not_eq_true', decide_eq_false_iff_not, Bool.true_eq_false, Bool.false_eq_true, if_true, if_false, ite_true, ite_false, false_and, and_false, and_assoc, reduceCtorEq]
      exact q
    · try simp only [w_seq, w_next, w_ifS, w_ret, w_retN, w_drop, w_asg, w_gName, w_gSub, w_var, w_c, w_op, w_un, w_rU, w_rI0, w_rI, w_test, w_b, w_and, w_or, w_not, w_andV, w_orV, w_notV, w_if, w_cons, w_nil, w_tup, w_lst, w_call, w_cB, w_eq, w_ne, w_isN, w_notN, w_chain, w_sl, w_part, w_noPart, w_forL, w_for1, w_for2, w_K, w_for3, w_isnotB, w_raise, w_try, w_cut, w_KX,  exists_const, false_or, or_false, exists_false, w_s1, w_s2, w_s3, w_s4, w_s5, L2.start, List.map_cons, List.map_nil, List.length_cons, List.length_nil, List.replicate, List.replicate_zero, List.replicate_succ, Nat.reduceAdd, Nat.reduceSub, Nat.reduceLeDiff, List.cons_append, List.nil_append, List.append_nil, List.set_cons_zero, List.set_cons_succ, List.getElem?_cons_zero, List.getElem?_cons_succ, Option.some.injEq, V.int.injEq, V.bl.injEq, V.ref.injEq, V.str.injEq, V.ty.injEq, List.cons.injEq, and_true, true_and, exists_eq_left, exists_eq_left', exists_and_left, exists_eq, exists_eq', and_self, decide_eq_true_eq, Bool.not_eq_true', decide_eq_false_iff_not, Bool.true_eq_false, Bool.false_eq_true, if_true, if_false, ite_true, ite_false, false_and, and_false, and_assoc, reduceCtorEq]
      unfold countV at q
      by_cases ho : o ≤ i
      · rw [if_pos ho] at q
        rw [if_pos ho]
        exact q
      · rw [if_neg ho] at q
        rw [if_neg ho]
        try simp only [w_seq, w_next, w_ifS, w_ret, w_retN, w_drop, w_asg, w_gName, w_gSub, w_var, w_c, w_op, w_un, w_rU, w_rI0, w_rI, w_test, w_b, w_and, w_or, w_not, w_andV, w_orV, w_notV, w_if, w_cons, w_nil, w_tup, w_lst, w_call, w_cB, w_eq, w_ne, w_isN, w_notN, w_chain, w_sl, w_part, w_noPart, w_forL, w_for1, w_for2, w_K, w_for3, w_isnotB, w_raise, w_try, w_cut, w_KX,  exists_const, false_or, or_false, exists_false, w_s1, w_s2, w_s3, w_s4, w_s5, L2.start, List.map_cons, List.map_nil, List.length_cons, List.length_nil, List.replicate, List.replicate_zero, List.replicate_succ, Nat.reduceAdd, Nat.reduceSub, Nat.reduceLeDiff, List.cons_append, List.nil_append, List.append_nil, List.set_cons_zero, List.set_cons_succ, List.getElem?_cons_zero, List.getElem?_cons_succ, Option.some.injEq, V.int.injEq, V.bl.injEq, V.ref.injEq, V.str.injEq, V.ty.injEq, List.cons.injEq, and_true, true_and, exists_eq_left, exists_eq_left', exists_and_left, exists_eq, exists_eq', and_self, decide_eq_true_eq, Bool.not_eq_true', decide_eq_false_iff_not, Bool.true_eq_false, Bool.false_eq_true, if_true, if_false, ite_true, ite_false, false_and, and_false, and_assoc, reduceCtorEq]
        refine ⟨p, s, e, z, o, rfl, hq, ?_⟩
        try simp only [w_seq, w_next, w_ifS, w_ret, w_retN, w_drop, w_asg, w_gName, w_gSub, w_var, w_c, w_op, w_un, w_rU, w_rI0, w_rI, w_test, w_b, w_and, w_or, w_not, w_andV, w_orV, w_notV, w_if, w_cons, w_nil, w_tup, w_lst, w_call, w_cB, w_eq, w_ne, w_isN, w_notN, w_chain, w_sl, w_part, w_noPart, w_forL, w_for1, w_for2, w_K, w_for3, w_isnotB, w_raise, w_try, w_cut, w_KX,  exists_const, false_or, or_false, exists_false, w_s1, w_s2, w_s3, w_s4, w_s5, L2.start, List.map_cons, List.map_nil, List.length_cons, List.length_nil, List.replicate, List.replicate_zero, List.replicate_succ, Nat.reduceAdd, Nat.reduceSub, Nat.reduceLeDiff, List.cons_append, List.nil_append, List.append_nil, List.set_cons_zero, List.set_cons_succ, List.getElem?_cons_zero, List.getElem?_cons_succ, Option.some.injEq, V.int.injEq, V.bl.injEq, V.ref.injEq, V.str.injEq, V.ty.injEq, List.cons.injEq, and_true, true_and, exists_eq_left, exists_eq_left', exists_and_left, exists_eq, exists_eq', and_self, decide_eq_true_eq, Bool.not_eq_true', decide_eq_false_iff_not, Bool.true_eq_false, Bool.false_eq_true, if_true, if_false, ite_true, ite_false, false_and, and_false, and_assoc, reduceCtorEq]
        refine ⟨p, s, e, z, i, rfl, hq, ?_⟩
        try simp only [w_seq, w_next, w_ifS, w_ret, w_retN, w_drop, w_asg, w_gName, w_gSub, w_var, w_c, w_op, w_un, w_rU, w_rI0, w_rI, w_test, w_b, w_and, w_or, w_not, w_andV, w_orV, w_notV, w_if, w_cons, w_nil, w_tup, w_lst, w_call, w_cB, w_eq, w_ne, w_isN, w_notN, w_chain, w_sl, w_part, w_noPart, w_forL, w_for1, w_for2, w_K, w_for3, w_isnotB, w_raise, w_try, w_cut, w_KX,  exists_const, false_or, or_false, exists_false, w_s1, w_s2, w_s3, w_s4, w_s5, L2.start, List.map_cons, List.map_nil, List.length_cons, List.length_nil, List.replicate, List.replicate_zero, List.replicate_succ, Nat.reduceAdd, Nat.reduceSub, Nat.reduceLeDiff, List.cons_append, List.nil_append, List.append_nil, List.set_cons_zero, List.set_cons_succ, List.getElem?_cons_zero, List.getElem?_cons_succ, Option.some.injEq, V.int.injEq, V.bl.injEq, V.ref.injEq, V.str.injEq, V.ty.injEq, List.cons.injEq, and_true, true_and, exists_eq_left, exists_eq_left', exists_and_left, exists_eq, exists_eq', and_self, decide_eq_true_eq, Bool.not_eq_true', decide_eq_false_iff_not, Bool.true_eq_false, Bool.false_eq_true, if_true, if_false, ite_true, ite_false, false_and, and_false, and_assoc, reduceCtorEq]
        exact q
  · by_cases hqh : qhB H qv = true
    · refine .inl ⟨hqh, ?_⟩
      try simp only [w_seq, w_next, w_ifS, w_ret, w_retN, w_drop, w_asg, w_gName, w_gSub, w_var, w_c, w_op, w_un, w_rU, w_rI0, w_rI, w_test, w_b, w_and, w_or, w_not, w_andV, w_orV, w_notV, w_if, w_cons, w_nil, w_tup, w_lst, w_call, w_cB, w_eq, w_ne, w_isN, w_notN, w_chain, w_sl, w_part, w_noPart, w_forL, w_for1, w_for2, w_K, w_for3, w_isnotB, w_raise, w_try, w_cut, w_KX,  exists_const, false_or, or_false, exists_false, w_s1, w_s2, w_s3, w_s4, w_s5, L2.start, List.map_cons, List.map_nil, List.length_cons, List.length_nil, List.replicate, List.replicate_zero, List.replicate_succ, Nat.reduceAdd, Nat.reduceSub, Nat.reduceLeDiff, List.cons_append, List.nil_append, List.append_nil, List.set_cons_zero, List.set_cons_succ, List.getElem?_cons_zero, List.getElem?_cons_succ, Option.some.injEq, V.int.injEq, V.bl.injEq, V.ref.injEq, V.str.injEq, V.ty.injEq, List.cons.injEq, and_true, true_and, exists_eq_left, exists_eq_left', exists_and_left, exists_eq, exists_eq', and_self, decide_eq_true_eq, Bool.not_eq_true', decide_eq_false_iff_not, Bool.true_eq_false, Bool.false_eq_true, if_true, if_false, ite_true, ite_false, false_and, and_false, and_assoc, reduceCtorEq]
      refine ⟨_, rfl, ox, .inr ⟨?_, q⟩⟩
      rcases hb with hb | hb
      · rw [hqh] at hb; cases hb
      · exact hb
    · exact .inr ⟨Bool.eq_false_iff.mpr hqh, q⟩

theorem ok_next_hour (B : Bt K mg C CB t0 t1 aNoHappening aNoFit aNoWish aNoRoad aNoTime aNoRow aBackward aNoNumber aFallen aNoBook aNoText) (C_check_minute_of_hour : CalX P w K mg base "check_minute_of_hour" ["minute"] 3 (sp_check_minute_of_hour C)) (C_check_zone : CalX P w K mg base "check_zone" ["zone"] 3 (sp_check_zone C)) (F : Fun K "next_hour" "next_hour" s_next_hour f fd) : FnOk P w K mg base (CXF P w) 4 f fd ["minute", "zone", "moment"] ((sp_next_hour C)) := by
  refine Fun.okX F sc_next_hour (fun vs H Q E h => ?_) (fun cdv A outer s H vs Q E hr h => ?_)
  · obtain ⟨y, x, m, rfl, _⟩ := h
    rfl
  obtain ⟨y, x, m, rfl, oy, ox, h⟩ := h
  refine ⟨_, (pss_cons (ps_expr (pe_calX C_check_minute_of_hour (hr.mono (by decide)) rfl (pa_cons (pv 0) pa_nil))) (pss_cons (ps_expr (pe_calX C_check_zone (hr.mono (by decide)) rfl (pa_cons (pv 1) pa_nil))) (pss_one (ps_ret (pe_op op_add (pv 2) (pe_op op_mod (pe_op op_sub (pe_op op_sub (pv 0) (pv 2)) (pv 1)) (pe_glob (v := .int 60) rfl B.MINUTES_OF_HOUR ⟨_, rfl⟩))))))), ?_⟩
  try simp only [w_seq, w_next, w_ifS, w_ret, w_retN, w_drop, w_asg, w_gName, w_gSub, w_var, w_c, w_op, w_un, w_rU, w_rI0, w_rI, w_test, w_b, w_and, w_or, w_not, w_andV, w_orV, w_notV, w_if, w_cons, w_nil, w_tup, w_lst, w_call, w_cB, w_eq, w_ne, w_isN, w_notN, w_chain, w_sl, w_part, w_noPart, w_forL, w_for1, w_for2, w_K, w_for3, w_isnotB, w_raise, w_try, w_cut, w_KX,  exists_const, false_or, or_false, exists_false, w_s1, w_s2, w_s3, w_s4, w_s5, L2.start, List.map_cons, List.map_nil, List.length_cons, List.length_nil, List.replicate, List.replicate_zero, List.replicate_succ, Nat.reduceAdd, Nat.reduceSub, Nat.reduceLeDiff, List.cons_append, List.nil_append, List.append_nil, List.set_cons_zero, List.set_cons_succ, List.getElem?_cons_zero, List.getElem?_cons_succ, Option.some.injEq, V.int.injEq, V.bl.injEq, V.ref.injEq, V.str.injEq, V.ty.injEq, List.cons.injEq, and_true, true_and, exists_eq_left, exists_eq_left', exists_and_left, exists_eq, exists_eq', and_self, decide_eq_true_eq, Bool.not_eq_true', decide_eq_false_iff_not, Bool.true_eq_false, Bool.false_eq_true, if_true, if_false, ite_true, ite_false, false_and, and_false, and_assoc, reduceCtorEq]
  refine ⟨_, rfl, oy, ?_⟩
  rcases h with ⟨i, z, rfl, i0, i1, rfl, z0, z1, q⟩ | ⟨hb, q⟩
  · refine .inl ⟨betw_int i0 i1, ?_⟩
    try simp only [w_seq, w_next, w_ifS, w_ret, w_retN, w_drop, w_asg, w_gName, w_gSub, w_var, w_c, w_op, w_un, w_rU, w_rI0, w_rI, w_test, w_b, w_and, w_or, w_not, w_andV, w_orV, w_notV, w_if, w_cons, w_nil, w_tup, w_lst, w_call, w_cB, w_eq, w_ne, w_isN, w_notN, w_chain, w_sl, w_part, w_noPart, w_forL, w_for1, w_for2, w_K, w_for3, w_isnotB, w_raise, w_try, w_cut, w_KX,  exists_const, false_or, or_false, exists_false, w_s1, w_s2, w_s3, w_s4, w_s5, L2.start, List.map_cons, List.map_nil, List.length_cons, List.length_nil, List.replicate, List.replicate_zero, List.replicate_succ, Nat.reduceAdd, Nat.reduceSub, Nat.reduceLeDiff, List.cons_append, List.nil_append, List.append_nil, List.set_cons_zero, List.set_cons_succ, List.getElem?_cons_zero, List.getElem?_cons_succ, Option.some.injEq, V.int.injEq, V.bl.injEq, V.ref.injEq, V.str.injEq, V.ty.injEq, List.cons.injEq, and_true, true_and, exists_eq_left, exists_eq_left', exists_and_left, exists_eq, exists_eq', and_self, decide_eq_true_eq, Bool.not_eq_true', decide_eq_false_iff_not, Bool.true_eq_false, Bool.false_eq_true, if_true, if_false, ite_true, ite_false, false_and, and_false, and_assoc, reduceCtorEq]
    refine ⟨_, rfl, trivial, .inl ⟨betw_int z0 z1, ?_⟩⟩
    try simp only [w_seq, w_next, w_ifS, w_ret, w_retN, w_drop, w_asg, w_gName, w_gSub, w_var, w_c, w_op, w_un, w_rU, w_rI0, w_rI, w_test, w_b, w_and, w_or, w_not, w_andV, w_orV, w_notV, w_if, w_cons, w_nil, w_tup, w_lst, w_call, w_cB, w_eq, w_ne, w_isN, w_notN, w_chain, w_sl, w_part, w_noPart, w_forL, w_for1, w_for2, w_K, w_for3, w_isnotB, w_raise, w_try, w_cut, w_KX,  exists_const, false_or, or_false, exists_false, w_s1, w_s2, w_s3, w_s4, w_s5, L2.start, List.map_cons, List.map_nil, List.length_cons, List.length_nil, List.replicate, List.replicate_zero, List.replicate_succ, Nat.reduceAdd, Nat.reduceSub, Nat.reduceLeDiff, List.cons_append, List.nil_append, List.append_nil, List.set_cons_zero, List.set_cons_succ, List.getElem?_cons_zero, List.getElem?_cons_succ, Option.some.injEq, V.int.injEq, V.bl.injEq, V.ref.injEq, V.str.injEq, V.ty.injEq, List.cons.injEq, and_true, true_and, exists_eq_left, exists_eq_left', exists_and_left, exists_eq, exists_eq', and_self, decide_eq_true_eq, Bool.not_eq_true', decide_eq_false_iff_not, Bool.true_eq_false, Bool.false_eq_true, if_true, if_false, ite_true, ite_false, false_and, and_false, and_assoc, reduceCtorEq]
    exact ⟨by decide, q⟩
  · by_cases hy : betwV y 0 59 = true
    · refine .inl ⟨hy, ?_⟩
      try simp only [w_seq, w_next, w_ifS, w_ret, w_retN, w_drop, w_asg, w_gName, w_gSub, w_var, w_c, w_op, w_un, w_rU, w_rI0, w_rI, w_test, w_b, w_and, w_or, w_not, w_andV, w_orV, w_notV, w_if, w_cons, w_nil, w_tup, w_lst, w_call, w_cB, w_eq, w_ne, w_isN, w_notN, w_chain, w_sl, w_part, w_noPart, w_forL, w_for1, w_for2, w_K, w_for3, w_isnotB, w_raise, w_try, w_cut, w_KX,  exists_const, false_or, or_false, exists_false, w_s1, w_s2, w_s3, w_s4, w_s5, L2.start, List.map_cons, List.map_nil, List.length_cons, List.length_nil, List.replicate, List.replicate_zero, List.replicate_succ, Nat.reduceAdd, Nat.reduceSub, Nat.reduceLeDiff, List.cons_append, List.nil_append, List.append_nil, List.set_cons_zero, List.set_cons_succ, List.getElem?_cons_zero, List.getElem?_cons_succ, Option.some.injEq, V.int.injEq, V.bl.injEq, V.ref.injEq, V.str.injEq, V.ty.injEq, List.cons.injEq, and_true, true_and, exists_eq_left, exists_eq_left', exists_and_left, exists_eq, exists_eq', and_self, decide_eq_true_eq, Bool.not_eq_true', decide_eq_false_iff_not, Bool.true_eq_false, Bool.false_eq_true, if_true, if_false, ite_true, ite_false, false_and, and_false, and_assoc, reduceCtorEq]
      refine ⟨_, rfl, ox, .inr ⟨?_, q⟩⟩
      rcases hb with hb | hb
      · rw [hy] at hb; cases hb
      · exact hb
    · exact .inr ⟨Bool.eq_false_iff.mpr hy, q⟩

theorem ok_next_day (B : Bt K mg C CB t0 t1 aNoHappening aNoFit aNoWish aNoRoad aNoTime aNoRow aBackward aNoNumber aFallen aNoBook aNoText) (C_check_minute_of_day : CalX P w K mg base "check_minute_of_day" ["minute"] 4 (sp_check_minute_of_day C)) (C_check_zone : CalX P w K mg base "check_zone" ["zone"] 3 (sp_check_zone C)) (F : Fun K "next_day" "next_day" s_next_day f fd) : FnOk P w K mg base (CXF P w) 5 f fd ["minute", "zone", "moment"] ((sp_next_day C)) := by
  refine Fun.okX F sc_next_day (fun vs H Q E h => ?_) (fun cdv A outer s H vs Q E hr h => ?_)
  · obtain ⟨y, x, m, rfl, _⟩ := h
    rfl
  obtain ⟨y, x, m, rfl, oy, ox, h⟩ := h
  refine ⟨_, (pss_cons (ps_expr (pe_calX C_check_minute_of_day (hr.mono (by decide)) rfl (pa_cons (pv 0) pa_nil))) (pss_cons (ps_expr (pe_calX C_check_zone (hr.mono (by decide)) rfl (pa_cons (pv 1) pa_nil))) (pss_one (ps_ret (pe_op op_add (pv 2) (pe_op op_mod (pe_op op_sub (pe_op op_sub (pv 0) (pv 2)) (pv 1)) (pe_glob (v := .int 1440) rfl B.MINUTES_OF_DAY ⟨_, rfl⟩))))))), ?_⟩
  try simp only [w_seq, w_next, w_ifS, w_ret, w_retN, w_drop, w_asg, w_gName, w_gSub, w_var, w_c, w_op, w_un, w_rU, w_rI0, w_rI, w_test, w_b, w_and, w_or, w_not, w_andV, w_orV, w_notV, w_if, w_cons, w_nil, w_tup, w_lst, w_call, w_cB, w_eq, w_ne, w_isN, w_notN, w_chain, w_sl, w_part, w_noPart, w_forL, w_for1, w_for2, w_K, w_for3, w_isnotB, w_raise, w_try, w_cut, w_KX,  exists_const, false_or, or_false, exists_false, w_s1, w_s2, w_s3, w_s4, w_s5, L2.start, List.map_cons, List.map_nil, List.length_cons, List.length_nil, List.replicate, List.replicate_zero, List.replicate_succ, Nat.reduceAdd, Nat.reduceSub, Nat.reduceLeDiff, List.cons_append, List.nil_append, List.append_nil, List.set_cons_zero, List.set_cons_succ, List.getElem?_cons_zero, List.getElem?_cons_succ, Option.some.injEq, V.int.injEq, V.bl.injEq, V.ref.injEq, V.str.injEq, V.ty.injEq, List.cons.injEq, and_true, true_and, exists_eq_left, exists_eq_left', exists_and_left, exists_eq, exists_eq', and_self, decide_eq_true_eq, Bool.not_eq_true', decide_eq_false_iff_not, Bool.true_eq_false, Bool.false_eq_true, if_true, if_false, ite_true, ite_false, false_and, and_false, and_assoc, reduceCtorEq]
  refine ⟨_, rfl, oy, ?_⟩
  rcases h with ⟨i, z, rfl, i0, i1, rfl, z0, z1, q⟩ | ⟨hb, q⟩
  · refine .inl ⟨betw_int i0 i1, ?_⟩
    try simp only [w_seq, w_next, w_ifS, w_ret, w_retN, w_drop, w_asg, w_gName, w_gSub, w_var, w_c, w_op, w_un, w_rU, w_rI0, w_rI, w_test, w_b, w_and, w_or, w_not, w_andV, w_orV, w_notV, w_if, w_cons, w_nil, w_tup, w_lst, w_call, w_cB, w_eq, w_ne, w_isN, w_notN, w_chain, w_sl, w_part, w_noPart, w_forL, w_for1, w_for2, w_K, w_for3, w_isnotB, w_raise, w_try, w_cut, w_KX,  exists_const, false_or, or_false, exists_false, w_s1, w_s2, w_s3, w_s4, w_s5, L2.start, List.map_cons, List.map_nil, List.length_cons, List.length_nil, List.replicate, List.replicate_zero, List.replicate_succ, Nat.reduceAdd, Nat.reduceSub, Nat.reduceLeDiff, List.cons_append, List.nil_append, List.append_nil, List.set_cons_zero, List.set_cons_succ, List.getElem?_cons_zero, List.getElem?_cons_succ, Option.some.injEq, V.int.injEq, V.bl.injEq, V.ref.injEq, V.str.injEq, V.ty.injEq, List.cons.injEq, and_true, true_and, exists_eq_left, exists_eq_left', exists_and_left, exists_eq, exists_eq', and_self, decide_eq_true_eq, Bool.not_eq_true', decide_eq_false_iff_not, Bool.true_eq_false, Bool.false_eq_true, if_true, if_false, ite_true, ite_false, false_and, and_false, and_assoc, reduceCtorEq]
    refine ⟨_, rfl, trivial, .inl ⟨betw_int z0 z1, ?_⟩⟩
    try simp only [w_seq, w_next, w_ifS, w_ret, w_retN, w_drop, w_asg, w_gName, w_gSub, w_var, w_c, w_op, w_un, w_rU, w_rI0, w_rI, w_test, w_b, w_and, w_or, w_not, w_andV, w_orV, w_notV, w_if, w_cons, w_nil, w_tup, w_lst, w_call, w_cB, w_eq, w_ne, w_isN, w_notN, w_chain, w_sl, w_part, w_noPart, w_forL, w_for1, w_for2, w_K, w_for3, w_isnotB, w_raise, w_try, w_cut, w_KX,  exists_const, false_or, or_false, exists_false, w_s1, w_s2, w_s3, w_s4, w_s5, L2.start, List.map_cons, List.map_nil, List.length_cons, List.length_nil, List.replicate, List.replicate_zero, List.replicate_succ, Nat.reduceAdd, Nat.reduceSub, Nat.reduceLeDiff, List.cons_append, List.nil_append, List.append_nil, List.set_cons_zero, List.set_cons_succ, List.getElem?_cons_zero, List.getElem?_cons_succ, Option.some.injEq, V.int.injEq, V.bl.injEq, V.ref.injEq, V.str.injEq, V.ty.injEq, List.cons.injEq, and_true, true_and, exists_eq_left, exists_eq_left', exists_and_left, exists_eq, exists_eq', and_self, decide_eq_true_eq, Bool.not_eq_true', decide_eq_false_iff_not, Bool.true_eq_false, Bool.false_eq_true, if_true, if_false, ite_true, ite_false, false_and, and_false, and_assoc, reduceCtorEq]
    exact ⟨by decide, q⟩
  · by_cases hy : betwV y 0 1439 = true
    · refine .inl ⟨hy, ?_⟩
      try simp only [w_seq, w_next, w_ifS, w_ret, w_retN, w_drop, w_asg, w_gName, w_gSub, w_var, w_c, w_op, w_un, w_rU, w_rI0, w_rI, w_test, w_b, w_and, w_or, w_not, w_andV, w_orV, w_notV, w_if, w_cons, w_nil, w_tup, w_lst, w_call, w_cB, w_eq, w_ne, w_isN, w_notN, w_chain, w_sl, w_part, w_noPart, w_forL, w_for1, w_for2, w_K, w_for3, w_isnotB, w_raise, w_try, w_cut, w_KX,  exists_const, false_or, or_false, exists_false, w_s1, w_s2, w_s3, w_s4, w_s5, L2.start, List.map_cons, List.map_nil, List.length_cons, List.length_nil, List.replicate, List.replicate_zero, List.replicate_succ, Nat.reduceAdd, Nat.reduceSub, Nat.reduceLeDiff, List.cons_append, List.nil_append, List.append_nil, List.set_cons_zero, List.set_cons_succ, List.getElem?_cons_zero, List.getElem?_cons_succ, Option.some.injEq, V.int.injEq, V.bl.injEq, V.ref.injEq, V.str.injEq, V.ty.injEq, List.cons.injEq, and_true, true_and, exists_eq_left, exists_eq_left', exists_and_left, exists_eq, exists_eq', and_self, decide_eq_true_eq, Bool.not_eq_true', decide_eq_false_iff_not, Bool.true_eq_false, Bool.false_eq_true, if_true, if_false, ite_true, ite_false, false_and, and_false, and_assoc, reduceCtorEq]
      refine ⟨_, rfl, ox, .inr ⟨?_, q⟩⟩
      rcases hb with hb | hb
      · rw [hy] at hb; cases hb
      · exact hb
    · exact .inr ⟨Bool.eq_false_iff.mpr hy, q⟩

end
end Bw

set_option Elab.async false
set_option linter.all false
set_option maxRecDepth 100000
set_option maxHeartbeats 8000000
namespace Bw
open PySem L2
section
variable {P : Program} {w : World} {K : PySem.W.Frag} {mg : Str → Option Value} {base : Heap} {f C CB : Addr} {fd : FuncData} {t0 t1 : Tok} {aNoHappening aNoFit aNoWish aNoRoad aNoTime aNoRow aBackward aNoNumber aFallen aNoBook aNoText : Addr}
theorem isiE_at {X : Cx} {K : PySem.W.Frag} {C : Addr} (hK : X.K = K) (F : ExcK K C) : CallR X (.builtin "isinstance") (rIsiE K C) := by
  subst hK
  exact call_isiE F
theorem isiT_at {X : Cx} {K : PySem.W.Frag} {C : Addr} (hK : X.K = K) (F : ExcK K C) : CallR X (.builtin "isinstance") (rIsiT K C) := by
  subst hK
  exact call_isiT F
theorem ok_law_asked (B : Bt K mg C CB t0 t1 aNoHappening aNoFit aNoWish aNoRoad aNoTime aNoRow aBackward aNoNumber aFallen aNoBook aNoText) (C_next_day : CalX P w K mg base "next_day" ["minute", "zone", "moment"] 5 (sp_next_day C)) (C_shown : CalX P w K mg base "shown" ["moment", "zone"] 4 (sp_shown C)) (C_is_quiet : CalX P w K mg base "is_quiet" ["quiet", "zone", "moment"] 6 (sp_is_quiet C)) (C_loud_from : CalX P w K mg base "loud_from" ["quiet", "zone", "moment"] 7 (sp_loud_from C)) (C_quiet_count : CalX P w K mg base "quiet_count" ["quiet", "zone", "one", "other"] 6 (sp_quiet_count C)) (C_next_hour : CalX P w K mg base "next_hour" ["minute", "zone", "moment"] 4 (sp_next_hour C)) (F : Fun K "_law_asked" "_law_asked" s_law_asked f fd) : FnOk P w K mg base (CXF P w) 8 f fd ["_law_way", "_law_zone", "_law_quiet_here", "_law_hour", "_law_day", "_law_moment"] ((sp_law_asked C)) := by
  refine Fun.okX F sc_law_asked (fun vs H Q E h => ?_) (fun cdv A outer s H vs Q E hr h => ?_)
  · obtain ⟨a, m, zv, qv, hv, dv, rfl, _⟩ := h
    rfl
  obtain ⟨a, m, zv, qv, hv, dv, rfl, o, h⟩ := h
  refine ⟨_, (pss_cons (ps_if (pt_cmpR op_lt (pv 0) pe_int (nomark _)) (pss_one (ps_ret (pe_calX C_shown (hr.mono (by decide)) rfl (pa_cons (pv 5) (pa_cons (pv 1) pa_nil))))) pss_nil) (pss_cons (ps_if (pt_cmpR op_lt (pv 0) pe_int (nomark _)) (pss_one (ps_ret (pe_calX C_is_quiet (hr.mono (by decide)) rfl (pa_cons (pv 2) (pa_cons (pv 1) (pa_cons (pv 5) pa_nil)))))) pss_nil) (pss_cons (ps_if (pt_cmpR op_lt (pv 0) pe_int (nomark _)) (pss_one (ps_ret (pe_calX C_loud_from (hr.mono (by decide)) rfl (pa_cons (pv 2) (pa_cons (pv 1) (pa_cons (pv 5) pa_nil)))))) pss_nil) (pss_cons (ps_if (pt_cmpR op_lt (pv 0) pe_int (nomark _)) (pss_one (ps_ret (pe_calX C_quiet_count (hr.mono (by decide)) rfl (pa_cons (pv 2) (pa_cons (pv 1) (pa_cons (pv 5) (pa_cons (pe_op op_sub (pe_op op_add (pv 5) (pv 4)) pe_int) pa_nil))))))) pss_nil) (pss_cons (ps_if (pt_cmpR op_lt (pv 0) pe_int (nomark _)) (pss_one (ps_ret (pe_calX C_next_hour (hr.mono (by decide)) rfl (pa_cons (pv 3) (pa_cons (pv 1) (pa_cons (pv 5) pa_nil)))))) pss_nil) (pss_one (ps_ret (pe_calX C_next_day (hr.mono (by decide)) rfl (pa_cons (pv 4) (pa_cons (pv 1) (pa_cons (pv 5) pa_nil))))))))))), ?_⟩
  have hz := o.1
  have hq := o.2.1
  have he := o.2.2.1
  have hh := o.2.2.2.1
  have hd := o.2.2.2.2.1
  have hdi := o.2.2.2.2.2
  try simp only [w_seq, w_next, w_ifS, w_ret, w_retN, w_drop, w_asg, w_gName, w_gSub, w_var, w_c, w_op, w_un, w_rU, w_rI0, w_rI, w_test, w_b, w_and, w_or, w_not, w_andV, w_orV, w_notV, w_if, w_cons, w_nil, w_tup, w_lst, w_call, w_cB, w_eq, w_ne, w_isN, w_notN, w_chain, w_sl, w_part, w_noPart, w_forL, w_for1, w_for2, w_K, w_for3, w_isnotB, w_raise, w_try, w_cut, w_KX,  exists_const, false_or, or_false, exists_false, w_s1, w_s2, w_s3, w_s4, w_s5, L2.start, List.map_cons, List.map_nil, List.length_cons, List.length_nil, List.replicate, List.replicate_zero, List.replicate_succ, Nat.reduceAdd, Nat.reduceSub, Nat.reduceLeDiff, List.cons_append, List.nil_append, List.append_nil, List.set_cons_zero, List.set_cons_succ, List.getElem?_cons_zero, List.getElem?_cons_succ, Option.some.injEq, V.int.injEq, V.bl.injEq, V.ref.injEq, V.str.injEq, V.ty.injEq, List.cons.injEq, and_true, true_and, exists_eq_left, exists_eq_left', exists_and_left, exists_eq, exists_eq', and_self, decide_eq_true_eq, Bool.not_eq_true', decide_eq_false_iff_not, Bool.true_eq_false, Bool.false_eq_true, if_true, if_false, ite_true, ite_false, false_and, and_false, and_assoc, reduceCtorEq]
  by_cases h2 : a < 2
  · rw [if_pos h2]
    rcases h with ⟨z, qo, hr', d, G, q⟩ | ⟨b, e⟩
    · obtain rfl := G.zv
      refine ⟨m, _, rfl, hz, .inl ⟨z, rfl, G.z0, G.z1, fun p hp => q _ _ (same_new hp _) ?_⟩⟩
      unfold val5
      rw [if_pos h2]
      exact ⟨p, rfl, upd_same⟩
    · refine ⟨m, _, rfl, hz, .inr ⟨?_, e⟩⟩
      rcases b with b | b | b | b <;> first | exact b.2 | (exfalso; omega)
  rw [if_neg h2]
  try simp only [w_seq, w_next, w_ifS, w_ret, w_retN, w_drop, w_asg, w_gName, w_gSub, w_var, w_c, w_op, w_un, w_rU, w_rI0, w_rI, w_test, w_b, w_and, w_or, w_not, w_andV, w_orV, w_notV, w_if, w_cons, w_nil, w_tup, w_lst, w_call, w_cB, w_eq, w_ne, w_isN, w_notN, w_chain, w_sl, w_part, w_noPart, w_forL, w_for1, w_for2, w_K, w_for3, w_isnotB, w_raise, w_try, w_cut, w_KX,  exists_const, false_or, or_false, exists_false, w_s1, w_s2, w_s3, w_s4, w_s5, L2.start, List.map_cons, List.map_nil, List.length_cons, List.length_nil, List.replicate, List.replicate_zero, List.replicate_succ, Nat.reduceAdd, Nat.reduceSub, Nat.reduceLeDiff, List.cons_append, List.nil_append, List.append_nil, List.set_cons_zero, List.set_cons_succ, List.getElem?_cons_zero, List.getElem?_cons_succ, Option.some.injEq, V.int.injEq, V.bl.injEq, V.ref.injEq, V.str.injEq, V.ty.injEq, List.cons.injEq, and_true, true_and, exists_eq_left, exists_eq_left', exists_and_left, exists_eq, exists_eq', and_self, decide_eq_true_eq, Bool.not_eq_true', decide_eq_false_iff_not, Bool.true_eq_false, Bool.false_eq_true, if_true, if_false, ite_true, ite_false, false_and, and_false, and_assoc, reduceCtorEq]
  by_cases h4 : a < 4
  · rw [if_pos h4]
    rcases h with ⟨z, qo, hr', d, G, q⟩ | ⟨b, e⟩
    · obtain rfl := G.zv
      refine ⟨_, _, m, rfl, hq, he, hz, .inl ⟨z, rfl, G.z0, G.z1, ?_⟩⟩
      have q' := q
      unfold val5 at q'
      rw [if_neg h2, if_pos h4] at q'
      rcases G.q with ⟨rfl, rfl⟩ | ⟨p, s, e, rfl, k, rfl⟩
      · exact .inl ⟨rfl, fun H' S => q' _ _ S rfl⟩
      · exact .inr ⟨p, s, e, rfl, k, fun H' S => q' _ _ S rfl⟩
    · refine ⟨_, _, m, rfl, hq, he, hz, .inr ⟨?_, e⟩⟩
      rcases b with b | b | b | b <;> first | exact b.2.2 | (exfalso; omega)
  rw [if_neg h4]
  try simp only [w_seq, w_next, w_ifS, w_ret, w_retN, w_drop, w_asg, w_gName, w_gSub, w_var, w_c, w_op, w_un, w_rU, w_rI0, w_rI, w_test, w_b, w_and, w_or, w_not, w_andV, w_orV, w_notV, w_if, w_cons, w_nil, w_tup, w_lst, w_call, w_cB, w_eq, w_ne, w_isN, w_notN, w_chain, w_sl, w_part, w_noPart, w_forL, w_for1, w_for2, w_K, w_for3, w_isnotB, w_raise, w_try, w_cut, w_KX,  exists_const, false_or, or_false, exists_false, w_s1, w_s2, w_s3, w_s4, w_s5, L2.start, List.map_cons, List.map_nil, List.length_cons, List.length_nil, List.replicate, List.replicate_zero, List.replicate_succ, Nat.reduceAdd, Nat.reduceSub, Nat.reduceLeDiff, List.cons_append, List.nil_append, List.append_nil, List.set_cons_zero, List.set_cons_succ, List.getElem?_cons_zero, List.getElem?_cons_succ, Option.some.injEq, V.int.injEq, V.bl.injEq, V.ref.injEq, V.str.injEq, V.ty.injEq, List.cons.injEq, and_true, true_and, exists_eq_left, exists_eq_left', exists_and_left, exists_eq, exists_eq', and_self, decide_eq_true_eq, Bool.not_eq_true', decide_eq_false_iff_not, Bool.true_eq_false, Bool.false_eq_true, if_true, if_false, ite_true, ite_false, false_and, and_false, and_assoc, reduceCtorEq]
  by_cases h6 : a < 6
  · rw [if_pos h6]
    rcases h with ⟨z, qo, hr', d, G, q⟩ | ⟨b, e⟩
    · obtain rfl := G.zv
      refine ⟨_, _, m, rfl, hq, he, hz, .inl ⟨z, rfl, G.z0, G.z1, ?_⟩⟩
      have q' := q
      unfold val5 at q'
      rw [if_neg h2, if_neg h4, if_pos h6] at q'
      rcases G.q with ⟨rfl, rfl⟩ | ⟨p, s, e, rfl, k, rfl⟩
      · exact .inl ⟨rfl, fun H' S => q' _ _ S rfl⟩
      · exact .inr ⟨p, s, e, rfl, k, fun H' S => q' _ _ S rfl⟩
    · refine ⟨_, _, m, rfl, hq, he, hz, .inr ⟨?_, e⟩⟩
      rcases b with b | b | b | b <;> first | exact b.2.2 | (exfalso; omega)
  rw [if_neg h6]
  try simp only [w_seq, w_next, w_ifS, w_ret, w_retN, w_drop, w_asg, w_gName, w_gSub, w_var, w_c, w_op, w_un, w_rU, w_rI0, w_rI, w_test, w_b, w_and, w_or, w_not, w_andV, w_orV, w_notV, w_if, w_cons, w_nil, w_tup, w_lst, w_call, w_cB, w_eq, w_ne, w_isN, w_notN, w_chain, w_sl, w_part, w_noPart, w_forL, w_for1, w_for2, w_K, w_for3, w_isnotB, w_raise, w_try, w_cut, w_KX,  exists_const, false_or, or_false, exists_false, w_s1, w_s2, w_s3, w_s4, w_s5, L2.start, List.map_cons, List.map_nil, List.length_cons, List.length_nil, List.replicate, List.replicate_zero, List.replicate_succ, Nat.reduceAdd, Nat.reduceSub, Nat.reduceLeDiff, List.cons_append, List.nil_append, List.append_nil, List.set_cons_zero, List.set_cons_succ, List.getElem?_cons_zero, List.getElem?_cons_succ, Option.some.injEq, V.int.injEq, V.bl.injEq, V.ref.injEq, V.str.injEq, V.ty.injEq, List.cons.injEq, and_true, true_and, exists_eq_left, exists_eq_left', exists_and_left, exists_eq, exists_eq', and_self, decide_eq_true_eq, Bool.not_eq_true', decide_eq_false_iff_not, Bool.true_eq_false, Bool.false_eq_true, if_true, if_false, ite_true, ite_false, false_and, and_false, and_assoc, reduceCtorEq]
  by_cases h8 : a < 8
  · rw [if_pos h8]
    obtain ⟨d0, rfl⟩ : ∃ d, dv = .int d := by
      rcases hdi with hdi | hdi
      · exfalso; omega
      · exact hdi
    try simp only [w_seq, w_next, w_ifS, w_ret, w_retN, w_drop, w_asg, w_gName, w_gSub, w_var, w_c, w_op, w_un, w_rU, w_rI0, w_rI, w_test, w_b, w_and, w_or, w_not, w_andV, w_orV, w_notV, w_if, w_cons, w_nil, w_tup, w_lst, w_call, w_cB, w_eq, w_ne, w_isN, w_notN, w_chain, w_sl, w_part, w_noPart, w_forL, w_for1, w_for2, w_K, w_for3, w_isnotB, w_raise, w_try, w_cut, w_KX,  exists_const, false_or, or_false, exists_false, w_s1, w_s2, w_s3, w_s4, w_s5, L2.start, List.map_cons, List.map_nil, List.length_cons, List.length_nil, List.replicate, List.replicate_zero, List.replicate_succ, Nat.reduceAdd, Nat.reduceSub, Nat.reduceLeDiff, List.cons_append, List.nil_append, List.append_nil, List.set_cons_zero, List.set_cons_succ, List.getElem?_cons_zero, List.getElem?_cons_succ, Option.some.injEq, V.int.injEq, V.bl.injEq, V.ref.injEq, V.str.injEq, V.ty.injEq, List.cons.injEq, and_true, true_and, exists_eq_left, exists_eq_left', exists_and_left, exists_eq, exists_eq', and_self, decide_eq_true_eq, Bool.not_eq_true', decide_eq_false_iff_not, Bool.true_eq_false, Bool.false_eq_true, if_true, if_false, ite_true, ite_false, false_and, and_false, and_assoc, reduceCtorEq]
    rcases h with ⟨z, qo, hr', d, G, q⟩ | ⟨b, e⟩
    · obtain rfl := G.zv
      have ed : d0 = d := V.int.inj G.dv
      subst ed
      refine ⟨_, _, m, _, rfl, hq, he, hz, .inl ⟨z, rfl, G.z0, G.z1, ?_⟩⟩
      have q' := q
      unfold val5 at q'
      rw [if_neg h2, if_neg h4, if_neg h6, if_pos h8] at q'
      rcases G.q with ⟨rfl, rfl⟩ | ⟨p, s, e, rfl, k, rfl⟩
      · exact .inl ⟨rfl, q' _ _ (Same.refl _) rfl⟩
      · exact .inr ⟨p, s, e, rfl, k, q' _ _ (Same.refl _) rfl⟩
    · refine ⟨_, _, m, _, rfl, hq, he, hz, .inr ⟨?_, e⟩⟩
      rcases b with b | b | b | b <;> first | exact b.2.2 | (exfalso; omega)
  rw [if_neg h8]
  try simp only [w_seq, w_next, w_ifS, w_ret, w_retN, w_drop, w_asg, w_gName, w_gSub, w_var, w_c, w_op, w_un, w_rU, w_rI0, w_rI, w_test, w_b, w_and, w_or, w_not, w_andV, w_orV, w_notV, w_if, w_cons, w_nil, w_tup, w_lst, w_call, w_cB, w_eq, w_ne, w_isN, w_notN, w_chain, w_sl, w_part, w_noPart, w_forL, w_for1, w_for2, w_K, w_for3, w_isnotB, w_raise, w_try, w_cut, w_KX,  exists_const, false_or, or_false, exists_false, w_s1, w_s2, w_s3, w_s4, w_s5, L2.start, List.map_cons, List.map_nil, List.length_cons, List.length_nil, List.replicate, List.replicate_zero, List.replicate_succ, Nat.reduceAdd, Nat.reduceSub, Nat.reduceLeDiff, List.cons_append, List.nil_append, List.append_nil, List.set_cons_zero, List.set_cons_succ, List.getElem?_cons_zero, List.getElem?_cons_succ, Option.some.injEq, V.int.injEq, V.bl.injEq, V.ref.injEq, V.str.injEq, V.ty.injEq, List.cons.injEq, and_true, true_and, exists_eq_left, exists_eq_left', exists_and_left, exists_eq, exists_eq', and_self, decide_eq_true_eq, Bool.not_eq_true', decide_eq_false_iff_not, Bool.true_eq_false, Bool.false_eq_true, if_true, if_false, ite_true, ite_false, false_and, and_false, and_assoc, reduceCtorEq]
  by_cases h10 : a < 10
  · rw [if_pos h10]
    rcases h with ⟨z, qo, hr', d, G, q⟩ | ⟨b, e⟩
    · obtain rfl := G.zv
      obtain rfl := G.hv
      refine ⟨_, _, m, rfl, hh, hz, .inl ⟨hr', z, rfl, G.h0, G.h1, rfl, G.z0, G.z1, ?_⟩⟩
      have q' := q
      unfold val5 at q'
      rw [if_neg h2, if_neg h4, if_neg h6, if_neg h8, if_pos h10] at q'
      exact q' _ _ (Same.refl _) rfl
    · refine ⟨_, _, m, rfl, hh, hz, .inr ⟨?_, e⟩⟩
      rcases b with b | b | b | b <;> first | exact b.2.2 | (exfalso; omega)
  rw [if_neg h10]
  try simp only [w_seq, w_next, w_ifS, w_ret, w_retN, w_drop, w_asg, w_gName, w_gSub, w_var, w_c, w_op, w_un, w_rU, w_rI0, w_rI, w_test, w_b, w_and, w_or, w_not, w_andV, w_orV, w_notV, w_if, w_cons, w_nil, w_tup, w_lst, w_call, w_cB, w_eq, w_ne, w_isN, w_notN, w_chain, w_sl, w_part, w_noPart, w_forL, w_for1, w_for2, w_K, w_for3, w_isnotB, w_raise, w_try, w_cut, w_KX,  exists_const, false_or, or_false, exists_false, w_s1, w_s2, w_s3, w_s4, w_s5, L2.start, List.map_cons, List.map_nil, List.length_cons, List.length_nil, List.replicate, List.replicate_zero, List.replicate_succ, Nat.reduceAdd, Nat.reduceSub, Nat.reduceLeDiff, List.cons_append, List.nil_append, List.append_nil, List.set_cons_zero, List.set_cons_succ, List.getElem?_cons_zero, List.getElem?_cons_succ, Option.some.injEq, V.int.injEq, V.bl.injEq, V.ref.injEq, V.str.injEq, V.ty.injEq, List.cons.injEq, and_true, true_and, exists_eq_left, exists_eq_left', exists_and_left, exists_eq, exists_eq', and_self, decide_eq_true_eq, Bool.not_eq_true', decide_eq_false_iff_not, Bool.true_eq_false, Bool.false_eq_true, if_true, if_false, ite_true, ite_false, false_and, and_false, and_assoc, reduceCtorEq]
  rcases h with ⟨z, qo, hr', d, G, q⟩ | ⟨b, e⟩
  · obtain rfl := G.zv
    obtain rfl := G.dv
    refine ⟨_, _, m, rfl, hd, hz, .inl ⟨d, z, rfl, G.d0, G.d1, rfl, G.z0, G.z1, ?_⟩⟩
    have q' := q
    unfold val5 at q'
    rw [if_neg h2, if_neg h4, if_neg h6, if_neg h8, if_neg h10] at q'
    exact q' _ _ (Same.refl _) rfl
  · refine ⟨_, _, m, rfl, hd, hz, .inr ⟨?_, e⟩⟩
    rcases b with b | b | b | b <;> first | exact b.2 | (exfalso; omega)

theorem ok_law_refused (B : Bt K mg C CB t0 t1 aNoHappening aNoFit aNoWish aNoRoad aNoTime aNoRow aBackward aNoNumber aFallen aNoBook aNoText) (C_law_asked : CalX P w K mg base "_law_asked" ["_law_way", "_law_zone", "_law_quiet_here", "_law_hour", "_law_day", "_law_moment"] 8 (sp_law_asked C)) (F : Fun K "_law_refused" "_law_refused" s_law_refused f fd) : FnOk P w K mg base CX0 9 f fd ["_law_way", "_law_zone", "_law_quiet_here", "_law_hour", "_law_day", "_law_moment"] ((sp_law_refused C)) := by
  refine F.ok sc_law_refused (fun vs H Q E h => ?_) (fun cdv A outer s H vs Q E hr h => ?_)
  · obtain ⟨a, m, zv, qv, hv, dv, rfl, _⟩ := h
    rfl
  obtain ⟨a, m, zv, qv, hv, dv, rfl, o, b, q⟩ := h
  refine ⟨_, (pss_cons (ps_set (i := 6) sc_law_refused.nd rfl (Or.inl rfl) pe_bl) (pss_cons (ps_tryC (i := 7) rfl rfl (fun _ _ z => z) C_law_asked (hr.mono (by decide)) rfl (pa_cons (pv 0) (pa_cons (pv 1) (pa_cons (pv 2) (pa_cons (pv 3) (pa_cons (pv 4) (pa_cons (pv 5) pa_nil)))))) rfl B.BellError sc_law_refused.nd rfl rfl (fun v => (pss_cons (ps_set (i := 8) sc_law_refused.nd rfl (Or.inl rfl) (pe_callB (isiT_at (K := K) (C := C) rfl B.excK) rfl B.isinstance PyProof.Rows.boot_isinstance (pa_cons (pv 7) (pa_cons (pe_tup (pa_cons (pe_glob (v := .ref _) rfl B.Backward rfl) (pa_cons (pe_glob (v := .ref _) rfl B.Fallen rfl) (pa_cons (pe_glob (v := .ref _) rfl B.NoBook rfl) (pa_cons (pe_glob (v := .ref _) rfl B.NoFit rfl) (pa_cons (pe_glob (v := .ref _) rfl B.NoHappening rfl) (pa_cons (pe_glob (v := .ref _) rfl B.NoNumber rfl) (pa_cons (pe_glob (v := .ref _) rfl B.NoRoad rfl) (pa_cons (pe_glob (v := .ref _) rfl B.NoRow rfl) pa_nil))))))))) pa_nil)))) (pss_cons (ps_set (i := 8) sc_law_refused.nd rfl (Or.inl rfl) (pe_or (pv 8) (pe_one (pe_callB (isiT_at (K := K) (C := C) rfl B.excK) rfl B.isinstance PyProof.Rows.boot_isinstance (pa_cons (pv 7) (pa_cons (pe_tup (pa_cons (pe_glob (v := .ref _) rfl B.NoText rfl) (pa_cons (pe_glob (v := .ref _) rfl B.NoTime rfl) (pa_cons (pe_glob (v := .ref _) rfl B.NoWish rfl) pa_nil)))) pa_nil)))))) (pss_one (ps_set (i := 6) sc_law_refused.nd rfl (Or.inl rfl) (pe_and (pe_callB (isiE_at (K := K) (C := C) rfl B.excK) rfl B.isinstance PyProof.Rows.boot_isinstance (pa_cons (pv 7) (pa_cons (pe_glob (v := .ref _) rfl B.NoClock rfl) pa_nil))) (pe_and (pe_callB (isiE_at (K := K) (C := C) rfl B.excK) rfl B.isinstance PyProof.Rows.boot_isinstance (pa_cons (pv 7) (pa_cons (pe_bltn (v := .ty "ValueError") rfl B.ValueError boot_ValueError rfl) pa_nil))) (pe_one (pe_not (pv 8))))))))))) (pss_one (ps_ret (pv 6))))), ?_⟩
  try simp only [w_seq, w_next, w_ifS, w_ret, w_retN, w_drop, w_asg, w_gName, w_gSub, w_var, w_c, w_op, w_un, w_rU, w_rI0, w_rI, w_test, w_b, w_and, w_or, w_not, w_andV, w_orV, w_notV, w_if, w_cons, w_nil, w_tup, w_lst, w_call, w_cB, w_eq, w_ne, w_isN, w_notN, w_chain, w_sl, w_part, w_noPart, w_forL, w_for1, w_for2, w_K, w_for3, w_isnotB, w_raise, w_try, w_cut, w_KX,  exists_const, false_or, or_false, exists_false, w_s1, w_s2, w_s3, w_s4, w_s5, L2.start, List.map_cons, List.map_nil, List.length_cons, List.length_nil, List.replicate, List.replicate_zero, List.replicate_succ, Nat.reduceAdd, Nat.reduceSub, Nat.reduceLeDiff, List.cons_append, List.nil_append, List.append_nil, List.set_cons_zero, List.set_cons_succ, List.getElem?_cons_zero, List.getElem?_cons_succ, Option.some.injEq, V.int.injEq, V.bl.injEq, V.ref.injEq, V.str.injEq, V.ty.injEq, List.cons.injEq, and_true, true_and, exists_eq_left, exists_eq_left', exists_and_left, exists_eq, exists_eq', and_self, decide_eq_true_eq, Bool.not_eq_true', decide_eq_false_iff_not, Bool.true_eq_false, Bool.false_eq_true, if_true, if_false, ite_true, ite_false, false_and, and_false, and_assoc, reduceCtorEq]
  refine ⟨a, m, _, _, _, _, rfl, o, .inr ⟨b, B.exm, fun x hx => ?_⟩⟩
  have S1 := same_new hx (hoExc x (.ref C))
  have e1 : upd H x (hoExc x (.ref C)) x = some (hoExc x (.ref C)) := upd_same
  generalize upd H x (hoExc x (.ref C)) = H1 at *
  try simp only [w_seq, w_next, w_ifS, w_ret, w_retN, w_drop, w_asg, w_gName, w_gSub, w_var, w_c, w_op, w_un, w_rU, w_rI0, w_rI, w_test, w_b, w_and, w_or, w_not, w_andV, w_orV, w_notV, w_if, w_cons, w_nil, w_tup, w_lst, w_call, w_cB, w_eq, w_ne, w_isN, w_notN, w_chain, w_sl, w_part, w_noPart, w_forL, w_for1, w_for2, w_K, w_for3, w_isnotB, w_raise, w_try, w_cut, w_KX,  exists_const, false_or, or_false, exists_false, w_s1, w_s2, w_s3, w_s4, w_s5, L2.start, List.map_cons, List.map_nil, List.length_cons, List.length_nil, List.replicate, List.replicate_zero, List.replicate_succ, Nat.reduceAdd, Nat.reduceSub, Nat.reduceLeDiff, List.cons_append, List.nil_append, List.append_nil, List.set_cons_zero, List.set_cons_succ, List.getElem?_cons_zero, List.getElem?_cons_succ, Option.some.injEq, V.int.injEq, V.bl.injEq, V.ref.injEq, V.str.injEq, V.ty.injEq, List.cons.injEq, and_true, true_and, exists_eq_left, exists_eq_left', exists_and_left, exists_eq, exists_eq', and_self, decide_eq_true_eq, Bool.not_eq_true', decide_eq_false_iff_not, Bool.true_eq_false, Bool.false_eq_true, if_true, if_false, ite_true, ite_false, false_and, and_false, and_assoc, reduceCtorEq]
  refine ⟨sz8 (by decide), fun t1 ht1 => ?_⟩
  have S2 := same_new ht1 (.tup [.ref aBackward, .ref aFallen, .ref aNoBook, .ref aNoFit, .ref aNoHappening, .ref aNoNumber, .ref aNoRoad, .ref aNoRow])
  refine ⟨x, t1, [aBackward, aFallen, aNoBook, aNoFit, aNoHappening, aNoNumber, aNoRoad, aNoRow], false, rfl, S2 _ _ e1, upd_same, B.any1, ?_⟩
  have e2 := S2 _ _ e1
  generalize upd H1 t1 (.tup [.ref aBackward, .ref aFallen, .ref aNoBook, .ref aNoFit, .ref aNoHappening, .ref aNoNumber, .ref aNoRoad, .ref aNoRow]) = H2 at *
  try simp only [w_seq, w_next, w_ifS, w_ret, w_retN, w_drop, w_asg, w_gName, w_gSub, w_var, w_c, w_op, w_un, w_rU, w_rI0, w_rI, w_test, w_b, w_and, w_or, w_not, w_andV, w_orV, w_notV, w_if, w_cons, w_nil, w_tup, w_lst, w_call, w_cB, w_eq, w_ne, w_isN, w_notN, w_chain, w_sl, w_part, w_noPart, w_forL, w_for1, w_for2, w_K, w_for3, w_isnotB, w_raise, w_try, w_cut, w_KX,  exists_const, false_or, or_false, exists_false, w_s1, w_s2, w_s3, w_s4, w_s5, L2.start, List.map_cons, List.map_nil, List.length_cons, List.length_nil, List.replicate, List.replicate_zero, List.replicate_succ, Nat.reduceAdd, Nat.reduceSub, Nat.reduceLeDiff, List.cons_append, List.nil_append, List.append_nil, List.set_cons_zero, List.set_cons_succ, List.getElem?_cons_zero, List.getElem?_cons_succ, Option.some.injEq, V.int.injEq, V.bl.injEq, V.ref.injEq, V.str.injEq, V.ty.injEq, List.cons.injEq, and_true, true_and, exists_eq_left, exists_eq_left', exists_and_left, exists_eq, exists_eq', and_self, decide_eq_true_eq, Bool.not_eq_true', decide_eq_false_iff_not, Bool.true_eq_false, Bool.false_eq_true, if_true, if_false, ite_true, ite_false, false_and, and_false, and_assoc, reduceCtorEq]
  refine ⟨sz8 (by decide), fun t2 ht2 => ?_⟩
  have S3 := same_new ht2 (.tup [.ref aNoText, .ref aNoTime, .ref aNoWish])
  refine ⟨x, t2, [aNoText, aNoTime, aNoWish], false, rfl, S3 _ _ e2, upd_same, B.any2, ?_⟩
  have e3 := S3 _ _ e2
  generalize upd H2 t2 (.tup [.ref aNoText, .ref aNoTime, .ref aNoWish]) = H3 at *
  try simp only [w_seq, w_next, w_ifS, w_ret, w_retN, w_drop, w_asg, w_gName, w_gSub, w_var, w_c, w_op, w_un, w_rU, w_rI0, w_rI, w_test, w_b, w_and, w_or, w_not, w_andV, w_orV, w_notV, w_if, w_cons, w_nil, w_tup, w_lst, w_call, w_cB, w_eq, w_ne, w_isN, w_notN, w_chain, w_sl, w_part, w_noPart, w_forL, w_for1, w_for2, w_K, w_for3, w_isnotB, w_raise, w_try, w_cut, w_KX,  exists_const, false_or, or_false, exists_false, w_s1, w_s2, w_s3, w_s4, w_s5, L2.start, List.map_cons, List.map_nil, List.length_cons, List.length_nil, List.replicate, List.replicate_zero, List.replicate_succ, Nat.reduceAdd, Nat.reduceSub, Nat.reduceLeDiff, List.cons_append, List.nil_append, List.append_nil, List.set_cons_zero, List.set_cons_succ, List.getElem?_cons_zero, List.getElem?_cons_succ, Option.some.injEq, V.int.injEq, V.bl.injEq, V.ref.injEq, V.str.injEq, V.ty.injEq, List.cons.injEq, and_true, true_and, exists_eq_left, exists_eq_left', exists_and_left, exists_eq, exists_eq', and_self, decide_eq_true_eq, Bool.not_eq_true', decide_eq_false_iff_not, Bool.true_eq_false, Bool.false_eq_true, if_true, if_false, ite_true, ite_false, false_and, and_false, and_assoc, reduceCtorEq]
  refine ⟨x, _, _, true, rfl, rfl, e3, B.isC, ?_⟩
  try simp only [w_seq, w_next, w_ifS, w_ret, w_retN, w_drop, w_asg, w_gName, w_gSub, w_var, w_c, w_op, w_un, w_rU, w_rI0, w_rI, w_test, w_b, w_and, w_or, w_not, w_andV, w_orV, w_notV, w_if, w_cons, w_nil, w_tup, w_lst, w_call, w_cB, w_eq, w_ne, w_isN, w_notN, w_chain, w_sl, w_part, w_noPart, w_forL, w_for1, w_for2, w_K, w_for3, w_isnotB, w_raise, w_try, w_cut, w_KX,  exists_const, false_or, or_false, exists_false, w_s1, w_s2, w_s3, w_s4, w_s5, L2.start, List.map_cons, List.map_nil, List.length_cons, List.length_nil, List.replicate, List.replicate_zero, List.replicate_succ, Nat.reduceAdd, Nat.reduceSub, Nat.reduceLeDiff, List.cons_append, List.nil_append, List.append_nil, List.set_cons_zero, List.set_cons_succ, List.getElem?_cons_zero, List.getElem?_cons_succ, Option.some.injEq, V.int.injEq, V.bl.injEq, V.ref.injEq, V.str.injEq, V.ty.injEq, List.cons.injEq, and_true, true_and, exists_eq_left, exists_eq_left', exists_and_left, exists_eq, exists_eq', and_self, decide_eq_true_eq, Bool.not_eq_true', decide_eq_false_iff_not, Bool.true_eq_false, Bool.false_eq_true, if_true, if_false, ite_true, ite_false, false_and, and_false, and_assoc, reduceCtorEq]
  refine ⟨x, _, _, true, rfl, rfl, e3, B.isV, ?_⟩
  try simp only [Bool.not_false, w_seq, w_next, w_ifS, w_ret, w_retN, w_drop, w_asg, w_gName, w_gSub, w_var, w_c, w_op, w_un, w_rU, w_rI0, w_rI, w_test, w_b, w_and, w_or, w_not, w_andV, w_orV, w_notV, w_if, w_cons, w_nil, w_tup, w_lst, w_call, w_cB, w_eq, w_ne, w_isN, w_notN, w_chain, w_sl, w_part, w_noPart, w_forL, w_for1, w_for2, w_K, w_for3, w_isnotB, w_raise, w_try, w_cut, w_KX,  exists_const, false_or, or_false, exists_false, w_s1, w_s2, w_s3, w_s4, w_s5, L2.start, List.map_cons, List.map_nil, List.length_cons, List.length_nil, List.replicate, List.replicate_zero, List.replicate_succ, Nat.reduceAdd, Nat.reduceSub, Nat.reduceLeDiff, List.cons_append, List.nil_append, List.append_nil, List.set_cons_zero, List.set_cons_succ, List.getElem?_cons_zero, List.getElem?_cons_succ, Option.some.injEq, V.int.injEq, V.bl.injEq, V.ref.injEq, V.str.injEq, V.ty.injEq, List.cons.injEq, and_true, true_and, exists_eq_left, exists_eq_left', exists_and_left, exists_eq, exists_eq', and_self, decide_eq_true_eq, Bool.not_eq_true', decide_eq_false_iff_not, Bool.true_eq_false, Bool.false_eq_true, if_true, if_false, ite_true, ite_false, false_and, and_false, and_assoc, reduceCtorEq]
  exact q _ (S1.trans (S2.trans S3))

end
end Bw

set_option Elab.async false
set_option linter.all false
set_option maxRecDepth 100000
set_option maxHeartbeats 8000000
namespace Bw
open PySem L2
section
variable {P : Program} {w : World} {K : PySem.W.Frag} {mg : Str → Option Value} {base : Heap} {f C CB : Addr} {fd : FuncData} {t0 t1 : Tok} {aNoHappening aNoFit aNoWish aNoRoad aNoTime aNoRow aBackward aNoNumber aFallen aNoBook aNoText : Addr}
theorem bq_tup {H : Hp} {p : Addr} {xs : List V} (h : H p = some (.tup xs)) (ho : ∀ y ∈ xs, okV H y) : okV H (.ref p) ∧ elemsOk H (.ref p) :=
  ⟨.inr ⟨_, h⟩, _, h, fun ys e y hy => by cases e; exact ho y hy⟩
theorem bq_lst {H : Hp} {p : Addr} {xs : List V} (h : H p = some (.lst xs)) : okV H (.ref p) ∧ elemsOk H (.ref p) ∧ qhB H (.ref p) = false :=
  ⟨.inl ⟨_, h⟩, ⟨_, h, fun ys e => by cases e⟩, by simp [qhB, h]⟩
theorem qh2 {H : Hp} {p : Addr} {a b : V} (h : H p = some (.tup [a, b])) : qhB H (.ref p) = (betwV a 0 1439 && betwV b 0 1439 && !decide (a = b)) := by simp [qhB, h]
theorem ok_law_quiet (B : Bt K mg C CB t0 t1 aNoHappening aNoFit aNoWish aNoRoad aNoTime aNoRow aBackward aNoNumber aFallen aNoBook aNoText) (C_law_draw : CalX P w K mg base "_law_draw" ["_law_well_here", "_law_most"] 2 (sp_law_draw C)) (F : Fun K "_law_quiet" "_law_quiet" s_law_quiet f fd) : FnOk P w K mg base CX0 3 f fd ["_law_well_here"] ((sp_law_quiet C)) := by
  refine F.ok sc_law_quiet (fun vs H Q E h => ?_) (fun cdv A outer s H vs Q E hr h => ?_)
  · obtain ⟨wl, rfl, _⟩ := h
    rfl
  obtain ⟨wl, rfl, W, q⟩ := h
  refine ⟨_, (pss_cons (ps_set (i := 1) sc_law_quiet.nd rfl (Or.inl rfl) (pe_ix ix_list (pe_lst (pa_cons pe_int (pa_cons pe_int (pa_cons (pe_calN C_law_draw (hr.mono (by decide)) rfl (pa_cons (pv 0) (pa_cons pe_int pa_nil))) pa_nil)))) (pe_calN C_law_draw (hr.mono (by decide)) rfl (pa_cons (pv 0) (pa_cons pe_int pa_nil))) (fun _ _ => rfl))) (pss_cons (ps_set (i := 2) sc_law_quiet.nd rfl (Or.inl rfl) (pe_tup (pa_cons (pv 1) (pa_cons (pe_op op_mod (pe_op op_add (pe_op op_add (pv 1) pe_int) (pe_calN C_law_draw (hr.mono (by decide)) rfl (pa_cons (pv 0) (pa_cons pe_int pa_nil)))) pe_int) pa_nil)))) (pss_one (ps_ret (pe_ix ix_list (pe_lst (pa_cons (pv 2) (pa_cons (pv 2) (pa_cons (pv 2) (pa_cons pe_non pa_nil))))) (pe_calN C_law_draw (hr.mono (by decide)) rfl (pa_cons (pv 0) (pa_cons pe_int pa_nil))) (fun _ _ => rfl)))))), ?_⟩
  try simp only [w_seq, w_next, w_ifS, w_ret, w_retN, w_drop, w_asg, w_gName, w_gSub, w_var, w_c, w_op, w_un, w_rU, w_rI0, w_rI, w_test, w_b, w_and, w_or, w_not, w_andV, w_orV, w_notV, w_if, w_cons, w_nil, w_tup, w_lst, w_call, w_cB, w_eq, w_ne, w_isN, w_notN, w_chain, w_sl, w_part, w_noPart, w_forL, w_for1, w_for2, w_K, w_for3, w_isnotB, w_raise, w_try, w_cut, w_KX,  exists_const, false_or, or_false, exists_false, w_s1, w_s2, w_s3, w_s4, w_s5, L2.start, List.map_cons, List.map_nil, List.length_cons, List.length_nil, List.replicate, List.replicate_zero, List.replicate_succ, Nat.reduceAdd, Nat.reduceSub, Nat.reduceLeDiff, List.cons_append, List.nil_append, List.append_nil, List.set_cons_zero, List.set_cons_succ, List.getElem?_cons_zero, List.getElem?_cons_succ, Option.some.injEq, V.int.injEq, V.bl.injEq, V.ref.injEq, V.str.injEq, V.ty.injEq, List.cons.injEq, and_true, true_and, exists_eq_left, exists_eq_left', exists_and_left, exists_eq, exists_eq', and_self, decide_eq_true_eq, Bool.not_eq_true', decide_eq_false_iff_not, Bool.true_eq_false, Bool.false_eq_true, if_true, if_false, ite_true, ite_false, false_and, and_false, and_assoc, reduceCtorEq]
  refine drw W (by decide) (by decide) fun r1 H1 a1 b1 W1 B1 => ?_
  try simp only [w_seq, w_next, w_ifS, w_ret, w_retN, w_drop, w_asg, w_gName, w_gSub, w_var, w_c, w_op, w_un, w_rU, w_rI0, w_rI, w_test, w_b, w_and, w_or, w_not, w_andV, w_orV, w_notV, w_if, w_cons, w_nil, w_tup, w_lst, w_call, w_cB, w_eq, w_ne, w_isN, w_notN, w_chain, w_sl, w_part, w_noPart, w_forL, w_for1, w_for2, w_K, w_for3, w_isnotB, w_raise, w_try, w_cut, w_KX,  exists_const, false_or, or_false, exists_false, w_s1, w_s2, w_s3, w_s4, w_s5, L2.start, List.map_cons, List.map_nil, List.length_cons, List.length_nil, List.replicate, List.replicate_zero, List.replicate_succ, Nat.reduceAdd, Nat.reduceSub, Nat.reduceLeDiff, List.cons_append, List.nil_append, List.append_nil, List.set_cons_zero, List.set_cons_succ, List.getElem?_cons_zero, List.getElem?_cons_succ, Option.some.injEq, V.int.injEq, V.bl.injEq, V.ref.injEq, V.str.injEq, V.ty.injEq, List.cons.injEq, and_true, true_and, exists_eq_left, exists_eq_left', exists_and_left, exists_eq, exists_eq', and_self, decide_eq_true_eq, Bool.not_eq_true', decide_eq_false_iff_not, Bool.true_eq_false, Bool.false_eq_true, if_true, if_false, ite_true, ite_false, false_and, and_false, and_assoc, reduceCtorEq]
  refine ⟨sz8 (by decide), fun p hp => ?_⟩
  refine drw (W1.same (same_new hp _)) (by decide) (by decide) fun r2 H2 a2 b2 W2 B2 => ?_
  have e2 := B2 p _ (W1.ne hp) upd_same
  obtain ⟨st, hs, es⟩ := at_mem (ns := [0, 1439, r1]) a2 b2
  refine ixl (SqL.of e2) es ?_
  have sb : 0 ≤ st ∧ st ≤ 1439 := by simp only [List.mem_cons, List.not_mem_nil, or_false] at hs; omega
  have B12 := B1.trans ((Same.but (same_new hp _)).trans B2)
  try simp only [w_seq, w_next, w_ifS, w_ret, w_retN, w_drop, w_asg, w_gName, w_gSub, w_var, w_c, w_op, w_un, w_rU, w_rI0, w_rI, w_test, w_b, w_and, w_or, w_not, w_andV, w_orV, w_notV, w_if, w_cons, w_nil, w_tup, w_lst, w_call, w_cB, w_eq, w_ne, w_isN, w_notN, w_chain, w_sl, w_part, w_noPart, w_forL, w_for1, w_for2, w_K, w_for3, w_isnotB, w_raise, w_try, w_cut, w_KX,  exists_const, false_or, or_false, exists_false, w_s1, w_s2, w_s3, w_s4, w_s5, L2.start, List.map_cons, List.map_nil, List.length_cons, List.length_nil, List.replicate, List.replicate_zero, List.replicate_succ, Nat.reduceAdd, Nat.reduceSub, Nat.reduceLeDiff, List.cons_append, List.nil_append, List.append_nil, List.set_cons_zero, List.set_cons_succ, List.getElem?_cons_zero, List.getElem?_cons_succ, Option.some.injEq, V.int.injEq, V.bl.injEq, V.ref.injEq, V.str.injEq, V.ty.injEq, List.cons.injEq, and_true, true_and, exists_eq_left, exists_eq_left', exists_and_left, exists_eq, exists_eq', and_self, decide_eq_true_eq, Bool.not_eq_true', decide_eq_false_iff_not, Bool.true_eq_false, Bool.false_eq_true, if_true, if_false, ite_true, ite_false, false_and, and_false, and_assoc, reduceCtorEq]
  refine drw W2 (by decide) (by decide) fun r3 H3 a3 b3 W3 B3 => ?_
  try simp only [w_seq, w_next, w_ifS, w_ret, w_retN, w_drop, w_asg, w_gName, w_gSub, w_var, w_c, w_op, w_un, w_rU, w_rI0, w_rI, w_test, w_b, w_and, w_or, w_not, w_andV, w_orV, w_notV, w_if, w_cons, w_nil, w_tup, w_lst, w_call, w_cB, w_eq, w_ne, w_isN, w_notN, w_chain, w_sl, w_part, w_noPart, w_forL, w_for1, w_for2, w_K, w_for3, w_isnotB, w_raise, w_try, w_cut, w_KX,  exists_const, false_or, or_false, exists_false, w_s1, w_s2, w_s3, w_s4, w_s5, L2.start, List.map_cons, List.map_nil, List.length_cons, List.length_nil, List.replicate, List.replicate_zero, List.replicate_succ, Nat.reduceAdd, Nat.reduceSub, Nat.reduceLeDiff, List.cons_append, List.nil_append, List.append_nil, List.set_cons_zero, List.set_cons_succ, List.getElem?_cons_zero, List.getElem?_cons_succ, Option.some.injEq, V.int.injEq, V.bl.injEq, V.ref.injEq, V.str.injEq, V.ty.injEq, List.cons.injEq, and_true, true_and, exists_eq_left, exists_eq_left', exists_and_left, exists_eq, exists_eq', and_self, decide_eq_true_eq, Bool.not_eq_true', decide_eq_false_iff_not, Bool.true_eq_false, Bool.false_eq_true, if_true, if_false, ite_true, ite_false, false_and, and_false, and_assoc, reduceCtorEq]
  refine ⟨by decide, sz8 (by decide), fun pq hpq => ?_⟩
  have S4 := same_new hpq (.tup [.int st, .int ((st + 1 + r3) % 1440)])
  have e4 : upd H3 pq (.tup [.int st, .int ((st + 1 + r3) % 1440)]) pq = _ := upd_same
  have W4 := W3.same S4
  generalize upd H3 pq (.tup [.int st, .int ((st + 1 + r3) % 1440)]) = H4 at *
  try simp only [w_seq, w_next, w_ifS, w_ret, w_retN, w_drop, w_asg, w_gName, w_gSub, w_var, w_c, w_op, w_un, w_rU, w_rI0, w_rI, w_test, w_b, w_and, w_or, w_not, w_andV, w_orV, w_notV, w_if, w_cons, w_nil, w_tup, w_lst, w_call, w_cB, w_eq, w_ne, w_isN, w_notN, w_chain, w_sl, w_part, w_noPart, w_forL, w_for1, w_for2, w_K, w_for3, w_isnotB, w_raise, w_try, w_cut, w_KX,  exists_const, false_or, or_false, exists_false, w_s1, w_s2, w_s3, w_s4, w_s5, L2.start, List.map_cons, List.map_nil, List.length_cons, List.length_nil, List.replicate, List.replicate_zero, List.replicate_succ, Nat.reduceAdd, Nat.reduceSub, Nat.reduceLeDiff, List.cons_append, List.nil_append, List.append_nil, List.set_cons_zero, List.set_cons_succ, List.getElem?_cons_zero, List.getElem?_cons_succ, Option.some.injEq, V.int.injEq, V.bl.injEq, V.ref.injEq, V.str.injEq, V.ty.injEq, List.cons.injEq, and_true, true_and, exists_eq_left, exists_eq_left', exists_and_left, exists_eq, exists_eq', and_self, decide_eq_true_eq, Bool.not_eq_true', decide_eq_false_iff_not, Bool.true_eq_false, Bool.false_eq_true, if_true, if_false, ite_true, ite_false, false_and, and_false, and_assoc, reduceCtorEq]
  refine ⟨sz8 (by decide), fun pl hpl => ?_⟩
  have S5 := same_new hpl (.lst [.ref pq, .ref pq, .ref pq, .non])
  have e5 : upd H4 pl (.lst [.ref pq, .ref pq, .ref pq, .non]) pl = _ := upd_same
  have e4' := S5 _ _ e4
  have W5 := W4.same S5
  have n5 := W4.ne hpl
  generalize upd H4 pl (.lst [.ref pq, .ref pq, .ref pq, .non]) = H5 at *
  refine drw W5 (by decide) (by decide) fun r6 H6 a6 b6 W6 B6 => ?_
  have e6 := B6 pl _ n5 e5
  have k6 : QOk H6 pq st ((st + 1 + r3) % 1440) := ⟨B6 pq _ (W5.neL e4') e4', sb.1, sb.2, by omega, by omega, by omega⟩
  obtain ⟨v, hv, ev⟩ := at_memV (xs := [.ref pq, .ref pq, .ref pq, .non]) a6 b6
  refine ixl (SqL.of e6) ev ?_
  have BB : But wl H H6 := B12.trans (B3.trans (Same.but (S4.trans S5) |>.trans B6))
  simp only [List.mem_cons, List.not_mem_nil, or_false] at hv
  rcases hv with rfl | rfl | rfl | rfl
  · exact q _ _ H6 W6 BB (.inr ⟨pq, _, _, rfl, k6, rfl⟩)
  · exact q _ _ H6 W6 BB (.inr ⟨pq, _, _, rfl, k6, rfl⟩)
  · exact q _ _ H6 W6 BB (.inr ⟨pq, _, _, rfl, k6, rfl⟩)
  · exact q _ _ H6 W6 BB (.inl ⟨rfl, rfl⟩)

theorem ok_law_bad_zone (B : Bt K mg C CB t0 t1 aNoHappening aNoFit aNoWish aNoRoad aNoTime aNoRow aBackward aNoNumber aFallen aNoBook aNoText) (C_law_draw : CalX P w K mg base "_law_draw" ["_law_well_here", "_law_most"] 2 (sp_law_draw C)) (F : Fun K "_law_bad_zone" "_law_bad_zone" s_law_bad_zone f fd) : FnOk P w K mg base CX0 3 f fd ["_law_well_here"] ((sp_law_bad_zone C)) := by
  refine F.ok sc_law_bad_zone (fun vs H Q E h => ?_) (fun cdv A outer s H vs Q E hr h => ?_)
  · obtain ⟨wl, rfl, _⟩ := h
    rfl
  obtain ⟨wl, rfl, W, q⟩ := h
  refine ⟨_, (pss_cons (ps_set (i := 1) sc_law_bad_zone.nd rfl (Or.inl rfl) (pe_op op_add pe_int (pe_calN C_law_draw (hr.mono (by decide)) rfl (pa_cons (pv 0) (pa_cons (pe_op op_pow pe_int pe_int) pa_nil))))) (pss_one (ps_ret (pe_ix ix_list (pe_lst (pa_cons pe_int (pa_cons (pe_un un_neg pe_int) (pa_cons (pv 1) (pa_cons (pe_op op_sub pe_int (pv 1)) (pa_cons pe_bl (pa_cons pe_bl (pa_cons pe_non (pa_cons pe_str (pa_cons (pe_tup (pa_cons pe_int pa_nil)) (pa_cons (pe_lst (pa_cons pe_int pa_nil)) pa_nil))))))))))) (pe_calN C_law_draw (hr.mono (by decide)) rfl (pa_cons (pv 0) (pa_cons pe_int pa_nil))) (fun _ _ => rfl))))), ?_⟩
  try simp only [w_seq, w_next, w_ifS, w_ret, w_retN, w_drop, w_asg, w_gName, w_gSub, w_var, w_c, w_op, w_un, w_rU, w_rI0, w_rI, w_test, w_b, w_and, w_or, w_not, w_andV, w_orV, w_notV, w_if, w_cons, w_nil, w_tup, w_lst, w_call, w_cB, w_eq, w_ne, w_isN, w_notN, w_chain, w_sl, w_part, w_noPart, w_forL, w_for1, w_for2, w_K, w_for3, w_isnotB, w_raise, w_try, w_cut, w_KX,  exists_const, false_or, or_false, exists_false, w_s1, w_s2, w_s3, w_s4, w_s5, L2.start, List.map_cons, List.map_nil, List.length_cons, List.length_nil, List.replicate, List.replicate_zero, List.replicate_succ, Nat.reduceAdd, Nat.reduceSub, Nat.reduceLeDiff, List.cons_append, List.nil_append, List.append_nil, List.set_cons_zero, List.set_cons_succ, List.getElem?_cons_zero, List.getElem?_cons_succ, Option.some.injEq, V.int.injEq, V.bl.injEq, V.ref.injEq, V.str.injEq, V.ty.injEq, List.cons.injEq, and_true, true_and, exists_eq_left, exists_eq_left', exists_and_left, exists_eq, exists_eq', and_self, decide_eq_true_eq, Bool.not_eq_true', decide_eq_false_iff_not, Bool.true_eq_false, Bool.false_eq_true, if_true, if_false, ite_true, ite_false, false_and, and_false, and_assoc, reduceCtorEq]
  refine ⟨⟨by decide, by decide, by decide⟩, ?_⟩
  refine drw W (by decide) (by decide) fun r1 H1 a1 b1 W1 B1 => ?_
  try simp only [w_seq, w_next, w_ifS, w_ret, w_retN, w_drop, w_asg, w_gName, w_gSub, w_var, w_c, w_op, w_un, w_rU, w_rI0, w_rI, w_test, w_b, w_and, w_or, w_not, w_andV, w_orV, w_notV, w_if, w_cons, w_nil, w_tup, w_lst, w_call, w_cB, w_eq, w_ne, w_isN, w_notN, w_chain, w_sl, w_part, w_noPart, w_forL, w_for1, w_for2, w_K, w_for3, w_isnotB, w_raise, w_try, w_cut, w_KX,  exists_const, false_or, or_false, exists_false, w_s1, w_s2, w_s3, w_s4, w_s5, L2.start, List.map_cons, List.map_nil, List.length_cons, List.length_nil, List.replicate, List.replicate_zero, List.replicate_succ, Nat.reduceAdd, Nat.reduceSub, Nat.reduceLeDiff, List.cons_append, List.nil_append, List.append_nil, List.set_cons_zero, List.set_cons_succ, List.getElem?_cons_zero, List.getElem?_cons_succ, Option.some.injEq, V.int.injEq, V.bl.injEq, V.ref.injEq, V.str.injEq, V.ty.injEq, List.cons.injEq, and_true, true_and, exists_eq_left, exists_eq_left', exists_and_left, exists_eq, exists_eq', and_self, decide_eq_true_eq, Bool.not_eq_true', decide_eq_false_iff_not, Bool.true_eq_false, Bool.false_eq_true, if_true, if_false, ite_true, ite_false, false_and, and_false, and_assoc, reduceCtorEq]
  refine ⟨sz8 (by decide), fun pt hpt => ?_⟩
  have S2 := same_new hpt (.tup [.int 0])
  have e2 : upd H1 pt (.tup [.int 0]) pt = _ := upd_same
  have W2 := W1.same S2
  generalize upd H1 pt (.tup [.int 0]) = H2 at *
  refine ⟨sz8 (by decide), fun pl hpl => ?_⟩
  have S3 := same_new hpl (.lst [.int 0])
  have e3 : upd H2 pl (.lst [.int 0]) pl = _ := upd_same
  have e2' := S3 _ _ e2
  have n3 := W2.ne hpl
  have W3 := W2.same S3
  generalize upd H2 pl (.lst [.int 0]) = H3 at *
  refine ⟨sz8 (by decide), fun po hpo => ?_⟩
  have S4 := same_new hpo (.lst [.int 1440, .int (-1440), .int (1440 + r1), .int (0 - (1440 + r1)), .bl true, .bl false, .non, .str "0", .ref pt, .ref pl])
  have e4 : upd H3 po (.lst [.int 1440, .int (-1440), .int (1440 + r1), .int (0 - (1440 + r1)), .bl true, .bl false, .non, .str "0", .ref pt, .ref pl]) po = _ := upd_same
  have e2'' := S4 _ _ e2'
  have e3' := S4 _ _ e3
  have n4 := W3.ne hpo
  have W4 := W3.same S4
  generalize upd H3 po (.lst [.int 1440, .int (-1440), .int (1440 + r1), .int (0 - (1440 + r1)), .bl true, .bl false, .non, .str "0", .ref pt, .ref pl]) = H4 at *
  refine drw W4 (by decide) (by decide) fun r5 H5 a5 b5 W5 B5 => ?_
  have e5 := B5 po _ n4 e4
  have f2 := B5 pt _ (W4.neL e2'') e2''
  have f3 := B5 pl _ n3 e3'
  obtain ⟨v, hv, ev⟩ := at_memV (xs := [.int 1440, .int (-1440), .int (1440 + r1), .int (0 - (1440 + r1)), .bl true, .bl false, .non, .str "0", .ref pt, .ref pl]) a5 b5
  refine ixl (SqL.of e5) ev ?_
  have BB : But wl H H5 := B1.trans ((Same.but (S2.trans (S3.trans S4))).trans B5)
  refine q v H5 W5 BB ?_ ?_
  · simp only [List.mem_cons, List.not_mem_nil, or_false] at hv
    rcases hv with rfl | rfl | rfl | rfl | rfl | rfl | rfl | rfl | rfl | rfl
    all_goals first | trivial | exact .inr ⟨_, f2⟩ | exact .inl ⟨_, f3⟩
  · simp only [List.mem_cons, List.not_mem_nil, or_false] at hv
    rcases hv with rfl | rfl | rfl | rfl | rfl | rfl | rfl | rfl | rfl | rfl
    all_goals first | rfl | (simp only [betwV, Bool.and_eq_false_iff, decide_eq_false_iff_not]; omega)

theorem ok_law_bad_minute (B : Bt K mg C CB t0 t1 aNoHappening aNoFit aNoWish aNoRoad aNoTime aNoRow aBackward aNoNumber aFallen aNoBook aNoText) (C_law_draw : CalX P w K mg base "_law_draw" ["_law_well_here", "_law_most"] 2 (sp_law_draw C)) (F : Fun K "_law_bad_minute" "_law_bad_minute" s_law_bad_minute f fd) : FnOk P w K mg base CX0 3 f fd ["_law_well_here", "_law_many"] ((sp_law_bad_minute C)) := by
  refine F.ok sc_law_bad_minute (fun vs H Q E h => ?_) (fun cdv A outer s H vs Q E hr h => ?_)
  · obtain ⟨wl, n, rfl, _⟩ := h
    rfl
  obtain ⟨wl, n, rfl, W, n60, n1440, q⟩ := h
  refine ⟨_, (pss_cons (ps_set (i := 2) sc_law_bad_minute.nd rfl (Or.inl rfl) (pe_op op_add (pv 1) (pe_calN C_law_draw (hr.mono (by decide)) rfl (pa_cons (pv 0) (pa_cons (pe_op op_pow pe_int pe_int) pa_nil))))) (pss_one (ps_ret (pe_ix ix_list (pe_lst (pa_cons (pe_un un_neg pe_int) (pa_cons (pv 1) (pa_cons (pv 2) (pa_cons (pe_op op_sub (pe_un un_neg pe_int) (pv 2)) (pa_cons pe_bl (pa_cons pe_bl (pa_cons pe_non (pa_cons pe_str (pa_cons (pe_tup (pa_cons pe_int pa_nil)) (pa_cons (pe_lst (pa_cons pe_int pa_nil)) pa_nil))))))))))) (pe_calN C_law_draw (hr.mono (by decide)) rfl (pa_cons (pv 0) (pa_cons pe_int pa_nil))) (fun _ _ => rfl))))), ?_⟩
  try simp only [w_seq, w_next, w_ifS, w_ret, w_retN, w_drop, w_asg, w_gName, w_gSub, w_var, w_c, w_op, w_un, w_rU, w_rI0, w_rI, w_test, w_b, w_and, w_or, w_not, w_andV, w_orV, w_notV, w_if, w_cons, w_nil, w_tup, w_lst, w_call, w_cB, w_eq, w_ne, w_isN, w_notN, w_chain, w_sl, w_part, w_noPart, w_forL, w_for1, w_for2, w_K, w_for3, w_isnotB, w_raise, w_try, w_cut, w_KX,  exists_const, false_or, or_false, exists_false, w_s1, w_s2, w_s3, w_s4, w_s5, L2.start, List.map_cons, List.map_nil, List.length_cons, List.length_nil, List.replicate, List.replicate_zero, List.replicate_succ, Nat.reduceAdd, Nat.reduceSub, Nat.reduceLeDiff, List.cons_append, List.nil_append, List.append_nil, List.set_cons_zero, List.set_cons_succ, List.getElem?_cons_zero, List.getElem?_cons_succ, Option.some.injEq, V.int.injEq, V.bl.injEq, V.ref.injEq, V.str.injEq, V.ty.injEq, List.cons.injEq, and_true, true_and, exists_eq_left, exists_eq_left', exists_and_left, exists_eq, exists_eq', and_self, decide_eq_true_eq, Bool.not_eq_true', decide_eq_false_iff_not, Bool.true_eq_false, Bool.false_eq_true, if_true, if_false, ite_true, ite_false, false_and, and_false, and_assoc, reduceCtorEq]
  refine ⟨⟨by decide, by decide, by decide⟩, ?_⟩
  refine drw W (by decide) (by decide) fun r1 H1 a1 b1 W1 B1 => ?_
  try simp only [w_seq, w_next, w_ifS, w_ret, w_retN, w_drop, w_asg, w_gName, w_gSub, w_var, w_c, w_op, w_un, w_rU, w_rI0, w_rI, w_test, w_b, w_and, w_or, w_not, w_andV, w_orV, w_notV, w_if, w_cons, w_nil, w_tup, w_lst, w_call, w_cB, w_eq, w_ne, w_isN, w_notN, w_chain, w_sl, w_part, w_noPart, w_forL, w_for1, w_for2, w_K, w_for3, w_isnotB, w_raise, w_try, w_cut, w_KX,  exists_const, false_or, or_false, exists_false, w_s1, w_s2, w_s3, w_s4, w_s5, L2.start, List.map_cons, List.map_nil, List.length_cons, List.length_nil, List.replicate, List.replicate_zero, List.replicate_succ, Nat.reduceAdd, Nat.reduceSub, Nat.reduceLeDiff, List.cons_append, List.nil_append, List.append_nil, List.set_cons_zero, List.set_cons_succ, List.getElem?_cons_zero, List.getElem?_cons_succ, Option.some.injEq, V.int.injEq, V.bl.injEq, V.ref.injEq, V.str.injEq, V.ty.injEq, List.cons.injEq, and_true, true_and, exists_eq_left, exists_eq_left', exists_and_left, exists_eq, exists_eq', and_self, decide_eq_true_eq, Bool.not_eq_true', decide_eq_false_iff_not, Bool.true_eq_false, Bool.false_eq_true, if_true, if_false, ite_true, ite_false, false_and, and_false, and_assoc, reduceCtorEq]
  refine ⟨sz8 (by decide), fun pt hpt => ?_⟩
  have S2 := same_new hpt (.tup [.int 5])
  have e2 : upd H1 pt (.tup [.int 5]) pt = _ := upd_same
  have W2 := W1.same S2
  generalize upd H1 pt (.tup [.int 5]) = H2 at *
  refine ⟨sz8 (by decide), fun pl hpl => ?_⟩
  have S3 := same_new hpl (.lst [.int 5])
  have e3 : upd H2 pl (.lst [.int 5]) pl = _ := upd_same
  have e2' := S3 _ _ e2
  have n3 := W2.ne hpl
  have W3 := W2.same S3
  generalize upd H2 pl (.lst [.int 5]) = H3 at *
  refine ⟨sz8 (by decide), fun po hpo => ?_⟩
  have S4 := same_new hpo (.lst [.int (-1), .int n, .int (n + r1), .int (-1 - (n + r1)), .bl true, .bl false, .non, .str "5", .ref pt, .ref pl])
  have e4 : upd H3 po (.lst [.int (-1), .int n, .int (n + r1), .int (-1 - (n + r1)), .bl true, .bl false, .non, .str "5", .ref pt, .ref pl]) po = _ := upd_same
  have e2'' := S4 _ _ e2'
  have e3' := S4 _ _ e3
  have n4 := W3.ne hpo
  have W4 := W3.same S4
  generalize upd H3 po (.lst [.int (-1), .int n, .int (n + r1), .int (-1 - (n + r1)), .bl true, .bl false, .non, .str "5", .ref pt, .ref pl]) = H4 at *
  refine drw W4 (by decide) (by decide) fun r5 H5 a5 b5 W5 B5 => ?_
  have e5 := B5 po _ n4 e4
  have f2 := B5 pt _ (W4.neL e2'') e2''
  have f3 := B5 pl _ n3 e3'
  obtain ⟨v, hv, ev⟩ := at_memV (xs := [.int (-1), .int n, .int (n + r1), .int (-1 - (n + r1)), .bl true, .bl false, .non, .str "5", .ref pt, .ref pl]) a5 b5
  refine ixl (SqL.of e5) ev ?_
  have BB : But wl H H5 := B1.trans ((Same.but (S2.trans (S3.trans S4))).trans B5)
  refine q v H5 W5 BB ?_ ?_
  · simp only [List.mem_cons, List.not_mem_nil, or_false] at hv
    rcases hv with rfl | rfl | rfl | rfl | rfl | rfl | rfl | rfl | rfl | rfl
    all_goals first | trivial | exact .inr ⟨_, f2⟩ | exact .inl ⟨_, f3⟩
  · simp only [List.mem_cons, List.not_mem_nil, or_false] at hv
    rcases hv with rfl | rfl | rfl | rfl | rfl | rfl | rfl | rfl | rfl | rfl
    all_goals first | rfl | (simp only [betwV, Bool.and_eq_false_iff, decide_eq_false_iff_not]; omega)

theorem ok_law_bad_quiet (B : Bt K mg C CB t0 t1 aNoHappening aNoFit aNoWish aNoRoad aNoTime aNoRow aBackward aNoNumber aFallen aNoBook aNoText) (C_law_draw : CalX P w K mg base "_law_draw" ["_law_well_here", "_law_most"] 2 (sp_law_draw C)) (F : Fun K "_law_bad_quiet" "_law_bad_quiet" s_law_bad_quiet f fd) : FnOk P w K mg base CX0 3 f fd ["_law_well_here"] ((sp_law_bad_quiet C)) := by
  refine F.ok sc_law_bad_quiet (fun vs H Q E h => ?_) (fun cdv A outer s H vs Q E hr h => ?_)
  · obtain ⟨wl, rfl, _⟩ := h
    rfl
  obtain ⟨wl, rfl, W, q⟩ := h
  refine ⟨_, (pss_cons (ps_set (i := 1) sc_law_bad_quiet.nd rfl (Or.inl rfl) (pe_calN C_law_draw (hr.mono (by decide)) rfl (pa_cons (pv 0) (pa_cons pe_int pa_nil)))) (pss_cons (ps_set (i := 2) sc_law_bad_quiet.nd rfl (Or.inl rfl) (pe_ix ix_list (pe_lst (pa_cons (pe_un un_neg pe_int) (pa_cons pe_int (pa_cons pe_bl (pa_cons pe_non (pa_cons pe_str (pa_cons (pe_tup (pa_cons pe_int pa_nil)) (pa_cons (pe_op op_add pe_int (pe_calN C_law_draw (hr.mono (by decide)) rfl (pa_cons (pv 0) (pa_cons (pe_op op_pow pe_int pe_int) pa_nil)))) pa_nil)))))))) (pe_calN C_law_draw (hr.mono (by decide)) rfl (pa_cons (pv 0) (pa_cons pe_int pa_nil))) (fun _ _ => rfl))) (pss_cons (ps_set (i := 3) sc_law_bad_quiet.nd rfl (Or.inl rfl) (pe_op op_mod (pe_op op_add (pv 1) pe_int) pe_int)) (pss_cons (ps_set (i := 4) sc_law_bad_quiet.nd rfl (Or.inl rfl) (pe_lst (pa_cons (pe_tup (pa_cons (pv 1) (pa_cons (pv 2) pa_nil))) (pa_cons (pe_tup (pa_cons (pv 2) (pa_cons (pv 1) pa_nil))) (pa_cons (pe_tup (pa_cons (pv 1) (pa_cons (pv 1) pa_nil))) (pa_cons (pe_tup (pa_cons (pv 1) pa_nil)) (pa_cons (pe_tup (pa_cons (pv 1) (pa_cons (pv 3) (pa_cons pe_int pa_nil)))) (pa_cons (pe_tup pa_nil) (pa_cons (pe_lst (pa_cons (pv 1) (pa_cons (pv 3) pa_nil))) (pa_cons pe_str (pa_cons pe_str (pa_cons (pv 1) pa_nil)))))))))))) (pss_one (ps_ret (pe_ix ix_list (pe_op op_cat (pv 4) (pe_lst (pa_cons pe_bl (pa_cons pe_int pa_nil)))) (pe_calN C_law_draw (hr.mono (by decide)) rfl (pa_cons (pv 0) (pa_cons pe_int pa_nil))) (fun _ _ => rfl)))))))), ?_⟩
  try simp only [w_seq, w_next, w_ifS, w_ret, w_retN, w_drop, w_asg, w_gName, w_gSub, w_var, w_c, w_op, w_un, w_rU, w_rI0, w_rI, w_test, w_b, w_and, w_or, w_not, w_andV, w_orV, w_notV, w_if, w_cons, w_nil, w_tup, w_lst, w_call, w_cB, w_eq, w_ne, w_isN, w_notN, w_chain, w_sl, w_part, w_noPart, w_forL, w_for1, w_for2, w_K, w_for3, w_isnotB, w_raise, w_try, w_cut, w_KX,  exists_const, false_or, or_false, exists_false, w_s1, w_s2, w_s3, w_s4, w_s5, L2.start, List.map_cons, List.map_nil, List.length_cons, List.length_nil, List.replicate, List.replicate_zero, List.replicate_succ, Nat.reduceAdd, Nat.reduceSub, Nat.reduceLeDiff, List.cons_append, List.nil_append, List.append_nil, List.set_cons_zero, List.set_cons_succ, List.getElem?_cons_zero, List.getElem?_cons_succ, Option.some.injEq, V.int.injEq, V.bl.injEq, V.ref.injEq, V.str.injEq, V.ty.injEq, List.cons.injEq, and_true, true_and, exists_eq_left, exists_eq_left', exists_and_left, exists_eq, exists_eq', and_self, decide_eq_true_eq, Bool.not_eq_true', decide_eq_false_iff_not, Bool.true_eq_false, Bool.false_eq_true, if_true, if_false, ite_true, ite_false, false_and, and_false, and_assoc, reduceCtorEq]
  refine drw W (by decide) (by decide) fun gd H1 g0 g1 W1 B1 => ?_
  try simp only [w_seq, w_next, w_ifS, w_ret, w_retN, w_drop, w_asg, w_gName, w_gSub, w_var, w_c, w_op, w_un, w_rU, w_rI0, w_rI, w_test, w_b, w_and, w_or, w_not, w_andV, w_orV, w_notV, w_if, w_cons, w_nil, w_tup, w_lst, w_call, w_cB, w_eq, w_ne, w_isN, w_notN, w_chain, w_sl, w_part, w_noPart, w_forL, w_for1, w_for2, w_K, w_for3, w_isnotB, w_raise, w_try, w_cut, w_KX,  exists_const, false_or, or_false, exists_false, w_s1, w_s2, w_s3, w_s4, w_s5, L2.start, List.map_cons, List.map_nil, List.length_cons, List.length_nil, List.replicate, List.replicate_zero, List.replicate_succ, Nat.reduceAdd, Nat.reduceSub, Nat.reduceLeDiff, List.cons_append, List.nil_append, List.append_nil, List.set_cons_zero, List.set_cons_succ, List.getElem?_cons_zero, List.getElem?_cons_succ, Option.some.injEq, V.int.injEq, V.bl.injEq, V.ref.injEq, V.str.injEq, V.ty.injEq, List.cons.injEq, and_true, true_and, exists_eq_left, exists_eq_left', exists_and_left, exists_eq, exists_eq', and_self, decide_eq_true_eq, Bool.not_eq_true', decide_eq_false_iff_not, Bool.true_eq_false, Bool.false_eq_true, if_true, if_false, ite_true, ite_false, false_and, and_false, and_assoc, reduceCtorEq]
  refine ⟨sz8 (by decide), fun pt hpt => ?_⟩
  have S2 := same_new hpt (.tup [.int 5])
  have e2 : upd H1 pt (.tup [.int 5]) pt = _ := upd_same
  have W2 := W1.same S2
  generalize upd H1 pt (.tup [.int 5]) = H2 at *
  refine ⟨⟨by decide, by decide, by decide⟩, ?_⟩
  refine drw W2 (by decide) (by decide) fun r3 H3 a3 b3 W3 B3 => ?_
  have e3 := B3 pt _ (W2.neL e2) e2
  try simp only [w_seq, w_next, w_ifS, w_ret, w_retN, w_drop, w_asg, w_gName, w_gSub, w_var, w_c, w_op, w_un, w_rU, w_rI0, w_rI, w_test, w_b, w_and, w_or, w_not, w_andV, w_orV, w_notV, w_if, w_cons, w_nil, w_tup, w_lst, w_call, w_cB, w_eq, w_ne, w_isN, w_notN, w_chain, w_sl, w_part, w_noPart, w_forL, w_for1, w_for2, w_K, w_for3, w_isnotB, w_raise, w_try, w_cut, w_KX,  exists_const, false_or, or_false, exists_false, w_s1, w_s2, w_s3, w_s4, w_s5, L2.start, List.map_cons, List.map_nil, List.length_cons, List.length_nil, List.replicate, List.replicate_zero, List.replicate_succ, Nat.reduceAdd, Nat.reduceSub, Nat.reduceLeDiff, List.cons_append, List.nil_append, List.append_nil, List.set_cons_zero, List.set_cons_succ, List.getElem?_cons_zero, List.getElem?_cons_succ, Option.some.injEq, V.int.injEq, V.bl.injEq, V.ref.injEq, V.str.injEq, V.ty.injEq, List.cons.injEq, and_true, true_and, exists_eq_left, exists_eq_left', exists_and_left, exists_eq, exists_eq', and_self, decide_eq_true_eq, Bool.not_eq_true', decide_eq_false_iff_not, Bool.true_eq_false, Bool.false_eq_true, if_true, if_false, ite_true, ite_false, false_and, and_false, and_assoc, reduceCtorEq]
  refine ⟨sz8 (by decide), fun po hpo => ?_⟩
  have S4 := same_new hpo (.lst [.int (-1), .int 1440, .bl true, .non, .str "5", .ref pt, .int (1440 + r3)])
  have e4 : upd H3 po (.lst [.int (-1), .int 1440, .bl true, .non, .str "5", .ref pt, .int (1440 + r3)]) po = _ := upd_same
  have e3' := S4 _ _ e3
  have n4 := W3.ne hpo
  have W4 := W3.same S4
  generalize upd H3 po (.lst [.int (-1), .int 1440, .bl true, .non, .str "5", .ref pt, .int (1440 + r3)]) = H4 at *
  refine drw W4 (by decide) (by decide) fun r5 H5 a5 b5 W5 B5 => ?_
  have e5 := B5 po _ n4 e4
  have e3'' := B5 pt _ (W4.neL e3') e3'
  obtain ⟨bd, hb, eb⟩ := at_memV (xs := [.int (-1), .int 1440, .bl true, .non, .str "5", .ref pt, .int (1440 + r3)]) a5 b5
  refine ixl (SqL.of e5) eb ?_
  have BB5 : But wl H H5 := B1.trans ((Same.but S2).trans (B3.trans ((Same.but S4).trans B5)))
  have ob : okV H5 bd ∧ betwV bd 0 1439 = false := by
    simp only [List.mem_cons, List.not_mem_nil, or_false] at hb
    rcases hb with rfl | rfl | rfl | rfl | rfl | rfl | rfl
    · exact ⟨trivial, rfl⟩
    · exact ⟨trivial, rfl⟩
    · exact ⟨trivial, rfl⟩
    · exact ⟨trivial, rfl⟩
    · exact ⟨trivial, rfl⟩
    · exact ⟨.inr ⟨_, e3''⟩, rfl⟩
    · refine ⟨trivial, ?_⟩
      simp only [betwV, Bool.and_eq_false_iff, decide_eq_false_iff_not]
      omega
  obtain ⟨ob, bb⟩ := ob
  clear hb eb e5 e3'' e4 e3' e3 e2 hpo hpt
  try simp only [w_seq, w_next, w_ifS, w_ret, w_retN, w_drop, w_asg, w_gName, w_gSub, w_var, w_c, w_op, w_un, w_rU, w_rI0, w_rI, w_test, w_b, w_and, w_or, w_not, w_andV, w_orV, w_notV, w_if, w_cons, w_nil, w_tup, w_lst, w_call, w_cB, w_eq, w_ne, w_isN, w_notN, w_chain, w_sl, w_part, w_noPart, w_forL, w_for1, w_for2, w_K, w_for3, w_isnotB, w_raise, w_try, w_cut, w_KX,  exists_const, false_or, or_false, exists_false, w_s1, w_s2, w_s3, w_s4, w_s5, L2.start, List.map_cons, List.map_nil, List.length_cons, List.length_nil, List.replicate, List.replicate_zero, List.replicate_succ, Nat.reduceAdd, Nat.reduceSub, Nat.reduceLeDiff, List.cons_append, List.nil_append, List.append_nil, List.set_cons_zero, List.set_cons_succ, List.getElem?_cons_zero, List.getElem?_cons_succ, Option.some.injEq, V.int.injEq, V.bl.injEq, V.ref.injEq, V.str.injEq, V.ty.injEq, List.cons.injEq, and_true, true_and, exists_eq_left, exists_eq_left', exists_and_left, exists_eq, exists_eq', and_self, decide_eq_true_eq, Bool.not_eq_true', decide_eq_false_iff_not, Bool.true_eq_false, Bool.false_eq_true, if_true, if_false, ite_true, ite_false, false_and, and_false, and_assoc, reduceCtorEq]
  refine ⟨by decide, ?_⟩
  generalize (gd + 1) % 1440 = ot at *
  have S5 : Same H5 H5 := Same.refl _
  refine ⟨sz8 (by decide), fun p0 hp0 => ?_⟩
  have Tp0 := same_new hp0 (.tup [.int gd, bd])
  have ep0 : upd H5 p0 (.tup [.int gd, bd]) p0 = some (.tup [.int gd, bd]) := upd_same
  have W6 := W5.same Tp0
  have S6 := S5.trans Tp0
  generalize upd H5 p0 (.tup [.int gd, bd]) = H6 at *
  refine ⟨sz8 (by decide), fun p1 hp1 => ?_⟩
  have Tp1 := same_new hp1 (.tup [bd, .int gd])
  have ep1 : upd H6 p1 (.tup [bd, .int gd]) p1 = some (.tup [bd, .int gd]) := upd_same
  have W7 := W6.same Tp1
  have S7 := S6.trans Tp1
  have ep0 := Tp1 _ _ ep0
  generalize upd H6 p1 (.tup [bd, .int gd]) = H7 at *
  refine ⟨sz8 (by decide), fun p2 hp2 => ?_⟩
  have Tp2 := same_new hp2 (.tup [.int gd, .int gd])
  have ep2 : upd H7 p2 (.tup [.int gd, .int gd]) p2 = some (.tup [.int gd, .int gd]) := upd_same
  have W8 := W7.same Tp2
  have S8 := S7.trans Tp2
  have ep0 := Tp2 _ _ ep0
  have ep1 := Tp2 _ _ ep1
  generalize upd H7 p2 (.tup [.int gd, .int gd]) = H8 at *
  refine ⟨sz8 (by decide), fun p3 hp3 => ?_⟩
  have Tp3 := same_new hp3 (.tup [.int gd])
  have ep3 : upd H8 p3 (.tup [.int gd]) p3 = some (.tup [.int gd]) := upd_same
  have W9 := W8.same Tp3
  have S9 := S8.trans Tp3
  have ep0 := Tp3 _ _ ep0
  have ep1 := Tp3 _ _ ep1
  have ep2 := Tp3 _ _ ep2
  generalize upd H8 p3 (.tup [.int gd]) = H9 at *
  refine ⟨sz8 (by decide), fun p4 hp4 => ?_⟩
  have Tp4 := same_new hp4 (.tup [.int gd, .int ot, .int 5])
  have ep4 : upd H9 p4 (.tup [.int gd, .int ot, .int 5]) p4 = some (.tup [.int gd, .int ot, .int 5]) := upd_same
  have W10 := W9.same Tp4
  have S10 := S9.trans Tp4
  have ep0 := Tp4 _ _ ep0
  have ep1 := Tp4 _ _ ep1
  have ep2 := Tp4 _ _ ep2
  have ep3 := Tp4 _ _ ep3
  generalize upd H9 p4 (.tup [.int gd, .int ot, .int 5]) = H10 at *
  refine ⟨sz8 (by decide), fun p5 hp5 => ?_⟩
  have Tp5 := same_new hp5 (.tup [])
  have ep5 : upd H10 p5 (.tup []) p5 = some (.tup []) := upd_same
  have W11 := W10.same Tp5
  have S11 := S10.trans Tp5
  have ep0 := Tp5 _ _ ep0
  have ep1 := Tp5 _ _ ep1
  have ep2 := Tp5 _ _ ep2
  have ep3 := Tp5 _ _ ep3
  have ep4 := Tp5 _ _ ep4
  generalize upd H10 p5 (.tup []) = H11 at *
  refine ⟨sz8 (by decide), fun p6 hp6 => ?_⟩
  have Tp6 := same_new hp6 (.lst [.int gd, .int ot])
  have ep6 : upd H11 p6 (.lst [.int gd, .int ot]) p6 = some (.lst [.int gd, .int ot]) := upd_same
  have W12 := W11.same Tp6
  have S12 := S11.trans Tp6
  have ep0 := Tp6 _ _ ep0
  have ep1 := Tp6 _ _ ep1
  have ep2 := Tp6 _ _ ep2
  have ep3 := Tp6 _ _ ep3
  have ep4 := Tp6 _ _ ep4
  have ep5 := Tp6 _ _ ep5
  generalize upd H11 p6 (.lst [.int gd, .int ot]) = H12 at *
  refine ⟨sz8 (by decide), fun ps hps => ?_⟩
  have Tps := same_new hps (.lst [.ref p0, .ref p1, .ref p2, .ref p3, .ref p4, .ref p5, .ref p6, .str "", .str "55", .int gd])
  have eps : upd H12 ps (.lst [.ref p0, .ref p1, .ref p2, .ref p3, .ref p4, .ref p5, .ref p6, .str "", .str "55", .int gd]) ps = some (.lst [.ref p0, .ref p1, .ref p2, .ref p3, .ref p4, .ref p5, .ref p6, .str "", .str "55", .int gd]) := upd_same
  have W13 := W12.same Tps
  have S13 := S12.trans Tps
  have ep0 := Tps _ _ ep0
  have ep1 := Tps _ _ ep1
  have ep2 := Tps _ _ ep2
  have ep3 := Tps _ _ ep3
  have ep4 := Tps _ _ ep4
  have ep5 := Tps _ _ ep5
  have ep6 := Tps _ _ ep6
  generalize upd H12 ps (.lst [.ref p0, .ref p1, .ref p2, .ref p3, .ref p4, .ref p5, .ref p6, .str "", .str "55", .int gd]) = H13 at *
  try simp only [w_seq, w_next, w_ifS, w_ret, w_retN, w_drop, w_asg, w_gName, w_gSub, w_var, w_c, w_op, w_un, w_rU, w_rI0, w_rI, w_test, w_b, w_and, w_or, w_not, w_andV, w_orV, w_notV, w_if, w_cons, w_nil, w_tup, w_lst, w_call, w_cB, w_eq, w_ne, w_isN, w_notN, w_chain, w_sl, w_part, w_noPart, w_forL, w_for1, w_for2, w_K, w_for3, w_isnotB, w_raise, w_try, w_cut, w_KX,  exists_const, false_or, or_false, exists_false, w_s1, w_s2, w_s3, w_s4, w_s5, L2.start, List.map_cons, List.map_nil, List.length_cons, List.length_nil, List.replicate, List.replicate_zero, List.replicate_succ, Nat.reduceAdd, Nat.reduceSub, Nat.reduceLeDiff, List.cons_append, List.nil_append, List.append_nil, List.set_cons_zero, List.set_cons_succ, List.getElem?_cons_zero, List.getElem?_cons_succ, Option.some.injEq, V.int.injEq, V.bl.injEq, V.ref.injEq, V.str.injEq, V.ty.injEq, List.cons.injEq, and_true, true_and, exists_eq_left, exists_eq_left', exists_and_left, exists_eq, exists_eq', and_self, decide_eq_true_eq, Bool.not_eq_true', decide_eq_false_iff_not, Bool.true_eq_false, Bool.false_eq_true, if_true, if_false, ite_true, ite_false, false_and, and_false, and_assoc, reduceCtorEq]
  refine ⟨sz8 (by decide), fun pz hpz => ?_⟩
  have Tpz := same_new hpz (.lst [.bl false, .int 0])
  have epz : upd H13 pz (.lst [.bl false, .int 0]) pz = some (.lst [.bl false, .int 0]) := upd_same
  have W14 := W13.same Tpz
  have S14 := S13.trans Tpz
  have ep0 := Tpz _ _ ep0
  have ep1 := Tpz _ _ ep1
  have ep2 := Tpz _ _ ep2
  have ep3 := Tpz _ _ ep3
  have ep4 := Tpz _ _ ep4
  have ep5 := Tpz _ _ ep5
  have ep6 := Tpz _ _ ep6
  have eps := Tpz _ _ eps
  generalize upd H13 pz (.lst [.bl false, .int 0]) = H14 at *
  refine ⟨ps, pz, _, _, rfl, rfl, eps, epz, sz8 (by simp), fun pc hpc => ?_⟩
  have Tpc := same_new hpc (.lst ([.ref p0, .ref p1, .ref p2, .ref p3, .ref p4, .ref p5, .ref p6, .str "", .str "55", .int gd] ++ [.bl false, .int 0]))
  have epc : upd H14 pc (.lst ([.ref p0, .ref p1, .ref p2, .ref p3, .ref p4, .ref p5, .ref p6, .str "", .str "55", .int gd] ++ [.bl false, .int 0])) pc = _ := upd_same
  have npc := W14.ne hpc
  have W15 := W14.same Tpc
  have S15 := S14.trans Tpc
  have ep0 := Tpc _ _ ep0
  have ep1 := Tpc _ _ ep1
  have ep2 := Tpc _ _ ep2
  have ep3 := Tpc _ _ ep3
  have ep4 := Tpc _ _ ep4
  have ep5 := Tpc _ _ ep5
  have ep6 := Tpc _ _ ep6
  have eps := Tpc _ _ eps
  have epz := Tpc _ _ epz
  generalize upd H14 pc (.lst ([.ref p0, .ref p1, .ref p2, .ref p3, .ref p4, .ref p5, .ref p6, .str "", .str "55", .int gd] ++ [.bl false, .int 0])) = H15 at *
  refine drw W15 (by decide) (by decide) fun r9 H99 a9 b9 W99 B99 => ?_
  have fpc := B99 pc _ npc epc
  have fp0 := B99 p0 _ (W15.neL ep0) ep0
  have fp1 := B99 p1 _ (W15.neL ep1) ep1
  have fp2 := B99 p2 _ (W15.neL ep2) ep2
  have fp3 := B99 p3 _ (W15.neL ep3) ep3
  have fp4 := B99 p4 _ (W15.neL ep4) ep4
  have fp5 := B99 p5 _ (W15.neL ep5) ep5
  have fp6 : H99 p6 = some (.lst [.int gd, .int ot]) := by
    refine B99 p6 _ (fun z => ?_) ep6
    obtain ⟨x1, x2, x3, x4, y⟩ := W15
    rw [z, y] at ep6
    cases ep6
  have ob9 : okV H99 bd := (ob.same S15).but W99 B99
  have BB : But wl H H99 := BB5.trans ((Same.but S15).trans B99)
  obtain ⟨v, hv, ev⟩ := at_memV (xs := [.ref p0, .ref p1, .ref p2, .ref p3, .ref p4, .ref p5, .ref p6, .str "", .str "55", .int gd] ++ [.bl false, .int 0]) a9 (by simp only [List.length_append, List.length_cons, List.length_nil]; omega)
  refine ixl (SqL.of fpc) ev ?_
  simp only [List.cons_append, List.nil_append, List.mem_cons, List.not_mem_nil, or_false] at hv
  have i1 : ∀ y ∈ [V.int gd, bd], okV H99 y := by
    intro y hy
    simp only [List.mem_cons, List.not_mem_nil, or_false] at hy
    rcases hy with rfl | rfl
    · trivial
    · exact ob9
  have i2 : ∀ y ∈ [bd, V.int gd], okV H99 y := by
    intro y hy
    simp only [List.mem_cons, List.not_mem_nil, or_false] at hy
    rcases hy with rfl | rfl
    · exact ob9
    · trivial
  have i3 : ∀ y ∈ [V.int gd, V.int gd], okV H99 y := by
    intro y hy
    simp only [List.mem_cons, List.not_mem_nil, or_false] at hy
    rcases hy with rfl | rfl <;> trivial
  have i4 : ∀ y ∈ [V.int gd], okV H99 y := by
    intro y hy
    simp only [List.mem_cons, List.not_mem_nil, or_false] at hy
    rcases hy with rfl
    trivial
  have i5 : ∀ y ∈ [V.int gd, V.int ot, V.int 5], okV H99 y := by
    intro y hy
    simp only [List.mem_cons, List.not_mem_nil, or_false] at hy
    rcases hy with rfl | rfl | rfl <;> trivial
  rcases hv with rfl | rfl | rfl | rfl | rfl | rfl | rfl | rfl | rfl | rfl | rfl | rfl
  · exact q _ _ W99 BB (bq_tup fp0 i1).1 (bq_tup fp0 i1).2 (by rw [qh2 fp0, bb, Bool.and_false, Bool.false_and])
  · exact q _ _ W99 BB (bq_tup fp1 i2).1 (bq_tup fp1 i2).2 (by rw [qh2 fp1, bb, Bool.false_and, Bool.false_and])
  · exact q _ _ W99 BB (bq_tup fp2 i3).1 (bq_tup fp2 i3).2 (by rw [qh2 fp2, decide_eq_true rfl, Bool.not_true, Bool.and_false])
  · exact q _ _ W99 BB (bq_tup fp3 i4).1 (bq_tup fp3 i4).2 (by simp [qhB, fp3])
  · exact q _ _ W99 BB (bq_tup fp4 i5).1 (bq_tup fp4 i5).2 (by simp [qhB, fp4])
  · exact q _ _ W99 BB (bq_tup fp5 (fun y hy => by cases hy)).1 (bq_tup fp5 (fun y hy => by cases hy)).2 (by simp [qhB, fp5])
  · exact q _ _ W99 BB (bq_lst fp6).1 (bq_lst fp6).2.1 (bq_lst fp6).2.2
  · exact q _ _ W99 BB trivial trivial rfl
  · exact q _ _ W99 BB trivial trivial rfl
  · exact q _ _ W99 BB trivial trivial rfl
  · exact q _ _ W99 BB trivial trivial rfl
  · exact q _ _ W99 BB trivial trivial rfl

end
end Bw

set_option Elab.async false
set_option linter.all false
set_option maxRecDepth 100000
set_option maxHeartbeats 8000000
namespace Bw
open PySem L2
section
variable {P : Program} {w : World} {K : PySem.W.Frag} {mg : Str → Option Value} {base : Heap} {f C CB : Addr} {fd : FuncData} {t0 t1 : Tok} {aNoHappening aNoFit aNoWish aNoRoad aNoTime aNoRow aBackward aNoNumber aFallen aNoBook aNoText : Addr}
theorem bad5_zone {H : Hp} {a : Int} {zv q hv dv : V} (h : betwV zv (-1439) 1439 = false) : bad5 H a zv q hv dv := by
  unfold bad5
  by_cases h2 : a < 2
  · exact .inl ⟨h2, h⟩
  by_cases h8 : a < 8
  · exact .inr (.inl ⟨by omega, h8, .inr h⟩)
  by_cases h10 : a < 10
  · exact .inr (.inr (.inl ⟨by omega, h10, .inr h⟩))
  · exact .inr (.inr (.inr ⟨by omega, .inr h⟩))
theorem bad5_quiet {H : Hp} {a : Int} {zv q hv dv : V} (h2 : 1 < a) (h8 : a < 8) (h : qhB H q = false) : bad5 H a zv q hv dv := .inr (.inl ⟨by omega, h8, .inl h⟩)
theorem bad5_min {H : Hp} {a : Int} {zv q hv dv : V} (h7 : 7 < a) (hh : betwV hv 0 59 = false) (hd : betwV dv 0 1439 = false) : bad5 H a zv q hv dv := by
  by_cases h10 : a < 10
  · exact .inr (.inr (.inl ⟨by omega, h10, .inl hh⟩))
  · exact .inr (.inr (.inr ⟨by omega, .inl hd⟩))
/-- what stays true in a turn -/
structure Fx (wl : Addr) (H H' : Hp) (q : V) (qo : Option (Int × Int)) (told : V) (r : R5) (bz : V) : Prop where
  W : Well H' wl
  g : QG H' q qo
  t : Res H' told r
  b : okV H' bz
  B : But wl H H'
theorem Fx.same {wl : Addr} {H H' H2 : Hp} {q : V} {qo : Option (Int × Int)} {told : V} {r : R5} {bz : V} (x : Fx wl H H' q qo told r bz) (s : Same H' H2) : Fx wl H H2 q qo told r bz :=
  ⟨x.W.same s, x.g.same s, x.t.same s, x.b.same s, x.B.trans (Same.but s)⟩
theorem Fx.but {wl : Addr} {H H' H2 : Hp} {q : V} {qo : Option (Int × Int)} {told : V} {r : R5} {bz : V} (x : Fx wl H H' q qo told r bz) (W2 : Well H2 wl) (s : But wl H' H2) : Fx wl H H2 q qo told r bz :=
  ⟨W2, x.g.but x.W s, x.t.but x.W s, x.b.but W2 s, x.B.trans s⟩
theorem ok_law_right (B : Bt K mg C CB t0 t1 aNoHappening aNoFit aNoWish aNoRoad aNoTime aNoRow aBackward aNoNumber aFallen aNoBook aNoText) (C_law_draw : CalX P w K mg base "_law_draw" ["_law_well_here", "_law_most"] 2 (sp_law_draw C)) (C_law_quiet : CalX P w K mg base "_law_quiet" ["_law_well_here"] 3 (sp_law_quiet C)) (C_law_asked : CalX P w K mg base "_law_asked" ["_law_way", "_law_zone", "_law_quiet_here", "_law_hour", "_law_day", "_law_moment"] 8 (sp_law_asked C)) (C_law_bad_zone : CalX P w K mg base "_law_bad_zone" ["_law_well_here"] 3 (sp_law_bad_zone C)) (C_law_refused : CalX P w K mg base "_law_refused" ["_law_way", "_law_zone", "_law_quiet_here", "_law_hour", "_law_day", "_law_moment"] 9 (sp_law_refused C)) (C_law_bad_quiet : CalX P w K mg base "_law_bad_quiet" ["_law_well_here"] 3 (sp_law_bad_quiet C)) (C_law_bad_minute : CalX P w K mg base "_law_bad_minute" ["_law_well_here", "_law_many"] 3 (sp_law_bad_minute C)) (F : Fun K "_law_right" "_law_right" s_law_right f fd) : FnOk P w K mg base CX0 10 f fd ["_law_well_here"] ((sp_law_right C)) := by
  refine F.ok sc_law_right (fun vs H Q E h => ?_) (fun cdv A outer s H vs Q E hr h => ?_)
  · obtain ⟨wl, rfl, _⟩ := h
    rfl
  obtain ⟨wl, rfl, W, q⟩ := h
  refine ⟨_, (pss_cons (ps_set (i := 1) sc_law_right.nd rfl (Or.inl rfl) (pe_calN C_law_draw (hr.mono (by decide)) rfl (pa_cons (pv 0) (pa_cons pe_int pa_nil)))) (pss_cons (ps_set (i := 2) sc_law_right.nd rfl (Or.inl rfl) (pe_ix ix_list (pe_lst (pa_cons pe_int (pa_cons pe_int (pa_cons (pe_un un_neg pe_int) (pa_cons (pe_op op_sub (pe_calN C_law_draw (hr.mono (by decide)) rfl (pa_cons (pv 0) (pa_cons pe_int pa_nil))) pe_int) pa_nil))))) (pe_calN C_law_draw (hr.mono (by decide)) rfl (pa_cons (pv 0) (pa_cons pe_int pa_nil))) (fun _ _ => rfl))) (pss_cons (ps_set (i := 3) sc_law_right.nd rfl (Or.inl rfl) (pe_calN C_law_quiet (hr.mono (by decide)) rfl (pa_cons (pv 0) pa_nil))) (pss_cons (ps_set (i := 4) sc_law_right.nd rfl (Or.inl rfl) (pe_calN C_law_draw (hr.mono (by decide)) rfl (pa_cons (pv 0) (pa_cons pe_int pa_nil)))) (pss_cons (ps_set (i := 5) sc_law_right.nd rfl (Or.inl rfl) (pe_calN C_law_draw (hr.mono (by decide)) rfl (pa_cons (pv 0) (pa_cons pe_int pa_nil)))) (pss_cons (ps_set (i := 6) sc_law_right.nd rfl (Or.inl rfl) (pe_op op_sub (pe_calN C_law_draw (hr.mono (by decide)) rfl (pa_cons (pv 0) (pa_cons (pe_op op_mul pe_int (pe_op op_pow pe_int pe_int)) pa_nil))) (pe_op op_pow pe_int pe_int))) (pss_cons (ps_set (i := 7) sc_law_right.nd rfl (Or.inl rfl) (pe_calN C_law_asked (hr.mono (by decide)) rfl (pa_cons (pv 1) (pa_cons (pv 2) (pa_cons (pv 3) (pa_cons (pv 4) (pa_cons (pv 5) (pa_cons (pv 6) pa_nil)))))))) (pss_cons (ps_set (i := 8) sc_law_right.nd rfl (Or.inl rfl) (pe_calN C_law_bad_zone (hr.mono (by decide)) rfl (pa_cons (pv 0) pa_nil))) (pss_cons (ps_set (i := 9) sc_law_right.nd rfl (Or.inl rfl) (pe_calN C_law_draw (hr.mono (by decide)) rfl (pa_cons (pv 0) (pa_cons pe_int pa_nil)))) (pss_cons (ps_set (i := 10) sc_law_right.nd rfl (Or.inl rfl) pe_bl) (pss_cut (ps_if (L2.PW.pt (pw_or (pt_cmpR op_eq (pe_op op_mod (pv 1) pe_int) pe_int (nomark _)) (pw_or1 (pt_cmpR op_lt (pv 1) pe_int (nomark _))))) (pss_one (ps_set (i := 10) sc_law_right.nd rfl (Or.inl rfl) (pe_calN C_law_refused (hr.mono (by decide)) rfl (pa_cons (pv 1) (pa_cons (pv 8) (pa_cons (pv 3) (pa_cons (pv 4) (pa_cons (pv 5) (pa_cons (pv 6) pa_nil))))))))) pss_nil) (pss_cons (ps_set (i := 11) sc_law_right.nd rfl (Or.inl rfl) (pe_ix ix_list (pe_lst (pa_cons (pv 2) (pa_cons (pv 8) pa_nil))) (pe_callTy call_int1 rfl B.int PyProof.Rows.boot_int (pa_cons (pe_cmpR op_eq (pv 9) pe_int (nomark _)) pa_nil)) (fun _ _ => rfl))) (pss_cut (ps_if (L2.PW.pt (pw_and (pt_cmpR op_gt (pv 1) pe_int (nomark _)) (pw_and (pt_cmpR op_lt (pv 1) pe_int (nomark _)) (pw_and1 (L2.PW.pt (pw_or (pt_cmpR op_eq (pe_op op_mod (pv 1) pe_int) pe_int (nomark _)) (pw_or1 (pt_cmpR op_eq (pv 9) pe_int (nomark _))))))))) (pss_cons (ps_set (i := 12) sc_law_right.nd rfl (Or.inl rfl) (pe_calN C_law_bad_quiet (hr.mono (by decide)) rfl (pa_cons (pv 0) pa_nil))) (pss_one (ps_set (i := 10) sc_law_right.nd rfl (Or.inl rfl) (pe_and (pv 10) (pe_one (pe_calN C_law_refused (hr.mono (by decide)) rfl (pa_cons (pv 1) (pa_cons (pv 11) (pa_cons (pv 12) (pa_cons (pv 4) (pa_cons (pv 5) (pa_cons (pv 6) pa_nil)))))))))))) pss_nil) (pss_cut (ps_if (L2.PW.pt (pw_and (pt_cmpR op_gt (pv 1) pe_int (nomark _)) (pw_and1 (L2.PW.pt (pw_or (pt_cmpR op_eq (pe_op op_mod (pv 1) pe_int) pe_int (nomark _)) (pw_or1 (pt_cmpR op_eq (pv 9) pe_int (nomark _)))))))) (pss_cons (ps_set (i := 13) sc_law_right.nd rfl (Or.inl rfl) (pe_lst (pa_cons (pe_calN C_law_bad_minute (hr.mono (by decide)) rfl (pa_cons (pv 0) (pa_cons pe_int pa_nil))) (pa_cons (pe_calN C_law_bad_minute (hr.mono (by decide)) rfl (pa_cons (pv 0) (pa_cons pe_int pa_nil))) pa_nil)))) (pss_one (ps_set (i := 10) sc_law_right.nd rfl (Or.inl rfl) (pe_and (pv 10) (pe_one (pe_calN C_law_refused (hr.mono (by decide)) rfl (pa_cons (pv 1) (pa_cons (pv 11) (pa_cons (pv 3) (pa_cons (pe_ix ix_list (pv 13) pe_int (fun _ _ => rfl)) (pa_cons (pe_ix ix_list (pv 13) pe_int (fun _ _ => rfl)) (pa_cons (pv 6) pa_nil)))))))))))) pss_nil) (pss_one (ps_ret (pe_and (pv 10) (pe_one (pe_cmpR (op_eq.or (op_eqT hr.units)) (pe_calN C_law_asked (hr.mono (by decide)) rfl (pa_cons (pv 1) (pa_cons (pv 2) (pa_cons (pv 3) (pa_cons (pv 4) (pa_cons (pv 5) (pa_cons (pv 6) pa_nil))))))) (pv 7) (nomark _)))))))))))))))))))), ?_⟩
  try simp only [w_seq, w_next, w_ifS, w_ret, w_retN, w_drop, w_asg, w_gName, w_gSub, w_var, w_c, w_op, w_un, w_rU, w_rI0, w_rI, w_test, w_b, w_and, w_or, w_not, w_andV, w_orV, w_notV, w_if, w_cons, w_nil, w_tup, w_lst, w_call, w_cB, w_eq, w_ne, w_isN, w_notN, w_chain, w_sl, w_part, w_noPart, w_forL, w_for1, w_for2, w_K, w_for3, w_isnotB, w_raise, w_try, w_cut, w_KX,  exists_const, false_or, or_false, exists_false, w_s1, w_s2, w_s3, w_s4, w_s5, L2.start, List.map_cons, List.map_nil, List.length_cons, List.length_nil, List.replicate, List.replicate_zero, List.replicate_succ, Nat.reduceAdd, Nat.reduceSub, Nat.reduceLeDiff, List.cons_append, List.nil_append, List.append_nil, List.set_cons_zero, List.set_cons_succ, List.getElem?_cons_zero, List.getElem?_cons_succ, Option.some.injEq, V.int.injEq, V.bl.injEq, V.ref.injEq, V.str.injEq, V.ty.injEq, List.cons.injEq, and_true, true_and, exists_eq_left, exists_eq_left', exists_and_left, exists_eq, exists_eq', and_self, decide_eq_true_eq, Bool.not_eq_true', decide_eq_false_iff_not, Bool.true_eq_false, Bool.false_eq_true, if_true, if_false, ite_true, ite_false, false_and, and_false, and_assoc, reduceCtorEq]
  refine drw W (by decide) (by decide) fun a H1 a0 a12 W1 B1 => ?_
  try simp only [w_seq, w_next, w_ifS, w_ret, w_retN, w_drop, w_asg, w_gName, w_gSub, w_var, w_c, w_op, w_un, w_rU, w_rI0, w_rI, w_test, w_b, w_and, w_or, w_not, w_andV, w_orV, w_notV, w_if, w_cons, w_nil, w_tup, w_lst, w_call, w_cB, w_eq, w_ne, w_isN, w_notN, w_chain, w_sl, w_part, w_noPart, w_forL, w_for1, w_for2, w_K, w_for3, w_isnotB, w_raise, w_try, w_cut, w_KX,  exists_const, false_or, or_false, exists_false, w_s1, w_s2, w_s3, w_s4, w_s5, L2.start, List.map_cons, List.map_nil, List.length_cons, List.length_nil, List.replicate, List.replicate_zero, List.replicate_succ, Nat.reduceAdd, Nat.reduceSub, Nat.reduceLeDiff, List.cons_append, List.nil_append, List.append_nil, List.set_cons_zero, List.set_cons_succ, List.getElem?_cons_zero, List.getElem?_cons_succ, Option.some.injEq, V.int.injEq, V.bl.injEq, V.ref.injEq, V.str.injEq, V.ty.injEq, List.cons.injEq, and_true, true_and, exists_eq_left, exists_eq_left', exists_and_left, exists_eq, exists_eq', and_self, decide_eq_true_eq, Bool.not_eq_true', decide_eq_false_iff_not, Bool.true_eq_false, Bool.false_eq_true, if_true, if_false, ite_true, ite_false, false_and, and_false, and_assoc, reduceCtorEq]
  refine drw W1 (by decide) (by decide) fun r1 H2 a1 b1 W2 B2 => ?_
  try simp only [w_seq, w_next, w_ifS, w_ret, w_retN, w_drop, w_asg, w_gName, w_gSub, w_var, w_c, w_op, w_un, w_rU, w_rI0, w_rI, w_test, w_b, w_and, w_or, w_not, w_andV, w_orV, w_notV, w_if, w_cons, w_nil, w_tup, w_lst, w_call, w_cB, w_eq, w_ne, w_isN, w_notN, w_chain, w_sl, w_part, w_noPart, w_forL, w_for1, w_for2, w_K, w_for3, w_isnotB, w_raise, w_try, w_cut, w_KX,  exists_const, false_or, or_false, exists_false, w_s1, w_s2, w_s3, w_s4, w_s5, L2.start, List.map_cons, List.map_nil, List.length_cons, List.length_nil, List.replicate, List.replicate_zero, List.replicate_succ, Nat.reduceAdd, Nat.reduceSub, Nat.reduceLeDiff, List.cons_append, List.nil_append, List.append_nil, List.set_cons_zero, List.set_cons_succ, List.getElem?_cons_zero, List.getElem?_cons_succ, Option.some.injEq, V.int.injEq, V.bl.injEq, V.ref.injEq, V.str.injEq, V.ty.injEq, List.cons.injEq, and_true, true_and, exists_eq_left, exists_eq_left', exists_and_left, exists_eq, exists_eq', and_self, decide_eq_true_eq, Bool.not_eq_true', decide_eq_false_iff_not, Bool.true_eq_false, Bool.false_eq_true, if_true, if_false, ite_true, ite_false, false_and, and_false, and_assoc, reduceCtorEq]
  refine ⟨sz8 (by decide), fun p1 hp1 => ?_⟩
  refine drw (W2.same (same_new hp1 _)) (by decide) (by decide) fun r2 H3 a2 b2 W3 B3 => ?_
  have e3 := B3 p1 _ (W2.ne hp1) upd_same
  obtain ⟨z, hz, ez⟩ := at_mem (ns := [0, 1439, -1439, r1 - 1439]) a2 b2
  refine ixl (SqL.of e3) ez ?_
  have zb : -1439 ≤ z ∧ z ≤ 1439 := by simp only [List.mem_cons, List.not_mem_nil, or_false] at hz; omega
  have BB3 := B1.trans (B2.trans ((Same.but (same_new hp1 _)).trans B3))
  clear ez hz e3 hp1
  try simp only [w_seq, w_next, w_ifS, w_ret, w_retN, w_drop, w_asg, w_gName, w_gSub, w_var, w_c, w_op, w_un, w_rU, w_rI0, w_rI, w_test, w_b, w_and, w_or, w_not, w_andV, w_orV, w_notV, w_if, w_cons, w_nil, w_tup, w_lst, w_call, w_cB, w_eq, w_ne, w_isN, w_notN, w_chain, w_sl, w_part, w_noPart, w_forL, w_for1, w_for2, w_K, w_for3, w_isnotB, w_raise, w_try, w_cut, w_KX,  exists_const, false_or, or_false, exists_false, w_s1, w_s2, w_s3, w_s4, w_s5, L2.start, List.map_cons, List.map_nil, List.length_cons, List.length_nil, List.replicate, List.replicate_zero, List.replicate_succ, Nat.reduceAdd, Nat.reduceSub, Nat.reduceLeDiff, List.cons_append, List.nil_append, List.append_nil, List.set_cons_zero, List.set_cons_succ, List.getElem?_cons_zero, List.getElem?_cons_succ, Option.some.injEq, V.int.injEq, V.bl.injEq, V.ref.injEq, V.str.injEq, V.ty.injEq, List.cons.injEq, and_true, true_and, exists_eq_left, exists_eq_left', exists_and_left, exists_eq, exists_eq', and_self, decide_eq_true_eq, Bool.not_eq_true', decide_eq_false_iff_not, Bool.true_eq_false, Bool.false_eq_true, if_true, if_false, ite_true, ite_false, false_and, and_false, and_assoc, reduceCtorEq]
  refine ⟨wl, rfl, W3, fun qv qo H4 W4 B4 g4 => ?_⟩
  try simp only [w_seq, w_next, w_ifS, w_ret, w_retN, w_drop, w_asg, w_gName, w_gSub, w_var, w_c, w_op, w_un, w_rU, w_rI0, w_rI, w_test, w_b, w_and, w_or, w_not, w_andV, w_orV, w_notV, w_if, w_cons, w_nil, w_tup, w_lst, w_call, w_cB, w_eq, w_ne, w_isN, w_notN, w_chain, w_sl, w_part, w_noPart, w_forL, w_for1, w_for2, w_K, w_for3, w_isnotB, w_raise, w_try, w_cut, w_KX,  exists_const, false_or, or_false, exists_false, w_s1, w_s2, w_s3, w_s4, w_s5, L2.start, List.map_cons, List.map_nil, List.length_cons, List.length_nil, List.replicate, List.replicate_zero, List.replicate_succ, Nat.reduceAdd, Nat.reduceSub, Nat.reduceLeDiff, List.cons_append, List.nil_append, List.append_nil, List.set_cons_zero, List.set_cons_succ, List.getElem?_cons_zero, List.getElem?_cons_succ, Option.some.injEq, V.int.injEq, V.bl.injEq, V.ref.injEq, V.str.injEq, V.ty.injEq, List.cons.injEq, and_true, true_and, exists_eq_left, exists_eq_left', exists_and_left, exists_eq, exists_eq', and_self, decide_eq_true_eq, Bool.not_eq_true', decide_eq_false_iff_not, Bool.true_eq_false, Bool.false_eq_true, if_true, if_false, ite_true, ite_false, false_and, and_false, and_assoc, reduceCtorEq]
  refine drw W4 (by decide) (by decide) fun hh H5 h0 h1 W5 B5 => ?_
  have g5 := g4.but W4 B5
  try simp only [w_seq, w_next, w_ifS, w_ret, w_retN, w_drop, w_asg, w_gName, w_gSub, w_var, w_c, w_op, w_un, w_rU, w_rI0, w_rI, w_test, w_b, w_and, w_or, w_not, w_andV, w_orV, w_notV, w_if, w_cons, w_nil, w_tup, w_lst, w_call, w_cB, w_eq, w_ne, w_isN, w_notN, w_chain, w_sl, w_part, w_noPart, w_forL, w_for1, w_for2, w_K, w_for3, w_isnotB, w_raise, w_try, w_cut, w_KX,  exists_const, false_or, or_false, exists_false, w_s1, w_s2, w_s3, w_s4, w_s5, L2.start, List.map_cons, List.map_nil, List.length_cons, List.length_nil, List.replicate, List.replicate_zero, List.replicate_succ, Nat.reduceAdd, Nat.reduceSub, Nat.reduceLeDiff, List.cons_append, List.nil_append, List.append_nil, List.set_cons_zero, List.set_cons_succ, List.getElem?_cons_zero, List.getElem?_cons_succ, Option.some.injEq, V.int.injEq, V.bl.injEq, V.ref.injEq, V.str.injEq, V.ty.injEq, List.cons.injEq, and_true, true_and, exists_eq_left, exists_eq_left', exists_and_left, exists_eq, exists_eq', and_self, decide_eq_true_eq, Bool.not_eq_true', decide_eq_false_iff_not, Bool.true_eq_false, Bool.false_eq_true, if_true, if_false, ite_true, ite_false, false_and, and_false, and_assoc, reduceCtorEq]
  refine drw W5 (by decide) (by decide) fun d H6 d0 d1 W6 B6 => ?_
  have g6 := g5.but W5 B6
  try simp only [w_seq, w_next, w_ifS, w_ret, w_retN, w_drop, w_asg, w_gName, w_gSub, w_var, w_c, w_op, w_un, w_rU, w_rI0, w_rI, w_test, w_b, w_and, w_or, w_not, w_andV, w_orV, w_notV, w_if, w_cons, w_nil, w_tup, w_lst, w_call, w_cB, w_eq, w_ne, w_isN, w_notN, w_chain, w_sl, w_part, w_noPart, w_forL, w_for1, w_for2, w_K, w_for3, w_isnotB, w_raise, w_try, w_cut, w_KX,  exists_const, false_or, or_false, exists_false, w_s1, w_s2, w_s3, w_s4, w_s5, L2.start, List.map_cons, List.map_nil, List.length_cons, List.length_nil, List.replicate, List.replicate_zero, List.replicate_succ, Nat.reduceAdd, Nat.reduceSub, Nat.reduceLeDiff, List.cons_append, List.nil_append, List.append_nil, List.set_cons_zero, List.set_cons_succ, List.getElem?_cons_zero, List.getElem?_cons_succ, Option.some.injEq, V.int.injEq, V.bl.injEq, V.ref.injEq, V.str.injEq, V.ty.injEq, List.cons.injEq, and_true, true_and, exists_eq_left, exists_eq_left', exists_and_left, exists_eq, exists_eq', and_self, decide_eq_true_eq, Bool.not_eq_true', decide_eq_false_iff_not, Bool.true_eq_false, Bool.false_eq_true, if_true, if_false, ite_true, ite_false, false_and, and_false, and_assoc, reduceCtorEq]
  refine ⟨⟨by decide, by decide, by decide⟩, .inl ⟨by decide, by decide⟩, ?_⟩
  refine drw W6 (by decide) (by decide) fun rm H7 m0 m1 W7 B7 => ?_
  have g7 := g6.but W6 B7
  have BB7 := BB3.trans (B4.trans (B5.trans (B6.trans B7)))
  clear B1 B2 B3 B4 B5 B6 B7 W W1 W2 W3 W4 W5 W6 g4 g5 g6 BB3
  try simp only [w_seq, w_next, w_ifS, w_ret, w_retN, w_drop, w_asg, w_gName, w_gSub, w_var, w_c, w_op, w_un, w_rU, w_rI0, w_rI, w_test, w_b, w_and, w_or, w_not, w_andV, w_orV, w_notV, w_if, w_cons, w_nil, w_tup, w_lst, w_call, w_cB, w_eq, w_ne, w_isN, w_notN, w_chain, w_sl, w_part, w_noPart, w_forL, w_for1, w_for2, w_K, w_for3, w_isnotB, w_raise, w_try, w_cut, w_KX,  exists_const, false_or, or_false, exists_false, w_s1, w_s2, w_s3, w_s4, w_s5, L2.start, List.map_cons, List.map_nil, List.length_cons, List.length_nil, List.replicate, List.replicate_zero, List.replicate_succ, Nat.reduceAdd, Nat.reduceSub, Nat.reduceLeDiff, List.cons_append, List.nil_append, List.append_nil, List.set_cons_zero, List.set_cons_succ, List.getElem?_cons_zero, List.getElem?_cons_succ, Option.some.injEq, V.int.injEq, V.bl.injEq, V.ref.injEq, V.str.injEq, V.ty.injEq, List.cons.injEq, and_true, true_and, exists_eq_left, exists_eq_left', exists_and_left, exists_eq, exists_eq', and_self, decide_eq_true_eq, Bool.not_eq_true', decide_eq_false_iff_not, Bool.true_eq_false, Bool.false_eq_true, if_true, if_false, ite_true, ite_false, false_and, and_false, and_assoc, reduceCtorEq]
  refine ⟨⟨by decide, by decide, by decide⟩, ?_⟩
  generalize rm - 10 ^ Int.toNat 10 = m at *
  have GD : ∀ {H9 : Hp}, QG H9 qv qo → Gd H9 (.int z) qv (.int hh) (.int d) z qo hh d := fun {H9} g9 => ⟨rfl, zb.1, zb.2, g9, rfl, h0, by omega, rfl, d0, by omega⟩
  refine ⟨a, m, _, _, _, _, rfl, ⟨trivial, g7.ok.1, g7.ok.2.1, trivial, trivial, .inr ⟨d, rfl⟩⟩, .inl ⟨z, qo, hh, d, GD g7, fun told H8 S8 t8 => ?_⟩⟩
  have g8 := g7.same S8
  have W8 := W7.same S8
  have BB8 := BB7.trans (Same.but S8)
  try simp only [w_seq, w_next, w_ifS, w_ret, w_retN, w_drop, w_asg, w_gName, w_gSub, w_var, w_c, w_op, w_un, w_rU, w_rI0, w_rI, w_test, w_b, w_and, w_or, w_not, w_andV, w_orV, w_notV, w_if, w_cons, w_nil, w_tup, w_lst, w_call, w_cB, w_eq, w_ne, w_isN, w_notN, w_chain, w_sl, w_part, w_noPart, w_forL, w_for1, w_for2, w_K, w_for3, w_isnotB, w_raise, w_try, w_cut, w_KX,  exists_const, false_or, or_false, exists_false, w_s1, w_s2, w_s3, w_s4, w_s5, L2.start, List.map_cons, List.map_nil, List.length_cons, List.length_nil, List.replicate, List.replicate_zero, List.replicate_succ, Nat.reduceAdd, Nat.reduceSub, Nat.reduceLeDiff, List.cons_append, List.nil_append, List.append_nil, List.set_cons_zero, List.set_cons_succ, List.getElem?_cons_zero, List.getElem?_cons_succ, Option.some.injEq, V.int.injEq, V.bl.injEq, V.ref.injEq, V.str.injEq, V.ty.injEq, List.cons.injEq, and_true, true_and, exists_eq_left, exists_eq_left', exists_and_left, exists_eq, exists_eq', and_self, decide_eq_true_eq, Bool.not_eq_true', decide_eq_false_iff_not, Bool.true_eq_false, Bool.false_eq_true, if_true, if_false, ite_true, ite_false, false_and, and_false, and_assoc, reduceCtorEq]
  refine ⟨wl, rfl, W8, fun bz H9 W9 B9 ok9 bz9 => ?_⟩
  have X : Fx wl H H9 qv qo told (val5 a z qo hh d m) bz := ⟨W9, g8.but W8 B9, t8.but W8 B9, ok9, BB8.trans B9⟩
  clear BB8 W8 g8 W7 BB7 g7 t8
  try simp only [w_seq, w_next, w_ifS, w_ret, w_retN, w_drop, w_asg, w_gName, w_gSub, w_var, w_c, w_op, w_un, w_rU, w_rI0, w_rI, w_test, w_b, w_and, w_or, w_not, w_andV, w_orV, w_notV, w_if, w_cons, w_nil, w_tup, w_lst, w_call, w_cB, w_eq, w_ne, w_isN, w_notN, w_chain, w_sl, w_part, w_noPart, w_forL, w_for1, w_for2, w_K, w_for3, w_isnotB, w_raise, w_try, w_cut, w_KX,  exists_const, false_or, or_false, exists_false, w_s1, w_s2, w_s3, w_s4, w_s5, L2.start, List.map_cons, List.map_nil, List.length_cons, List.length_nil, List.replicate, List.replicate_zero, List.replicate_succ, Nat.reduceAdd, Nat.reduceSub, Nat.reduceLeDiff, List.cons_append, List.nil_append, List.append_nil, List.set_cons_zero, List.set_cons_succ, List.getElem?_cons_zero, List.getElem?_cons_succ, Option.some.injEq, V.int.injEq, V.bl.injEq, V.ref.injEq, V.str.injEq, V.ty.injEq, List.cons.injEq, and_true, true_and, exists_eq_left, exists_eq_left', exists_and_left, exists_eq, exists_eq', and_self, decide_eq_true_eq, Bool.not_eq_true', decide_eq_false_iff_not, Bool.true_eq_false, Bool.false_eq_true, if_true, if_false, ite_true, ite_false, false_and, and_false, and_assoc, reduceCtorEq]
  refine drw X.W (by decide) (by decide) fun sec H10 s0 s1 W10 B10 => ?_
  have X := X.but W10 B10
  try simp only [w_seq, w_next, w_ifS, w_ret, w_retN, w_drop, w_asg, w_gName, w_gSub, w_var, w_c, w_op, w_un, w_rU, w_rI0, w_rI, w_test, w_b, w_and, w_or, w_not, w_andV, w_orV, w_notV, w_if, w_cons, w_nil, w_tup, w_lst, w_call, w_cB, w_eq, w_ne, w_isN, w_notN, w_chain, w_sl, w_part, w_noPart, w_forL, w_for1, w_for2, w_K, w_for3, w_isnotB, w_raise, w_try, w_cut, w_KX,  exists_const, false_or, or_false, exists_false, w_s1, w_s2, w_s3, w_s4, w_s5, L2.start, List.map_cons, List.map_nil, List.length_cons, List.length_nil, List.replicate, List.replicate_zero, List.replicate_succ, Nat.reduceAdd, Nat.reduceSub, Nat.reduceLeDiff, List.cons_append, List.nil_append, List.append_nil, List.set_cons_zero, List.set_cons_succ, List.getElem?_cons_zero, List.getElem?_cons_succ, Option.some.injEq, V.int.injEq, V.bl.injEq, V.ref.injEq, V.str.injEq, V.ty.injEq, List.cons.injEq, and_true, true_and, exists_eq_left, exists_eq_left', exists_and_left, exists_eq, exists_eq', and_self, decide_eq_true_eq, Bool.not_eq_true', decide_eq_false_iff_not, Bool.true_eq_false, Bool.false_eq_true, if_true, if_false, ite_true, ite_false, false_and, and_false, and_assoc, reduceCtorEq]
  -- the first if
  refine ⟨by decide, ?_⟩
  refine ⟨fun σ' H' => σ' = [some (.ref wl), some (.int a), some (.int z), some qv, some (.int hh), some (.int d), some (.int m), some told, some bz, some (.int sec), some (.bl true), none, none, none] ∧ Fx wl H H' qv qo told (val5 a z qo hh d m) bz, ?_, ?_⟩
  · have main : ∀ (Qx : V → Hp → Prop), (∀ H', Fx wl H H' qv qo told (val5 a z qo hh d m) bz → Qx (.bl true) H') → sp_law_refused C [.int a, bz, qv, .int hh, .int d, .int m] H10 Qx E0 := fun Qx hQ =>
      ⟨a, m, _, _, _, _, rfl, ⟨X.b, X.g.ok.1, X.g.ok.2.1, trivial, trivial, .inr ⟨d, rfl⟩⟩, bad5_zone bz9, fun H' S' => hQ H' (X.same S')⟩
    by_cases c1 : a % 2 = 0
    · rw [if_pos c1]
      refine main _ fun H' X' => ?_
      try simp only [w_seq, w_next, w_ifS, w_ret, w_retN, w_drop, w_asg, w_gName, w_gSub, w_var, w_c, w_op, w_un, w_rU, w_rI0, w_rI, w_test, w_b, w_and, w_or, w_not, w_andV, w_orV, w_notV, w_if, w_cons, w_nil, w_tup, w_lst, w_call, w_cB, w_eq, w_ne, w_isN, w_notN, w_chain, w_sl, w_part, w_noPart, w_forL, w_for1, w_for2, w_K, w_for3, w_isnotB, w_raise, w_try, w_cut, w_KX,  exists_const, false_or, or_false, exists_false, w_s1, w_s2, w_s3, w_s4, w_s5, L2.start, List.map_cons, List.map_nil, List.length_cons, List.length_nil, List.replicate, List.replicate_zero, List.replicate_succ, Nat.reduceAdd, Nat.reduceSub, Nat.reduceLeDiff, List.cons_append, List.nil_append, List.append_nil, List.set_cons_zero, List.set_cons_succ, List.getElem?_cons_zero, List.getElem?_cons_succ, Option.some.injEq, V.int.injEq, V.bl.injEq, V.ref.injEq, V.str.injEq, V.ty.injEq, List.cons.injEq, and_true, true_and, exists_eq_left, exists_eq_left', exists_and_left, exists_eq, exists_eq', and_self, decide_eq_true_eq, Bool.not_eq_true', decide_eq_false_iff_not, Bool.true_eq_false, Bool.false_eq_true, if_true, if_false, ite_true, ite_false, false_and, and_false, and_assoc, reduceCtorEq]
      exact X'
    · rw [if_neg c1]
      by_cases c2 : a < 2
      · rw [if_pos c2]
        refine main _ fun H' X' => ?_
        try simp only [w_seq, w_next, w_ifS, w_ret, w_retN, w_drop, w_asg, w_gName, w_gSub, w_var, w_c, w_op, w_un, w_rU, w_rI0, w_rI, w_test, w_b, w_and, w_or, w_not, w_andV, w_orV, w_notV, w_if, w_cons, w_nil, w_tup, w_lst, w_call, w_cB, w_eq, w_ne, w_isN, w_notN, w_chain, w_sl, w_part, w_noPart, w_forL, w_for1, w_for2, w_K, w_for3, w_isnotB, w_raise, w_try, w_cut, w_KX,  exists_const, false_or, or_false, exists_false, w_s1, w_s2, w_s3, w_s4, w_s5, L2.start, List.map_cons, List.map_nil, List.length_cons, List.length_nil, List.replicate, List.replicate_zero, List.replicate_succ, Nat.reduceAdd, Nat.reduceSub, Nat.reduceLeDiff, List.cons_append, List.nil_append, List.append_nil, List.set_cons_zero, List.set_cons_succ, List.getElem?_cons_zero, List.getElem?_cons_succ, Option.some.injEq, V.int.injEq, V.bl.injEq, V.ref.injEq, V.str.injEq, V.ty.injEq, List.cons.injEq, and_true, true_and, exists_eq_left, exists_eq_left', exists_and_left, exists_eq, exists_eq', and_self, decide_eq_true_eq, Bool.not_eq_true', decide_eq_false_iff_not, Bool.true_eq_false, Bool.false_eq_true, if_true, if_false, ite_true, ite_false, false_and, and_false, and_assoc, reduceCtorEq]
        exact X'
      · rw [if_neg c2]
        try simp only [w_seq, w_next, w_ifS, w_ret, w_retN, w_drop, w_asg, w_gName, w_gSub, w_var, w_c, w_op, w_un, w_rU, w_rI0, w_rI, w_test, w_b, w_and, w_or, w_not, w_andV, w_orV, w_notV, w_if, w_cons, w_nil, w_tup, w_lst, w_call, w_cB, w_eq, w_ne, w_isN, w_notN, w_chain, w_sl, w_part, w_noPart, w_forL, w_for1, w_for2, w_K, w_for3, w_isnotB, w_raise, w_try, w_cut, w_KX,  exists_const, false_or, or_false, exists_false, w_s1, w_s2, w_s3, w_s4, w_s5, L2.start, List.map_cons, List.map_nil, List.length_cons, List.length_nil, List.replicate, List.replicate_zero, List.replicate_succ, Nat.reduceAdd, Nat.reduceSub, Nat.reduceLeDiff, List.cons_append, List.nil_append, List.append_nil, List.set_cons_zero, List.set_cons_succ, List.getElem?_cons_zero, List.getElem?_cons_succ, Option.some.injEq, V.int.injEq, V.bl.injEq, V.ref.injEq, V.str.injEq, V.ty.injEq, List.cons.injEq, and_true, true_and, exists_eq_left, exists_eq_left', exists_and_left, exists_eq, exists_eq', and_self, decide_eq_true_eq, Bool.not_eq_true', decide_eq_false_iff_not, Bool.true_eq_false, Bool.false_eq_true, if_true, if_false, ite_true, ite_false, false_and, and_false, and_assoc, reduceCtorEq]
        exact X
  clear X W10 B10
  rintro σ' H11 ⟨rfl, X⟩
  try simp only [w_seq, w_next, w_ifS, w_ret, w_retN, w_drop, w_asg, w_gName, w_gSub, w_var, w_c, w_op, w_un, w_rU, w_rI0, w_rI, w_test, w_b, w_and, w_or, w_not, w_andV, w_orV, w_notV, w_if, w_cons, w_nil, w_tup, w_lst, w_call, w_cB, w_eq, w_ne, w_isN, w_notN, w_chain, w_sl, w_part, w_noPart, w_forL, w_for1, w_for2, w_K, w_for3, w_isnotB, w_raise, w_try, w_cut, w_KX,  exists_const, false_or, or_false, exists_false, w_s1, w_s2, w_s3, w_s4, w_s5, L2.start, List.map_cons, List.map_nil, List.length_cons, List.length_nil, List.replicate, List.replicate_zero, List.replicate_succ, Nat.reduceAdd, Nat.reduceSub, Nat.reduceLeDiff, List.cons_append, List.nil_append, List.append_nil, List.set_cons_zero, List.set_cons_succ, List.getElem?_cons_zero, List.getElem?_cons_succ, Option.some.injEq, V.int.injEq, V.bl.injEq, V.ref.injEq, V.str.injEq, V.ty.injEq, List.cons.injEq, and_true, true_and, exists_eq_left, exists_eq_left', exists_and_left, exists_eq, exists_eq', and_self, decide_eq_true_eq, Bool.not_eq_true', decide_eq_false_iff_not, Bool.true_eq_false, Bool.false_eq_true, if_true, if_false, ite_true, ite_false, false_and, and_false, and_assoc, reduceCtorEq]
  refine ⟨sz8 (by decide), fun po hpo => ?_⟩
  have X := X.same (same_new hpo (.lst [.int z, bz]))
  have eo : upd H11 po (.lst [.int z, bz]) po = _ := upd_same
  generalize upd H11 po (.lst [.int z, bz]) = H12 at *
  obtain ⟨ov, eov, oo⟩ : ∃ ov, atI [V.int z, bz] (if sec = 1 then 1 else 0) = some ov ∧ okV H12 ov := by
    by_cases c : sec = 1
    · rw [if_pos c]
      exact ⟨bz, rfl, X.b⟩
    · rw [if_neg c]
      exact ⟨.int z, rfl, trivial⟩
  refine ixl (SqL.of eo) eov ?_
  try simp only [w_seq, w_next, w_ifS, w_ret, w_retN, w_drop, w_asg, w_gName, w_gSub, w_var, w_c, w_op, w_un, w_rU, w_rI0, w_rI, w_test, w_b, w_and, w_or, w_not, w_andV, w_orV, w_notV, w_if, w_cons, w_nil, w_tup, w_lst, w_call, w_cB, w_eq, w_ne, w_isN, w_notN, w_chain, w_sl, w_part, w_noPart, w_forL, w_for1, w_for2, w_K, w_for3, w_isnotB, w_raise, w_try, w_cut, w_KX,  exists_const, false_or, or_false, exists_false, w_s1, w_s2, w_s3, w_s4, w_s5, L2.start, List.map_cons, List.map_nil, List.length_cons, List.length_nil, List.replicate, List.replicate_zero, List.replicate_succ, Nat.reduceAdd, Nat.reduceSub, Nat.reduceLeDiff, List.cons_append, List.nil_append, List.append_nil, List.set_cons_zero, List.set_cons_succ, List.getElem?_cons_zero, List.getElem?_cons_succ, Option.some.injEq, V.int.injEq, V.bl.injEq, V.ref.injEq, V.str.injEq, V.ty.injEq, List.cons.injEq, and_true, true_and, exists_eq_left, exists_eq_left', exists_and_left, exists_eq, exists_eq', and_self, decide_eq_true_eq, Bool.not_eq_true', decide_eq_false_iff_not, Bool.true_eq_false, Bool.false_eq_true, if_true, if_false, ite_true, ite_false, false_and, and_false, and_assoc, reduceCtorEq]
  -- the second if
  refine ⟨fun σ' H' => (∃ s12, σ' = [some (.ref wl), some (.int a), some (.int z), some qv, some (.int hh), some (.int d), some (.int m), some told, some bz, some (.int sec), some (.bl true), some ov, s12, none]) ∧ Fx wl H H' qv qo told (val5 a z qo hh d m) bz ∧ okV H' ov, ?_, ?_⟩
  · by_cases ha1 : 1 < a
    · rw [if_pos ha1]
      by_cases ha8 : a < 8
      · rw [if_pos ha8]
        refine ⟨by decide, ?_⟩
        by_cases c1 : a % 2 = 1
        · rw [if_pos c1]
          refine ⟨wl, rfl, X.W, fun od H7 W7 B7 ok7 el7 qh7 => ?_⟩
          have X7 := X.but W7 B7
          have oo7 : okV H7 ov := oo.but W7 B7
          try simp only [w_seq, w_next, w_ifS, w_ret, w_retN, w_drop, w_asg, w_gName, w_gSub, w_var, w_c, w_op, w_un, w_rU, w_rI0, w_rI, w_test, w_b, w_and, w_or, w_not, w_andV, w_orV, w_notV, w_if, w_cons, w_nil, w_tup, w_lst, w_call, w_cB, w_eq, w_ne, w_isN, w_notN, w_chain, w_sl, w_part, w_noPart, w_forL, w_for1, w_for2, w_K, w_for3, w_isnotB, w_raise, w_try, w_cut, w_KX,  exists_const, false_or, or_false, exists_false, w_s1, w_s2, w_s3, w_s4, w_s5, L2.start, List.map_cons, List.map_nil, List.length_cons, List.length_nil, List.replicate, List.replicate_zero, List.replicate_succ, Nat.reduceAdd, Nat.reduceSub, Nat.reduceLeDiff, List.cons_append, List.nil_append, List.append_nil, List.set_cons_zero, List.set_cons_succ, List.getElem?_cons_zero, List.getElem?_cons_succ, Option.some.injEq, V.int.injEq, V.bl.injEq, V.ref.injEq, V.str.injEq, V.ty.injEq, List.cons.injEq, and_true, true_and, exists_eq_left, exists_eq_left', exists_and_left, exists_eq, exists_eq', and_self, decide_eq_true_eq, Bool.not_eq_true', decide_eq_false_iff_not, Bool.true_eq_false, Bool.false_eq_true, if_true, if_false, ite_true, ite_false, false_and, and_false, and_assoc, reduceCtorEq]
          refine ⟨a, m, _, _, _, _, rfl, ⟨oo7, ok7, el7, trivial, trivial, .inr ⟨d, rfl⟩⟩, bad5_quiet ha1 ha8 qh7, fun H8 S8 => ?_⟩
          try simp only [w_seq, w_next, w_ifS, w_ret, w_retN, w_drop, w_asg, w_gName, w_gSub, w_var, w_c, w_op, w_un, w_rU, w_rI0, w_rI, w_test, w_b, w_and, w_or, w_not, w_andV, w_orV, w_notV, w_if, w_cons, w_nil, w_tup, w_lst, w_call, w_cB, w_eq, w_ne, w_isN, w_notN, w_chain, w_sl, w_part, w_noPart, w_forL, w_for1, w_for2, w_K, w_for3, w_isnotB, w_raise, w_try, w_cut, w_KX,  exists_const, false_or, or_false, exists_false, w_s1, w_s2, w_s3, w_s4, w_s5, L2.start, List.map_cons, List.map_nil, List.length_cons, List.length_nil, List.replicate, List.replicate_zero, List.replicate_succ, Nat.reduceAdd, Nat.reduceSub, Nat.reduceLeDiff, List.cons_append, List.nil_append, List.append_nil, List.set_cons_zero, List.set_cons_succ, List.getElem?_cons_zero, List.getElem?_cons_succ, Option.some.injEq, V.int.injEq, V.bl.injEq, V.ref.injEq, V.str.injEq, V.ty.injEq, List.cons.injEq, and_true, true_and, exists_eq_left, exists_eq_left', exists_and_left, exists_eq, exists_eq', and_self, decide_eq_true_eq, Bool.not_eq_true', decide_eq_false_iff_not, Bool.true_eq_false, Bool.false_eq_true, if_true, if_false, ite_true, ite_false, false_and, and_false, and_assoc, reduceCtorEq]
          exact ⟨X7.same S8, oo7.same S8⟩
        · rw [if_neg c1]
          by_cases c2 : sec = 0
          · rw [if_pos c2]
            refine ⟨wl, rfl, X.W, fun od H7 W7 B7 ok7 el7 qh7 => ?_⟩
            have X7 := X.but W7 B7
            have oo7 : okV H7 ov := oo.but W7 B7
            try simp only [w_seq, w_next, w_ifS, w_ret, w_retN, w_drop, w_asg, w_gName, w_gSub, w_var, w_c, w_op, w_un, w_rU, w_rI0, w_rI, w_test, w_b, w_and, w_or, w_not, w_andV, w_orV, w_notV, w_if, w_cons, w_nil, w_tup, w_lst, w_call, w_cB, w_eq, w_ne, w_isN, w_notN, w_chain, w_sl, w_part, w_noPart, w_forL, w_for1, w_for2, w_K, w_for3, w_isnotB, w_raise, w_try, w_cut, w_KX,  exists_const, false_or, or_false, exists_false, w_s1, w_s2, w_s3, w_s4, w_s5, L2.start, List.map_cons, List.map_nil, List.length_cons, List.length_nil, List.replicate, List.replicate_zero, List.replicate_succ, Nat.reduceAdd, Nat.reduceSub, Nat.reduceLeDiff, List.cons_append, List.nil_append, List.append_nil, List.set_cons_zero, List.set_cons_succ, List.getElem?_cons_zero, List.getElem?_cons_succ, Option.some.injEq, V.int.injEq, V.bl.injEq, V.ref.injEq, V.str.injEq, V.ty.injEq, List.cons.injEq, and_true, true_and, exists_eq_left, exists_eq_left', exists_and_left, exists_eq, exists_eq', and_self, decide_eq_true_eq, Bool.not_eq_true', decide_eq_false_iff_not, Bool.true_eq_false, Bool.false_eq_true, if_true, if_false, ite_true, ite_false, false_and, and_false, and_assoc, reduceCtorEq]
            refine ⟨a, m, _, _, _, _, rfl, ⟨oo7, ok7, el7, trivial, trivial, .inr ⟨d, rfl⟩⟩, bad5_quiet ha1 ha8 qh7, fun H8 S8 => ?_⟩
            try simp only [w_seq, w_next, w_ifS, w_ret, w_retN, w_drop, w_asg, w_gName, w_gSub, w_var, w_c, w_op, w_un, w_rU, w_rI0, w_rI, w_test, w_b, w_and, w_or, w_not, w_andV, w_orV, w_notV, w_if, w_cons, w_nil, w_tup, w_lst, w_call, w_cB, w_eq, w_ne, w_isN, w_notN, w_chain, w_sl, w_part, w_noPart, w_forL, w_for1, w_for2, w_K, w_for3, w_isnotB, w_raise, w_try, w_cut, w_KX,  exists_const, false_or, or_false, exists_false, w_s1, w_s2, w_s3, w_s4, w_s5, L2.start, List.map_cons, List.map_nil, List.length_cons, List.length_nil, List.replicate, List.replicate_zero, List.replicate_succ, Nat.reduceAdd, Nat.reduceSub, Nat.reduceLeDiff, List.cons_append, List.nil_append, List.append_nil, List.set_cons_zero, List.set_cons_succ, List.getElem?_cons_zero, List.getElem?_cons_succ, Option.some.injEq, V.int.injEq, V.bl.injEq, V.ref.injEq, V.str.injEq, V.ty.injEq, List.cons.injEq, and_true, true_and, exists_eq_left, exists_eq_left', exists_and_left, exists_eq, exists_eq', and_self, decide_eq_true_eq, Bool.not_eq_true', decide_eq_false_iff_not, Bool.true_eq_false, Bool.false_eq_true, if_true, if_false, ite_true, ite_false, false_and, and_false, and_assoc, reduceCtorEq]
            exact ⟨X7.same S8, oo7.same S8⟩
          · rw [if_neg c2]
            try simp only [w_seq, w_next, w_ifS, w_ret, w_retN, w_drop, w_asg, w_gName, w_gSub, w_var, w_c, w_op, w_un, w_rU, w_rI0, w_rI, w_test, w_b, w_and, w_or, w_not, w_andV, w_orV, w_notV, w_if, w_cons, w_nil, w_tup, w_lst, w_call, w_cB, w_eq, w_ne, w_isN, w_notN, w_chain, w_sl, w_part, w_noPart, w_forL, w_for1, w_for2, w_K, w_for3, w_isnotB, w_raise, w_try, w_cut, w_KX,  exists_const, false_or, or_false, exists_false, w_s1, w_s2, w_s3, w_s4, w_s5, L2.start, List.map_cons, List.map_nil, List.length_cons, List.length_nil, List.replicate, List.replicate_zero, List.replicate_succ, Nat.reduceAdd, Nat.reduceSub, Nat.reduceLeDiff, List.cons_append, List.nil_append, List.append_nil, List.set_cons_zero, List.set_cons_succ, List.getElem?_cons_zero, List.getElem?_cons_succ, Option.some.injEq, V.int.injEq, V.bl.injEq, V.ref.injEq, V.str.injEq, V.ty.injEq, List.cons.injEq, and_true, true_and, exists_eq_left, exists_eq_left', exists_and_left, exists_eq, exists_eq', and_self, decide_eq_true_eq, Bool.not_eq_true', decide_eq_false_iff_not, Bool.true_eq_false, Bool.false_eq_true, if_true, if_false, ite_true, ite_false, false_and, and_false, and_assoc, reduceCtorEq]
            exact ⟨X, oo⟩
      · rw [if_neg ha8]
        try simp only [w_seq, w_next, w_ifS, w_ret, w_retN, w_drop, w_asg, w_gName, w_gSub, w_var, w_c, w_op, w_un, w_rU, w_rI0, w_rI, w_test, w_b, w_and, w_or, w_not, w_andV, w_orV, w_notV, w_if, w_cons, w_nil, w_tup, w_lst, w_call, w_cB, w_eq, w_ne, w_isN, w_notN, w_chain, w_sl, w_part, w_noPart, w_forL, w_for1, w_for2, w_K, w_for3, w_isnotB, w_raise, w_try, w_cut, w_KX,  exists_const, false_or, or_false, exists_false, w_s1, w_s2, w_s3, w_s4, w_s5, L2.start, List.map_cons, List.map_nil, List.length_cons, List.length_nil, List.replicate, List.replicate_zero, List.replicate_succ, Nat.reduceAdd, Nat.reduceSub, Nat.reduceLeDiff, List.cons_append, List.nil_append, List.append_nil, List.set_cons_zero, List.set_cons_succ, List.getElem?_cons_zero, List.getElem?_cons_succ, Option.some.injEq, V.int.injEq, V.bl.injEq, V.ref.injEq, V.str.injEq, V.ty.injEq, List.cons.injEq, and_true, true_and, exists_eq_left, exists_eq_left', exists_and_left, exists_eq, exists_eq', and_self, decide_eq_true_eq, Bool.not_eq_true', decide_eq_false_iff_not, Bool.true_eq_false, Bool.false_eq_true, if_true, if_false, ite_true, ite_false, false_and, and_false, and_assoc, reduceCtorEq]
        exact ⟨X, oo⟩
    · rw [if_neg ha1]
      try simp only [w_seq, w_next, w_ifS, w_ret, w_retN, w_drop, w_asg, w_gName, w_gSub, w_var, w_c, w_op, w_un, w_rU, w_rI0, w_rI, w_test, w_b, w_and, w_or, w_not, w_andV, w_orV, w_notV, w_if, w_cons, w_nil, w_tup, w_lst, w_call, w_cB, w_eq, w_ne, w_isN, w_notN, w_chain, w_sl, w_part, w_noPart, w_forL, w_for1, w_for2, w_K, w_for3, w_isnotB, w_raise, w_try, w_cut, w_KX,  exists_const, false_or, or_false, exists_false, w_s1, w_s2, w_s3, w_s4, w_s5, L2.start, List.map_cons, List.map_nil, List.length_cons, List.length_nil, List.replicate, List.replicate_zero, List.replicate_succ, Nat.reduceAdd, Nat.reduceSub, Nat.reduceLeDiff, List.cons_append, List.nil_append, List.append_nil, List.set_cons_zero, List.set_cons_succ, List.getElem?_cons_zero, List.getElem?_cons_succ, Option.some.injEq, V.int.injEq, V.bl.injEq, V.ref.injEq, V.str.injEq, V.ty.injEq, List.cons.injEq, and_true, true_and, exists_eq_left, exists_eq_left', exists_and_left, exists_eq, exists_eq', and_self, decide_eq_true_eq, Bool.not_eq_true', decide_eq_false_iff_not, Bool.true_eq_false, Bool.false_eq_true, if_true, if_false, ite_true, ite_false, false_and, and_false, and_assoc, reduceCtorEq]
      exact ⟨X, oo⟩
  clear oo X
  rintro σ' H13 ⟨⟨s12, rfl⟩, X, oo⟩
  try simp only [w_seq, w_next, w_ifS, w_ret, w_retN, w_drop, w_asg, w_gName, w_gSub, w_var, w_c, w_op, w_un, w_rU, w_rI0, w_rI, w_test, w_b, w_and, w_or, w_not, w_andV, w_orV, w_notV, w_if, w_cons, w_nil, w_tup, w_lst, w_call, w_cB, w_eq, w_ne, w_isN, w_notN, w_chain, w_sl, w_part, w_noPart, w_forL, w_for1, w_for2, w_K, w_for3, w_isnotB, w_raise, w_try, w_cut, w_KX,  exists_const, false_or, or_false, exists_false, w_s1, w_s2, w_s3, w_s4, w_s5, L2.start, List.map_cons, List.map_nil, List.length_cons, List.length_nil, List.replicate, List.replicate_zero, List.replicate_succ, Nat.reduceAdd, Nat.reduceSub, Nat.reduceLeDiff, List.cons_append, List.nil_append, List.append_nil, List.set_cons_zero, List.set_cons_succ, List.getElem?_cons_zero, List.getElem?_cons_succ, Option.some.injEq, V.int.injEq, V.bl.injEq, V.ref.injEq, V.str.injEq, V.ty.injEq, List.cons.injEq, and_true, true_and, exists_eq_left, exists_eq_left', exists_and_left, exists_eq, exists_eq', and_self, decide_eq_true_eq, Bool.not_eq_true', decide_eq_false_iff_not, Bool.true_eq_false, Bool.false_eq_true, if_true, if_false, ite_true, ite_false, false_and, and_false, and_assoc, reduceCtorEq]
  -- the third if
  refine ⟨fun σ' H' => (∃ s12 s13, σ' = [some (.ref wl), some (.int a), some (.int z), some qv, some (.int hh), some (.int d), some (.int m), some told, some bz, some (.int sec), some (.bl true), some ov, s12, s13]) ∧ Fx wl H H' qv qo told (val5 a z qo hh d m) bz, ?_, ?_⟩
  · by_cases ha7 : 7 < a
    · rw [if_pos ha7]
      refine ⟨by decide, ?_⟩
      by_cases c1 : a % 2 = 1
      · rw [if_pos c1]
        refine ⟨wl, _, rfl, X.W, by decide, by decide, fun x1 H7 W7 B7 ok7 bt7 => ?_⟩
        have X7 := X.but W7 B7
        have oo7 : okV H7 ov := oo.but W7 B7
        try simp only [w_seq, w_next, w_ifS, w_ret, w_retN, w_drop, w_asg, w_gName, w_gSub, w_var, w_c, w_op, w_un, w_rU, w_rI0, w_rI, w_test, w_b, w_and, w_or, w_not, w_andV, w_orV, w_notV, w_if, w_cons, w_nil, w_tup, w_lst, w_call, w_cB, w_eq, w_ne, w_isN, w_notN, w_chain, w_sl, w_part, w_noPart, w_forL, w_for1, w_for2, w_K, w_for3, w_isnotB, w_raise, w_try, w_cut, w_KX,  exists_const, false_or, or_false, exists_false, w_s1, w_s2, w_s3, w_s4, w_s5, L2.start, List.map_cons, List.map_nil, List.length_cons, List.length_nil, List.replicate, List.replicate_zero, List.replicate_succ, Nat.reduceAdd, Nat.reduceSub, Nat.reduceLeDiff, List.cons_append, List.nil_append, List.append_nil, List.set_cons_zero, List.set_cons_succ, List.getElem?_cons_zero, List.getElem?_cons_succ, Option.some.injEq, V.int.injEq, V.bl.injEq, V.ref.injEq, V.str.injEq, V.ty.injEq, List.cons.injEq, and_true, true_and, exists_eq_left, exists_eq_left', exists_and_left, exists_eq, exists_eq', and_self, decide_eq_true_eq, Bool.not_eq_true', decide_eq_false_iff_not, Bool.true_eq_false, Bool.false_eq_true, if_true, if_false, ite_true, ite_false, false_and, and_false, and_assoc, reduceCtorEq]
        refine ⟨wl, _, rfl, W7, by decide, by decide, fun x2 H8 W8 B8 ok8 bt8 => ?_⟩
        have X8 := X7.but W8 B8
        have oo8 : okV H8 ov := oo7.but W8 B8
        have ok78 := ok7.but W8 B8
        try simp only [w_seq, w_next, w_ifS, w_ret, w_retN, w_drop, w_asg, w_gName, w_gSub, w_var, w_c, w_op, w_un, w_rU, w_rI0, w_rI, w_test, w_b, w_and, w_or, w_not, w_andV, w_orV, w_notV, w_if, w_cons, w_nil, w_tup, w_lst, w_call, w_cB, w_eq, w_ne, w_isN, w_notN, w_chain, w_sl, w_part, w_noPart, w_forL, w_for1, w_for2, w_K, w_for3, w_isnotB, w_raise, w_try, w_cut, w_KX,  exists_const, false_or, or_false, exists_false, w_s1, w_s2, w_s3, w_s4, w_s5, L2.start, List.map_cons, List.map_nil, List.length_cons, List.length_nil, List.replicate, List.replicate_zero, List.replicate_succ, Nat.reduceAdd, Nat.reduceSub, Nat.reduceLeDiff, List.cons_append, List.nil_append, List.append_nil, List.set_cons_zero, List.set_cons_succ, List.getElem?_cons_zero, List.getElem?_cons_succ, Option.some.injEq, V.int.injEq, V.bl.injEq, V.ref.injEq, V.str.injEq, V.ty.injEq, List.cons.injEq, and_true, true_and, exists_eq_left, exists_eq_left', exists_and_left, exists_eq, exists_eq', and_self, decide_eq_true_eq, Bool.not_eq_true', decide_eq_false_iff_not, Bool.true_eq_false, Bool.false_eq_true, if_true, if_false, ite_true, ite_false, false_and, and_false, and_assoc, reduceCtorEq]
        refine ⟨sz8 (by decide), fun pb hpb => ?_⟩
        have S9 := same_new hpb (.lst [x1, x2])
        have e9 : upd H8 pb (.lst [x1, x2]) pb = _ := upd_same
        have X9 := X8.same S9
        have oo9 := oo8.same S9
        have ok79 := ok78.same S9
        have ok89 := ok8.same S9
        generalize upd H8 pb (.lst [x1, x2]) = H9 at *
        try simp only [w_seq, w_next, w_ifS, w_ret, w_retN, w_drop, w_asg, w_gName, w_gSub, w_var, w_c, w_op, w_un, w_rU, w_rI0, w_rI, w_test, w_b, w_and, w_or, w_not, w_andV, w_orV, w_notV, w_if, w_cons, w_nil, w_tup, w_lst, w_call, w_cB, w_eq, w_ne, w_isN, w_notN, w_chain, w_sl, w_part, w_noPart, w_forL, w_for1, w_for2, w_K, w_for3, w_isnotB, w_raise, w_try, w_cut, w_KX,  exists_const, false_or, or_false, exists_false, w_s1, w_s2, w_s3, w_s4, w_s5, L2.start, List.map_cons, List.map_nil, List.length_cons, List.length_nil, List.replicate, List.replicate_zero, List.replicate_succ, Nat.reduceAdd, Nat.reduceSub, Nat.reduceLeDiff, List.cons_append, List.nil_append, List.append_nil, List.set_cons_zero, List.set_cons_succ, List.getElem?_cons_zero, List.getElem?_cons_succ, Option.some.injEq, V.int.injEq, V.bl.injEq, V.ref.injEq, V.str.injEq, V.ty.injEq, List.cons.injEq, and_true, true_and, exists_eq_left, exists_eq_left', exists_and_left, exists_eq, exists_eq', and_self, decide_eq_true_eq, Bool.not_eq_true', decide_eq_false_iff_not, Bool.true_eq_false, Bool.false_eq_true, if_true, if_false, ite_true, ite_false, false_and, and_false, and_assoc, reduceCtorEq]
        refine ixl (SqL.of e9) (v := x1) rfl ?_
        refine ixl (SqL.of e9) (v := x2) rfl ?_
        refine ⟨a, m, _, _, _, _, rfl, ⟨oo9, X9.g.ok.1, X9.g.ok.2.1, ok79, ok89, .inl (by omega)⟩, bad5_min ha7 bt7 bt8, fun H10 S10 => ?_⟩
        try simp only [w_seq, w_next, w_ifS, w_ret, w_retN, w_drop, w_asg, w_gName, w_gSub, w_var, w_c, w_op, w_un, w_rU, w_rI0, w_rI, w_test, w_b, w_and, w_or, w_not, w_andV, w_orV, w_notV, w_if, w_cons, w_nil, w_tup, w_lst, w_call, w_cB, w_eq, w_ne, w_isN, w_notN, w_chain, w_sl, w_part, w_noPart, w_forL, w_for1, w_for2, w_K, w_for3, w_isnotB, w_raise, w_try, w_cut, w_KX,  exists_const, false_or, or_false, exists_false, w_s1, w_s2, w_s3, w_s4, w_s5, L2.start, List.map_cons, List.map_nil, List.length_cons, List.length_nil, List.replicate, List.replicate_zero, List.replicate_succ, Nat.reduceAdd, Nat.reduceSub, Nat.reduceLeDiff, List.cons_append, List.nil_append, List.append_nil, List.set_cons_zero, List.set_cons_succ, List.getElem?_cons_zero, List.getElem?_cons_succ, Option.some.injEq, V.int.injEq, V.bl.injEq, V.ref.injEq, V.str.injEq, V.ty.injEq, List.cons.injEq, and_true, true_and, exists_eq_left, exists_eq_left', exists_and_left, exists_eq, exists_eq', and_self, decide_eq_true_eq, Bool.not_eq_true', decide_eq_false_iff_not, Bool.true_eq_false, Bool.false_eq_true, if_true, if_false, ite_true, ite_false, false_and, and_false, and_assoc, reduceCtorEq]
        exact X9.same S10
      · rw [if_neg c1]
        by_cases c2 : sec = 0
        · rw [if_pos c2]
          refine ⟨wl, _, rfl, X.W, by decide, by decide, fun x1 H7 W7 B7 ok7 bt7 => ?_⟩
          have X7 := X.but W7 B7
          have oo7 : okV H7 ov := oo.but W7 B7
          try simp only [w_seq, w_next, w_ifS, w_ret, w_retN, w_drop, w_asg, w_gName, w_gSub, w_var, w_c, w_op, w_un, w_rU, w_rI0, w_rI, w_test, w_b, w_and, w_or, w_not, w_andV, w_orV, w_notV, w_if, w_cons, w_nil, w_tup, w_lst, w_call, w_cB, w_eq, w_ne, w_isN, w_notN, w_chain, w_sl, w_part, w_noPart, w_forL, w_for1, w_for2, w_K, w_for3, w_isnotB, w_raise, w_try, w_cut, w_KX,  exists_const, false_or, or_false, exists_false, w_s1, w_s2, w_s3, w_s4, w_s5, L2.start, List.map_cons, List.map_nil, List.length_cons, List.length_nil, List.replicate, List.replicate_zero, List.replicate_succ, Nat.reduceAdd, Nat.reduceSub, Nat.reduceLeDiff, List.cons_append, List.nil_append, List.append_nil, List.set_cons_zero, List.set_cons_succ, List.getElem?_cons_zero, List.getElem?_cons_succ, Option.some.injEq, V.int.injEq, V.bl.injEq, V.ref.injEq, V.str.injEq, V.ty.injEq, List.cons.injEq, and_true, true_and, exists_eq_left, exists_eq_left', exists_and_left, exists_eq, exists_eq', and_self, decide_eq_true_eq, Bool.not_eq_true', decide_eq_false_iff_not, Bool.true_eq_false, Bool.false_eq_true, if_true, if_false, ite_true, ite_false, false_and, and_false, and_assoc, reduceCtorEq]
          refine ⟨wl, _, rfl, W7, by decide, by decide, fun x2 H8 W8 B8 ok8 bt8 => ?_⟩
          have X8 := X7.but W8 B8
          have oo8 : okV H8 ov := oo7.but W8 B8
          have ok78 := ok7.but W8 B8
          try simp only [w_seq, w_next, w_ifS, w_ret, w_retN, w_drop, w_asg, w_gName, w_gSub, w_var, w_c, w_op, w_un, w_rU, w_rI0, w_rI, w_test, w_b, w_and, w_or, w_not, w_andV, w_orV, w_notV, w_if, w_cons, w_nil, w_tup, w_lst, w_call, w_cB, w_eq, w_ne, w_isN, w_notN, w_chain, w_sl, w_part, w_noPart, w_forL, w_for1, w_for2, w_K, w_for3, w_isnotB, w_raise, w_try, w_cut, w_KX,  exists_const, false_or, or_false, exists_false, w_s1, w_s2, w_s3, w_s4, w_s5, L2.start, List.map_cons, List.map_nil, List.length_cons, List.length_nil, List.replicate, List.replicate_zero, List.replicate_succ, Nat.reduceAdd, Nat.reduceSub, Nat.reduceLeDiff, List.cons_append, List.nil_append, List.append_nil, List.set_cons_zero, List.set_cons_succ, List.getElem?_cons_zero, List.getElem?_cons_succ, Option.some.injEq, V.int.injEq, V.bl.injEq, V.ref.injEq, V.str.injEq, V.ty.injEq, List.cons.injEq, and_true, true_and, exists_eq_left, exists_eq_left', exists_and_left, exists_eq, exists_eq', and_self, decide_eq_true_eq, Bool.not_eq_true', decide_eq_false_iff_not, Bool.true_eq_false, Bool.false_eq_true, if_true, if_false, ite_true, ite_false, false_and, and_false, and_assoc, reduceCtorEq]
          refine ⟨sz8 (by decide), fun pb hpb => ?_⟩
          have S9 := same_new hpb (.lst [x1, x2])
          have e9 : upd H8 pb (.lst [x1, x2]) pb = _ := upd_same
          have X9 := X8.same S9
          have oo9 := oo8.same S9
          have ok79 := ok78.same S9
          have ok89 := ok8.same S9
          generalize upd H8 pb (.lst [x1, x2]) = H9 at *
          try simp only [w_seq, w_next, w_ifS, w_ret, w_retN, w_drop, w_asg, w_gName, w_gSub, w_var, w_c, w_op, w_un, w_rU, w_rI0, w_rI, w_test, w_b, w_and, w_or, w_not, w_andV, w_orV, w_notV, w_if, w_cons, w_nil, w_tup, w_lst, w_call, w_cB, w_eq, w_ne, w_isN, w_notN, w_chain, w_sl, w_part, w_noPart, w_forL, w_for1, w_for2, w_K, w_for3, w_isnotB, w_raise, w_try, w_cut, w_KX,  exists_const, false_or, or_false, exists_false, w_s1, w_s2, w_s3, w_s4, w_s5, L2.start, List.map_cons, List.map_nil, List.length_cons, List.length_nil, List.replicate, List.replicate_zero, List.replicate_succ, Nat.reduceAdd, Nat.reduceSub, Nat.reduceLeDiff, List.cons_append, List.nil_append, List.append_nil, List.set_cons_zero, List.set_cons_succ, List.getElem?_cons_zero, List.getElem?_cons_succ, Option.some.injEq, V.int.injEq, V.bl.injEq, V.ref.injEq, V.str.injEq, V.ty.injEq, List.cons.injEq, and_true, true_and, exists_eq_left, exists_eq_left', exists_and_left, exists_eq, exists_eq', and_self, decide_eq_true_eq, Bool.not_eq_true', decide_eq_false_iff_not, Bool.true_eq_false, Bool.false_eq_true, if_true, if_false, ite_true, ite_false, false_and, and_false, and_assoc, reduceCtorEq]
          refine ixl (SqL.of e9) (v := x1) rfl ?_
          refine ixl (SqL.of e9) (v := x2) rfl ?_
          refine ⟨a, m, _, _, _, _, rfl, ⟨oo9, X9.g.ok.1, X9.g.ok.2.1, ok79, ok89, .inl (by omega)⟩, bad5_min ha7 bt7 bt8, fun H10 S10 => ?_⟩
          try simp only [w_seq, w_next, w_ifS, w_ret, w_retN, w_drop, w_asg, w_gName, w_gSub, w_var, w_c, w_op, w_un, w_rU, w_rI0, w_rI, w_test, w_b, w_and, w_or, w_not, w_andV, w_orV, w_notV, w_if, w_cons, w_nil, w_tup, w_lst, w_call, w_cB, w_eq, w_ne, w_isN, w_notN, w_chain, w_sl, w_part, w_noPart, w_forL, w_for1, w_for2, w_K, w_for3, w_isnotB, w_raise, w_try, w_cut, w_KX,  exists_const, false_or, or_false, exists_false, w_s1, w_s2, w_s3, w_s4, w_s5, L2.start, List.map_cons, List.map_nil, List.length_cons, List.length_nil, List.replicate, List.replicate_zero, List.replicate_succ, Nat.reduceAdd, Nat.reduceSub, Nat.reduceLeDiff, List.cons_append, List.nil_append, List.append_nil, List.set_cons_zero, List.set_cons_succ, List.getElem?_cons_zero, List.getElem?_cons_succ, Option.some.injEq, V.int.injEq, V.bl.injEq, V.ref.injEq, V.str.injEq, V.ty.injEq, List.cons.injEq, and_true, true_and, exists_eq_left, exists_eq_left', exists_and_left, exists_eq, exists_eq', and_self, decide_eq_true_eq, Bool.not_eq_true', decide_eq_false_iff_not, Bool.true_eq_false, Bool.false_eq_true, if_true, if_false, ite_true, ite_false, false_and, and_false, and_assoc, reduceCtorEq]
          exact X9.same S10
        · rw [if_neg c2]
          try simp only [w_seq, w_next, w_ifS, w_ret, w_retN, w_drop, w_asg, w_gName, w_gSub, w_var, w_c, w_op, w_un, w_rU, w_rI0, w_rI, w_test, w_b, w_and, w_or, w_not, w_andV, w_orV, w_notV, w_if, w_cons, w_nil, w_tup, w_lst, w_call, w_cB, w_eq, w_ne, w_isN, w_notN, w_chain, w_sl, w_part, w_noPart, w_forL, w_for1, w_for2, w_K, w_for3, w_isnotB, w_raise, w_try, w_cut, w_KX,  exists_const, false_or, or_false, exists_false, w_s1, w_s2, w_s3, w_s4, w_s5, L2.start, List.map_cons, List.map_nil, List.length_cons, List.length_nil, List.replicate, List.replicate_zero, List.replicate_succ, Nat.reduceAdd, Nat.reduceSub, Nat.reduceLeDiff, List.cons_append, List.nil_append, List.append_nil, List.set_cons_zero, List.set_cons_succ, List.getElem?_cons_zero, List.getElem?_cons_succ, Option.some.injEq, V.int.injEq, V.bl.injEq, V.ref.injEq, V.str.injEq, V.ty.injEq, List.cons.injEq, and_true, true_and, exists_eq_left, exists_eq_left', exists_and_left, exists_eq, exists_eq', and_self, decide_eq_true_eq, Bool.not_eq_true', decide_eq_false_iff_not, Bool.true_eq_false, Bool.false_eq_true, if_true, if_false, ite_true, ite_false, false_and, and_false, and_assoc, reduceCtorEq]
          exact X
    · rw [if_neg ha7]
      try simp only [w_seq, w_next, w_ifS, w_ret, w_retN, w_drop, w_asg, w_gName, w_gSub, w_var, w_c, w_op, w_un, w_rU, w_rI0, w_rI, w_test, w_b, w_and, w_or, w_not, w_andV, w_orV, w_notV, w_if, w_cons, w_nil, w_tup, w_lst, w_call, w_cB, w_eq, w_ne, w_isN, w_notN, w_chain, w_sl, w_part, w_noPart, w_forL, w_for1, w_for2, w_K, w_for3, w_isnotB, w_raise, w_try, w_cut, w_KX,  exists_const, false_or, or_false, exists_false, w_s1, w_s2, w_s3, w_s4, w_s5, L2.start, List.map_cons, List.map_nil, List.length_cons, List.length_nil, List.replicate, List.replicate_zero, List.replicate_succ, Nat.reduceAdd, Nat.reduceSub, Nat.reduceLeDiff, List.cons_append, List.nil_append, List.append_nil, List.set_cons_zero, List.set_cons_succ, List.getElem?_cons_zero, List.getElem?_cons_succ, Option.some.injEq, V.int.injEq, V.bl.injEq, V.ref.injEq, V.str.injEq, V.ty.injEq, List.cons.injEq, and_true, true_and, exists_eq_left, exists_eq_left', exists_and_left, exists_eq, exists_eq', and_self, decide_eq_true_eq, Bool.not_eq_true', decide_eq_false_iff_not, Bool.true_eq_false, Bool.false_eq_true, if_true, if_false, ite_true, ite_false, false_and, and_false, and_assoc, reduceCtorEq]
      exact X
  clear oo X
  rintro σ' H14 ⟨⟨s12, s13, rfl⟩, X⟩
  try simp only [w_seq, w_next, w_ifS, w_ret, w_retN, w_drop, w_asg, w_gName, w_gSub, w_var, w_c, w_op, w_un, w_rU, w_rI0, w_rI, w_test, w_b, w_and, w_or, w_not, w_andV, w_orV, w_notV, w_if, w_cons, w_nil, w_tup, w_lst, w_call, w_cB, w_eq, w_ne, w_isN, w_notN, w_chain, w_sl, w_part, w_noPart, w_forL, w_for1, w_for2, w_K, w_for3, w_isnotB, w_raise, w_try, w_cut, w_KX,  exists_const, false_or, or_false, exists_false, w_s1, w_s2, w_s3, w_s4, w_s5, L2.start, List.map_cons, List.map_nil, List.length_cons, List.length_nil, List.replicate, List.replicate_zero, List.replicate_succ, Nat.reduceAdd, Nat.reduceSub, Nat.reduceLeDiff, List.cons_append, List.nil_append, List.append_nil, List.set_cons_zero, List.set_cons_succ, List.getElem?_cons_zero, List.getElem?_cons_succ, Option.some.injEq, V.int.injEq, V.bl.injEq, V.ref.injEq, V.str.injEq, V.ty.injEq, List.cons.injEq, and_true, true_and, exists_eq_left, exists_eq_left', exists_and_left, exists_eq, exists_eq', and_self, decide_eq_true_eq, Bool.not_eq_true', decide_eq_false_iff_not, Bool.true_eq_false, Bool.false_eq_true, if_true, if_false, ite_true, ite_false, false_and, and_false, and_assoc, reduceCtorEq]
  refine ⟨a, m, _, _, _, _, rfl, ⟨trivial, X.g.ok.1, X.g.ok.2.1, trivial, trivial, .inr ⟨d, rfl⟩⟩, .inl ⟨z, qo, hh, d, GD X.g, fun v2 H15 S15 t15 => ?_⟩⟩
  have X := X.same S15
  have t0 := X.t
  try simp only [w_seq, w_next, w_ifS, w_ret, w_retN, w_drop, w_asg, w_gName, w_gSub, w_var, w_c, w_op, w_un, w_rU, w_rI0, w_rI, w_test, w_b, w_and, w_or, w_not, w_andV, w_orV, w_notV, w_if, w_cons, w_nil, w_tup, w_lst, w_call, w_cB, w_eq, w_ne, w_isN, w_notN, w_chain, w_sl, w_part, w_noPart, w_forL, w_for1, w_for2, w_K, w_for3, w_isnotB, w_raise, w_try, w_cut, w_KX,  exists_const, false_or, or_false, exists_false, w_s1, w_s2, w_s3, w_s4, w_s5, L2.start, List.map_cons, List.map_nil, List.length_cons, List.length_nil, List.replicate, List.replicate_zero, List.replicate_succ, Nat.reduceAdd, Nat.reduceSub, Nat.reduceLeDiff, List.cons_append, List.nil_append, List.append_nil, List.set_cons_zero, List.set_cons_succ, List.getElem?_cons_zero, List.getElem?_cons_succ, Option.some.injEq, V.int.injEq, V.bl.injEq, V.ref.injEq, V.str.injEq, V.ty.injEq, List.cons.injEq, and_true, true_and, exists_eq_left, exists_eq_left', exists_and_left, exists_eq, exists_eq', and_self, decide_eq_true_eq, Bool.not_eq_true', decide_eq_false_iff_not, Bool.true_eq_false, Bool.false_eq_true, if_true, if_false, ite_true, ite_false, false_and, and_false, and_assoc, reduceCtorEq]
  generalize val5 a z qo hh d m = r5 at *
  cases r5 with
  | tup ns =>
    obtain ⟨pa, rfl, ea⟩ := t15
    obtain ⟨pb, rfl, eb⟩ := t0
    refine .inr ⟨pa, pb, ns, ns, rfl, rfl, SqT.of ea, SqT.of eb, ?_⟩
    rw [decide_eq_true rfl]
    exact q _ X.B
  | b c =>
    cases (show v2 = .bl c from t15)
    cases (show told = .bl c from t0)
    refine .inl ⟨rfl, ?_⟩
    rw [decide_eq_true rfl]
    exact q _ X.B
  | i n =>
    cases (show v2 = .int n from t15)
    cases (show told = .int n from t0)
    refine .inl ⟨rfl, ?_⟩
    rw [decide_eq_true rfl]
    exact q _ X.B

theorem ok_law (B : Bt K mg C CB t0 t1 aNoHappening aNoFit aNoWish aNoRoad aNoTime aNoRow aBackward aNoNumber aFallen aNoBook aNoText) (C_law_cell_at : CalX P w K mg base "_law_cell_at" ["_law_script", "_law_k"] 1 (sp_law_cell_at K)) (C_law_right : CalX P w K mg base "_law_right" ["_law_well_here"] 10 (sp_law_right C)) (C_law_well : CalX P w K mg base "_law_well" ["_law_cell"] 1 (sp_law_well C)) (F : Fun K "law" "law" s_law f fd) : FnOk P w K mg base CX0 11 f fd ["_law_script"] ((sp_law K)) := by
  refine F.ok sc_law (fun vs H Q E h => ?_) (fun cdv A outer s H vs Q E hr h => ?_)
  · obtain ⟨a, ns, rfl, _⟩ := h
    rfl
  obtain ⟨a, ns, rfl, hS, h63, q⟩ := h
  refine ⟨_, (pss_cons (ps_for PassesOwn.never rfl (pi_list (pe_op op_cat (pe_lst (pa_cons (pe_calN C_law_cell_at (hr.mono (by decide)) rfl (pa_cons (pv 0) (pa_cons pe_int pa_nil))) pa_nil)) (pe_slice sl_list (pv 0) (po_some pe_int) (po_some pe_int)))) (pg_name (i := 1) sc_law.nd rfl (Or.inl rfl)) (pss_one (ps_if (pt_not (pt_val (pe_calN C_law_right (hr.mono (by decide)) rfl (pa_cons (pe_calN C_law_well (hr.mono (by decide)) rfl (pa_cons (pv 1) pa_nil)) pa_nil)))) (pss_one (ps_ret pe_bl)) pss_nil))) (pss_one (ps_ret pe_bl))), ?_⟩
  try simp only [w_seq, w_next, w_ifS, w_ret, w_retN, w_drop, w_asg, w_gName, w_gSub, w_var, w_c, w_op, w_un, w_rU, w_rI0, w_rI, w_test, w_b, w_and, w_or, w_not, w_andV, w_orV, w_notV, w_if, w_cons, w_nil, w_tup, w_lst, w_call, w_cB, w_eq, w_ne, w_isN, w_notN, w_chain, w_sl, w_part, w_noPart, w_forL, w_for1, w_for2, w_K, w_for3, w_isnotB, w_raise, w_try, w_cut, w_KX,  exists_const, false_or, or_false, exists_false, w_s1, w_s2, w_s3, w_s4, w_s5, L2.start, List.map_cons, List.map_nil, List.length_cons, List.length_nil, List.replicate, List.replicate_zero, List.replicate_succ, Nat.reduceAdd, Nat.reduceSub, Nat.reduceLeDiff, List.cons_append, List.nil_append, List.append_nil, List.set_cons_zero, List.set_cons_succ, List.getElem?_cons_zero, List.getElem?_cons_succ, Option.some.injEq, V.int.injEq, V.bl.injEq, V.ref.injEq, V.str.injEq, V.ty.injEq, List.cons.injEq, and_true, true_and, exists_eq_left, exists_eq_left', exists_and_left, exists_eq, exists_eq', and_self, decide_eq_true_eq, Bool.not_eq_true', decide_eq_false_iff_not, Bool.true_eq_false, Bool.false_eq_true, if_true, if_false, ite_true, ite_false, false_and, and_false, and_assoc, reduceCtorEq]
  refine ⟨a, ns, 0, rfl, hS, by decide, fun c0 => ?_⟩
  refine ⟨sz8 (by decide), fun p hp => ?_⟩
  refine ⟨a, _, rfl, (same_new hp _).seq hS, fun p2 hp2 => ?_⟩
  rw [cutI]
  refine ⟨p, p2, [.int c0], _, rfl, rfl, ?_, upd_same, ?_, fun l hl => ?_⟩
  · rw [upd_ne (ne_of_none upd_same hp2)]; exact upd_same
  · have := cutI_len ns 1 40
    simp only [List.length_cons, List.length_nil, List.length_map]
    exact sz8 (by omega)
  refine ⟨l, rfl, ⟨_, SqL.of upd_same⟩, ?_⟩
  refine ForL.by (xs := ([c0] ++ cutL ns 1 40).map V.int) (fun _ σ H1 => (∃ s1, σ = [some (.ref a), s1]) ∧ H1 l = some (.lst (([c0] ++ cutL ns 1 40).map V.int))) ⟨⟨_, rfl⟩, by rw [List.map_append]; exact upd_same⟩ (fun i σ H1 _ h => SqL.of h.2) ?_ ?_
  · rintro i x σ H1 hx ⟨⟨s1, rfl⟩, h1⟩
    obtain ⟨c, rfl⟩ := int_at hx
    try simp only [w_seq, w_next, w_ifS, w_ret, w_retN, w_drop, w_asg, w_gName, w_gSub, w_var, w_c, w_op, w_un, w_rU, w_rI0, w_rI, w_test, w_b, w_and, w_or, w_not, w_andV, w_orV, w_notV, w_if, w_cons, w_nil, w_tup, w_lst, w_call, w_cB, w_eq, w_ne, w_isN, w_notN, w_chain, w_sl, w_part, w_noPart, w_forL, w_for1, w_for2, w_K, w_for3, w_isnotB, w_raise, w_try, w_cut, w_KX,  exists_const, false_or, or_false, exists_false, w_s1, w_s2, w_s3, w_s4, w_s5, L2.start, List.map_cons, List.map_nil, List.length_cons, List.length_nil, List.replicate, List.replicate_zero, List.replicate_succ, Nat.reduceAdd, Nat.reduceSub, Nat.reduceLeDiff, List.cons_append, List.nil_append, List.append_nil, List.set_cons_zero, List.set_cons_succ, List.getElem?_cons_zero, List.getElem?_cons_succ, Option.some.injEq, V.int.injEq, V.bl.injEq, V.ref.injEq, V.str.injEq, V.ty.injEq, List.cons.injEq, and_true, true_and, exists_eq_left, exists_eq_left', exists_and_left, exists_eq, exists_eq', and_self, decide_eq_true_eq, Bool.not_eq_true', decide_eq_false_iff_not, Bool.true_eq_false, Bool.false_eq_true, if_true, if_false, ite_true, ite_false, false_and, and_false, and_assoc, reduceCtorEq]
    refine ⟨c, rfl, fun pw wa wb wc wd hpw => ?_⟩
    have W0 : Well (upd H1 pw (.lst [.int wa, .int wb, .int wc, .int wd])) pw := ⟨_, _, _, _, upd_same⟩
    have l0 : l ≠ pw := ne_of_none h1 hpw
    have h2 := same_new hpw (.lst [.int wa, .int wb, .int wc, .int wd]) l _ h1
    generalize upd H1 pw (.lst [.int wa, .int wb, .int wc, .int wd]) = H2 at *
    refine ⟨pw, rfl, W0, fun H3 B3 => ?_⟩
    have h3 := B3 l _ l0 h2
    try simp only [w_seq, w_next, w_ifS, w_ret, w_retN, w_drop, w_asg, w_gName, w_gSub, w_var, w_c, w_op, w_un, w_rU, w_rI0, w_rI, w_test, w_b, w_and, w_or, w_not, w_andV, w_orV, w_notV, w_if, w_cons, w_nil, w_tup, w_lst, w_call, w_cB, w_eq, w_ne, w_isN, w_notN, w_chain, w_sl, w_part, w_noPart, w_forL, w_for1, w_for2, w_K, w_for3, w_isnotB, w_raise, w_try, w_cut, w_KX,  exists_const, false_or, or_false, exists_false, w_s1, w_s2, w_s3, w_s4, w_s5, L2.start, List.map_cons, List.map_nil, List.length_cons, List.length_nil, List.replicate, List.replicate_zero, List.replicate_succ, Nat.reduceAdd, Nat.reduceSub, Nat.reduceLeDiff, List.cons_append, List.nil_append, List.append_nil, List.set_cons_zero, List.set_cons_succ, List.getElem?_cons_zero, List.getElem?_cons_succ, Option.some.injEq, V.int.injEq, V.bl.injEq, V.ref.injEq, V.str.injEq, V.ty.injEq, List.cons.injEq, and_true, true_and, exists_eq_left, exists_eq_left', exists_and_left, exists_eq, exists_eq', and_self, decide_eq_true_eq, Bool.not_eq_true', decide_eq_false_iff_not, Bool.true_eq_false, Bool.false_eq_true, if_true, if_false, ite_true, ite_false, false_and, and_false, and_assoc, reduceCtorEq]
    first | exact h3 | exact ⟨⟨_, rfl⟩, h3⟩ | simpa using h3
  · rintro σ H1 ⟨⟨s1, rfl⟩, h1⟩
    try simp only [w_seq, w_next, w_ifS, w_ret, w_retN, w_drop, w_asg, w_gName, w_gSub, w_var, w_c, w_op, w_un, w_rU, w_rI0, w_rI, w_test, w_b, w_and, w_or, w_not, w_andV, w_orV, w_notV, w_if, w_cons, w_nil, w_tup, w_lst, w_call, w_cB, w_eq, w_ne, w_isN, w_notN, w_chain, w_sl, w_part, w_noPart, w_forL, w_for1, w_for2, w_K, w_for3, w_isnotB, w_raise, w_try, w_cut, w_KX,  exists_const, false_or, or_false, exists_false, w_s1, w_s2, w_s3, w_s4, w_s5, L2.start, List.map_cons, List.map_nil, List.length_cons, List.length_nil, List.replicate, List.replicate_zero, List.replicate_succ, Nat.reduceAdd, Nat.reduceSub, Nat.reduceLeDiff, List.cons_append, List.nil_append, List.append_nil, List.set_cons_zero, List.set_cons_succ, List.getElem?_cons_zero, List.getElem?_cons_succ, Option.some.injEq, V.int.injEq, V.bl.injEq, V.ref.injEq, V.str.injEq, V.ty.injEq, List.cons.injEq, and_true, true_and, exists_eq_left, exists_eq_left', exists_and_left, exists_eq, exists_eq', and_self, decide_eq_true_eq, Bool.not_eq_true', decide_eq_false_iff_not, Bool.true_eq_false, Bool.false_eq_true, if_true, if_false, ite_true, ite_false, false_and, and_false, and_assoc, reduceCtorEq]
    exact q _

end
end Bw

set_option Elab.async false
set_option linter.all false
set_option maxRecDepth 100000
set_option maxHeartbeats 8000000
namespace Bw
open PySem L2
theorem all_mk {l : PySem.W.OpenLaw} {w : World} {K : PySem.W.Frag} {h : Heap} {mg : Str → Option Value} {fa C CB f0 f1 f2 f3 f4 f5 f6 f7 f8 f9 f10 f11 f12 f13 f14 f15 f16 f17 f18 f19 f20 f21 f22 f23 f24 f25 f26 aNoHappening aNoFit aNoWish aNoRoad aNoTime aNoRow aBackward aNoNumber aFallen aNoBook aNoText : Addr} {t0 t1 : Tok} (X : K.In h) (G : h.Ns mainGlobals mg) (hfa : mg "law" = some (.ref fa))
    {od0 an0 : Option Addr} {sl0 : Array (Option Value)} {oc0 kV0 dc0 pm0 cd0 ct0 : Value} (a0 : PySem.W.nsIn K mainGlobals "is_whole" = some (some (.ref f0))) (l0 : K.lookup f0 = some ⟨oc0, od0, .func (PySem.W.fnOf "is_whole" "is_whole" (defArgs s_is_whole) (defBody s_is_whole) (defScope s_is_whole) .none kV0 dc0 pm0 an0 cd0 ct0), sl0⟩) (c0 : PySem.W.codeIn K cd0 "is_whole" = true) (k0 : PySem.W.keepIn K (.ref f0) = true)
    {od1 an1 : Option Addr} {sl1 : Array (Option Value)} {oc1 kV1 dc1 pm1 cd1 ct1 : Value} (a1 : PySem.W.nsIn K mainGlobals "is_whole_between" = some (some (.ref f1))) (l1 : K.lookup f1 = some ⟨oc1, od1, .func (PySem.W.fnOf "is_whole_between" "is_whole_between" (defArgs s_is_whole_between) (defBody s_is_whole_between) (defScope s_is_whole_between) .none kV1 dc1 pm1 an1 cd1 ct1), sl1⟩) (c1 : PySem.W.codeIn K cd1 "is_whole_between" = true) (k1 : PySem.W.keepIn K (.ref f1) = true)
    {od2 an2 : Option Addr} {sl2 : Array (Option Value)} {oc2 kV2 dc2 pm2 cd2 ct2 : Value} (a2 : PySem.W.nsIn K mainGlobals "is_minute_of_day" = some (some (.ref f2))) (l2 : K.lookup f2 = some ⟨oc2, od2, .func (PySem.W.fnOf "is_minute_of_day" "is_minute_of_day" (defArgs s_is_minute_of_day) (defBody s_is_minute_of_day) (defScope s_is_minute_of_day) .none kV2 dc2 pm2 an2 cd2 ct2), sl2⟩) (c2 : PySem.W.codeIn K cd2 "is_minute_of_day" = true) (k2 : PySem.W.keepIn K (.ref f2) = true)
    {od3 an3 : Option Addr} {sl3 : Array (Option Value)} {oc3 kV3 dc3 pm3 cd3 ct3 : Value} (a3 : PySem.W.nsIn K mainGlobals "is_quiet_hours" = some (some (.ref f3))) (l3 : K.lookup f3 = some ⟨oc3, od3, .func (PySem.W.fnOf "is_quiet_hours" "is_quiet_hours" (defArgs s_is_quiet_hours) (defBody s_is_quiet_hours) (defScope s_is_quiet_hours) .none kV3 dc3 pm3 an3 cd3 ct3), sl3⟩) (c3 : PySem.W.codeIn K cd3 "is_quiet_hours" = true) (k3 : PySem.W.keepIn K (.ref f3) = true)
    {od4 an4 : Option Addr} {sl4 : Array (Option Value)} {oc4 kV4 dc4 pm4 cd4 ct4 : Value} (a4 : PySem.W.nsIn K mainGlobals "check_zone" = some (some (.ref f4))) (l4 : K.lookup f4 = some ⟨oc4, od4, .func (PySem.W.fnOf "check_zone" "check_zone" (defArgs s_check_zone) (defBody s_check_zone) (defScope s_check_zone) .none kV4 dc4 pm4 an4 cd4 ct4), sl4⟩) (c4 : PySem.W.codeIn K cd4 "check_zone" = true) (k4 : PySem.W.keepIn K (.ref f4) = true)
    {od5 an5 : Option Addr} {sl5 : Array (Option Value)} {oc5 kV5 dc5 pm5 cd5 ct5 : Value} (a5 : PySem.W.nsIn K mainGlobals "check_quiet" = some (some (.ref f5))) (l5 : K.lookup f5 = some ⟨oc5, od5, .func (PySem.W.fnOf "check_quiet" "check_quiet" (defArgs s_check_quiet) (defBody s_check_quiet) (defScope s_check_quiet) .none kV5 dc5 pm5 an5 cd5 ct5), sl5⟩) (c5 : PySem.W.codeIn K cd5 "check_quiet" = true) (k5 : PySem.W.keepIn K (.ref f5) = true)
    {od6 an6 : Option Addr} {sl6 : Array (Option Value)} {oc6 kV6 dc6 pm6 cd6 ct6 : Value} (a6 : PySem.W.nsIn K mainGlobals "check_minute_of_hour" = some (some (.ref f6))) (l6 : K.lookup f6 = some ⟨oc6, od6, .func (PySem.W.fnOf "check_minute_of_hour" "check_minute_of_hour" (defArgs s_check_minute_of_hour) (defBody s_check_minute_of_hour) (defScope s_check_minute_of_hour) .none kV6 dc6 pm6 an6 cd6 ct6), sl6⟩) (c6 : PySem.W.codeIn K cd6 "check_minute_of_hour" = true) (k6 : PySem.W.keepIn K (.ref f6) = true)
    {od7 an7 : Option Addr} {sl7 : Array (Option Value)} {oc7 kV7 dc7 pm7 cd7 ct7 : Value} (a7 : PySem.W.nsIn K mainGlobals "check_minute_of_day" = some (some (.ref f7))) (l7 : K.lookup f7 = some ⟨oc7, od7, .func (PySem.W.fnOf "check_minute_of_day" "check_minute_of_day" (defArgs s_check_minute_of_day) (defBody s_check_minute_of_day) (defScope s_check_minute_of_day) .none kV7 dc7 pm7 an7 cd7 ct7), sl7⟩) (c7 : PySem.W.codeIn K cd7 "check_minute_of_day" = true) (k7 : PySem.W.keepIn K (.ref f7) = true)
    {od8 an8 : Option Addr} {sl8 : Array (Option Value)} {oc8 kV8 dc8 pm8 cd8 ct8 : Value} (a8 : PySem.W.nsIn K mainGlobals "shown" = some (some (.ref f8))) (l8 : K.lookup f8 = some ⟨oc8, od8, .func (PySem.W.fnOf "shown" "shown" (defArgs s_shown) (defBody s_shown) (defScope s_shown) .none kV8 dc8 pm8 an8 cd8 ct8), sl8⟩) (c8 : PySem.W.codeIn K cd8 "shown" = true) (k8 : PySem.W.keepIn K (.ref f8) = true)
    {od9 an9 : Option Addr} {sl9 : Array (Option Value)} {oc9 kV9 dc9 pm9 cd9 ct9 : Value} (a9 : PySem.W.nsIn K mainGlobals "is_quiet" = some (some (.ref f9))) (l9 : K.lookup f9 = some ⟨oc9, od9, .func (PySem.W.fnOf "is_quiet" "is_quiet" (defArgs s_is_quiet) (defBody s_is_quiet) (defScope s_is_quiet) .none kV9 dc9 pm9 an9 cd9 ct9), sl9⟩) (c9 : PySem.W.codeIn K cd9 "is_quiet" = true) (k9 : PySem.W.keepIn K (.ref f9) = true)
    {od10 an10 : Option Addr} {sl10 : Array (Option Value)} {oc10 kV10 dc10 pm10 cd10 ct10 : Value} (a10 : PySem.W.nsIn K mainGlobals "loud_from" = some (some (.ref f10))) (l10 : K.lookup f10 = some ⟨oc10, od10, .func (PySem.W.fnOf "loud_from" "loud_from" (defArgs s_loud_from) (defBody s_loud_from) (defScope s_loud_from) .none kV10 dc10 pm10 an10 cd10 ct10), sl10⟩) (c10 : PySem.W.codeIn K cd10 "loud_from" = true) (k10 : PySem.W.keepIn K (.ref f10) = true)
    {od11 an11 : Option Addr} {sl11 : Array (Option Value)} {oc11 kV11 dc11 pm11 cd11 ct11 : Value} (a11 : PySem.W.nsIn K mainGlobals "quiet_below" = some (some (.ref f11))) (l11 : K.lookup f11 = some ⟨oc11, od11, .func (PySem.W.fnOf "quiet_below" "quiet_below" (defArgs s_quiet_below) (defBody s_quiet_below) (defScope s_quiet_below) .none kV11 dc11 pm11 an11 cd11 ct11), sl11⟩) (c11 : PySem.W.codeIn K cd11 "quiet_below" = true) (k11 : PySem.W.keepIn K (.ref f11) = true)
    {od12 an12 : Option Addr} {sl12 : Array (Option Value)} {oc12 kV12 dc12 pm12 cd12 ct12 : Value} (a12 : PySem.W.nsIn K mainGlobals "quiet_count" = some (some (.ref f12))) (l12 : K.lookup f12 = some ⟨oc12, od12, .func (PySem.W.fnOf "quiet_count" "quiet_count" (defArgs s_quiet_count) (defBody s_quiet_count) (defScope s_quiet_count) .none kV12 dc12 pm12 an12 cd12 ct12), sl12⟩) (c12 : PySem.W.codeIn K cd12 "quiet_count" = true) (k12 : PySem.W.keepIn K (.ref f12) = true)
    {od13 an13 : Option Addr} {sl13 : Array (Option Value)} {oc13 kV13 dc13 pm13 cd13 ct13 : Value} (a13 : PySem.W.nsIn K mainGlobals "next_hour" = some (some (.ref f13))) (l13 : K.lookup f13 = some ⟨oc13, od13, .func (PySem.W.fnOf "next_hour" "next_hour" (defArgs s_next_hour) (defBody s_next_hour) (defScope s_next_hour) .none kV13 dc13 pm13 an13 cd13 ct13), sl13⟩) (c13 : PySem.W.codeIn K cd13 "next_hour" = true) (k13 : PySem.W.keepIn K (.ref f13) = true)
    {od14 an14 : Option Addr} {sl14 : Array (Option Value)} {oc14 kV14 dc14 pm14 cd14 ct14 : Value} (a14 : PySem.W.nsIn K mainGlobals "next_day" = some (some (.ref f14))) (l14 : K.lookup f14 = some ⟨oc14, od14, .func (PySem.W.fnOf "next_day" "next_day" (defArgs s_next_day) (defBody s_next_day) (defScope s_next_day) .none kV14 dc14 pm14 an14 cd14 ct14), sl14⟩) (c14 : PySem.W.codeIn K cd14 "next_day" = true) (k14 : PySem.W.keepIn K (.ref f14) = true)
    {od15 an15 : Option Addr} {sl15 : Array (Option Value)} {oc15 kV15 dc15 pm15 cd15 ct15 : Value} (a15 : PySem.W.nsIn K mainGlobals "_law_cell_at" = some (some (.ref f15))) (l15 : K.lookup f15 = some ⟨oc15, od15, .func (PySem.W.fnOf "_law_cell_at" "_law_cell_at" (defArgs s_law_cell_at) (defBody s_law_cell_at) (defScope s_law_cell_at) .none kV15 dc15 pm15 an15 cd15 ct15), sl15⟩) (c15 : PySem.W.codeIn K cd15 "_law_cell_at" = true) (k15 : PySem.W.keepIn K (.ref f15) = true)
    {od16 an16 : Option Addr} {sl16 : Array (Option Value)} {oc16 kV16 dc16 pm16 cd16 ct16 : Value} (a16 : PySem.W.nsIn K mainGlobals "_law_mixed" = some (some (.ref f16))) (l16 : K.lookup f16 = some ⟨oc16, od16, .func (PySem.W.fnOf "_law_mixed" "_law_mixed" (defArgs s_law_mixed) (defBody s_law_mixed) (defScope s_law_mixed) .none kV16 dc16 pm16 an16 cd16 ct16), sl16⟩) (c16 : PySem.W.codeIn K cd16 "_law_mixed" = true) (k16 : PySem.W.keepIn K (.ref f16) = true)
    {od17 an17 : Option Addr} {sl17 : Array (Option Value)} {oc17 kV17 dc17 pm17 cd17 ct17 : Value} (a17 : PySem.W.nsIn K mainGlobals "_law_well" = some (some (.ref f17))) (l17 : K.lookup f17 = some ⟨oc17, od17, .func (PySem.W.fnOf "_law_well" "_law_well" (defArgs s_law_well) (defBody s_law_well) (defScope s_law_well) .none kV17 dc17 pm17 an17 cd17 ct17), sl17⟩) (c17 : PySem.W.codeIn K cd17 "_law_well" = true) (k17 : PySem.W.keepIn K (.ref f17) = true)
    {od18 an18 : Option Addr} {sl18 : Array (Option Value)} {oc18 kV18 dc18 pm18 cd18 ct18 : Value} (a18 : PySem.W.nsIn K mainGlobals "_law_draw" = some (some (.ref f18))) (l18 : K.lookup f18 = some ⟨oc18, od18, .func (PySem.W.fnOf "_law_draw" "_law_draw" (defArgs s_law_draw) (defBody s_law_draw) (defScope s_law_draw) .none kV18 dc18 pm18 an18 cd18 ct18), sl18⟩) (c18 : PySem.W.codeIn K cd18 "_law_draw" = true) (k18 : PySem.W.keepIn K (.ref f18) = true)
    {od19 an19 : Option Addr} {sl19 : Array (Option Value)} {oc19 kV19 dc19 pm19 cd19 ct19 : Value} (a19 : PySem.W.nsIn K mainGlobals "_law_quiet" = some (some (.ref f19))) (l19 : K.lookup f19 = some ⟨oc19, od19, .func (PySem.W.fnOf "_law_quiet" "_law_quiet" (defArgs s_law_quiet) (defBody s_law_quiet) (defScope s_law_quiet) .none kV19 dc19 pm19 an19 cd19 ct19), sl19⟩) (c19 : PySem.W.codeIn K cd19 "_law_quiet" = true) (k19 : PySem.W.keepIn K (.ref f19) = true)
    {od20 an20 : Option Addr} {sl20 : Array (Option Value)} {oc20 kV20 dc20 pm20 cd20 ct20 : Value} (a20 : PySem.W.nsIn K mainGlobals "_law_bad_zone" = some (some (.ref f20))) (l20 : K.lookup f20 = some ⟨oc20, od20, .func (PySem.W.fnOf "_law_bad_zone" "_law_bad_zone" (defArgs s_law_bad_zone) (defBody s_law_bad_zone) (defScope s_law_bad_zone) .none kV20 dc20 pm20 an20 cd20 ct20), sl20⟩) (c20 : PySem.W.codeIn K cd20 "_law_bad_zone" = true) (k20 : PySem.W.keepIn K (.ref f20) = true)
    {od21 an21 : Option Addr} {sl21 : Array (Option Value)} {oc21 kV21 dc21 pm21 cd21 ct21 : Value} (a21 : PySem.W.nsIn K mainGlobals "_law_bad_quiet" = some (some (.ref f21))) (l21 : K.lookup f21 = some ⟨oc21, od21, .func (PySem.W.fnOf "_law_bad_quiet" "_law_bad_quiet" (defArgs s_law_bad_quiet) (defBody s_law_bad_quiet) (defScope s_law_bad_quiet) .none kV21 dc21 pm21 an21 cd21 ct21), sl21⟩) (c21 : PySem.W.codeIn K cd21 "_law_bad_quiet" = true) (k21 : PySem.W.keepIn K (.ref f21) = true)
    {od22 an22 : Option Addr} {sl22 : Array (Option Value)} {oc22 kV22 dc22 pm22 cd22 ct22 : Value} (a22 : PySem.W.nsIn K mainGlobals "_law_bad_minute" = some (some (.ref f22))) (l22 : K.lookup f22 = some ⟨oc22, od22, .func (PySem.W.fnOf "_law_bad_minute" "_law_bad_minute" (defArgs s_law_bad_minute) (defBody s_law_bad_minute) (defScope s_law_bad_minute) .none kV22 dc22 pm22 an22 cd22 ct22), sl22⟩) (c22 : PySem.W.codeIn K cd22 "_law_bad_minute" = true) (k22 : PySem.W.keepIn K (.ref f22) = true)
    {od23 an23 : Option Addr} {sl23 : Array (Option Value)} {oc23 kV23 dc23 pm23 cd23 ct23 : Value} (a23 : PySem.W.nsIn K mainGlobals "_law_asked" = some (some (.ref f23))) (l23 : K.lookup f23 = some ⟨oc23, od23, .func (PySem.W.fnOf "_law_asked" "_law_asked" (defArgs s_law_asked) (defBody s_law_asked) (defScope s_law_asked) .none kV23 dc23 pm23 an23 cd23 ct23), sl23⟩) (c23 : PySem.W.codeIn K cd23 "_law_asked" = true) (k23 : PySem.W.keepIn K (.ref f23) = true)
    {od24 an24 : Option Addr} {sl24 : Array (Option Value)} {oc24 kV24 dc24 pm24 cd24 ct24 : Value} (a24 : PySem.W.nsIn K mainGlobals "_law_refused" = some (some (.ref f24))) (l24 : K.lookup f24 = some ⟨oc24, od24, .func (PySem.W.fnOf "_law_refused" "_law_refused" (defArgs s_law_refused) (defBody s_law_refused) (defScope s_law_refused) .none kV24 dc24 pm24 an24 cd24 ct24), sl24⟩) (c24 : PySem.W.codeIn K cd24 "_law_refused" = true) (k24 : PySem.W.keepIn K (.ref f24) = true)
    {od25 an25 : Option Addr} {sl25 : Array (Option Value)} {oc25 kV25 dc25 pm25 cd25 ct25 : Value} (a25 : PySem.W.nsIn K mainGlobals "_law_right" = some (some (.ref f25))) (l25 : K.lookup f25 = some ⟨oc25, od25, .func (PySem.W.fnOf "_law_right" "_law_right" (defArgs s_law_right) (defBody s_law_right) (defScope s_law_right) .none kV25 dc25 pm25 an25 cd25 ct25), sl25⟩) (c25 : PySem.W.codeIn K cd25 "_law_right" = true) (k25 : PySem.W.keepIn K (.ref f25) = true)
    {od26 an26 : Option Addr} {sl26 : Array (Option Value)} {oc26 kV26 dc26 pm26 cd26 ct26 : Value} (a26 : PySem.W.nsIn K mainGlobals "law" = some (some (.ref f26))) (l26 : K.lookup f26 = some ⟨oc26, od26, .func (PySem.W.fnOf "law" "law" (defArgs s_law) (defBody s_law) (defScope s_law) .none kV26 dc26 pm26 an26 cd26 ct26), sl26⟩) (c26 : PySem.W.codeIn K cd26 "law" = true) (k26 : PySem.W.keepIn K (.ref f26) = true)
    (z0 : PySem.W.nsIn K mainGlobals "len" = some none)
    (z1 : PySem.W.nsIn K mainGlobals "int" = some none)
    (z2 : PySem.W.nsIn K mainGlobals "bool" = some none)
    (z3 : PySem.W.nsIn K mainGlobals "tuple" = some none)
    (z4 : PySem.W.nsIn K mainGlobals "isinstance" = some none)
    (z5 : PySem.W.nsIn K mainGlobals "range" = some none)
    (z6 : PySem.W.nsIn K mainGlobals "min" = some none)
    (z7 : PySem.W.nsIn K mainGlobals "ValueError" = some none)
    (v0 : PySem.W.nsIn K mainGlobals "MINUTES_OF_DAY" = some (some (.int 1440 t0)))
    (v1 : PySem.W.nsIn K mainGlobals "MINUTES_OF_HOUR" = some (some (.int 60 t1)))
    (n0 : PySem.W.nsIn K mainGlobals "BellError" = some (some (.ref CB)))
    (n1 : PySem.W.nsIn K mainGlobals "NoClock" = some (some (.ref C)))
    (n2 : PySem.W.nsIn K mainGlobals "NoHappening" = some (some (.ref aNoHappening)))
    (n3 : PySem.W.nsIn K mainGlobals "NoFit" = some (some (.ref aNoFit)))
    (n4 : PySem.W.nsIn K mainGlobals "NoWish" = some (some (.ref aNoWish)))
    (n5 : PySem.W.nsIn K mainGlobals "NoRoad" = some (some (.ref aNoRoad)))
    (n6 : PySem.W.nsIn K mainGlobals "NoTime" = some (some (.ref aNoTime)))
    (n7 : PySem.W.nsIn K mainGlobals "NoRow" = some (some (.ref aNoRow)))
    (n8 : PySem.W.nsIn K mainGlobals "Backward" = some (some (.ref aBackward)))
    (n9 : PySem.W.nsIn K mainGlobals "NoNumber" = some (some (.ref aNoNumber)))
    (n10 : PySem.W.nsIn K mainGlobals "Fallen" = some (some (.ref aFallen)))
    (n11 : PySem.W.nsIn K mainGlobals "NoBook" = some (some (.ref aNoBook)))
    (n12 : PySem.W.nsIn K mainGlobals "NoText" = some (some (.ref aNoText)))
    (x1 : PySem.W.excIn K C vbm "ValueError.__new__" = true)
    (x2 : PySem.W.findIn K (.ref C) "__getattribute__" = some (some (.builtin "BaseException.__getattribute__")))
    (x3 : PySem.W.findIn K (.ref C) "__getattr__" = some none)
    (x4 : PySem.W.findIn K (.ref C) "__class__" = some (some (.builtin "object.__class__")))
    (x5 : PySem.W.mroIn K C (.type "BaseException") = some true)
    (x6 : PySem.W.mroIn K C (.type "object") = some true)
    (x7 : PySem.W.isClsIn K C = true)
    (x8 : PySem.W.exmOne K (.ref C) (.ref CB) = some true)
    (x9 : PySem.W.kitAny K (.ref C) ([.ref aBackward, .ref aFallen, .ref aNoBook, .ref aNoFit, .ref aNoHappening, .ref aNoNumber, .ref aNoRoad, .ref aNoRow] : List Value) = some false)
    (x10 : PySem.W.kitAny K (.ref C) ([.ref aNoText, .ref aNoTime, .ref aNoWish] : List Value) = some false)
    (x11 : PySem.W.kitOne K (.ref C) (.type "ValueError") = some true)
    (x12 : PySem.W.kitOne K (.ref C) (.ref C) = some true) :
    ∃ fd : FuncData, (∀ (s : Shared) (v : Value), BindsTo s fd ⟨[v], []⟩ [("_law_script", v)]) ∧ ∀ base : Heap, K.In base → base.Ns mainGlobals mg → FnOk l.prog w K mg base CX0 11 fa fd ["_law_script"] (sp_law K) := by
  have e := hfa.symm.trans (PySem.W.mg_of X G a26)
  cases e
  have B : Bt K mg C CB t0 t1 aNoHappening aNoFit aNoWish aNoRoad aNoTime aNoRow aBackward aNoNumber aFallen aNoBook aNoText := ⟨PySem.W.mg_none_of X G z0, PySem.W.mg_none_of X G z1, PySem.W.mg_none_of X G z2, PySem.W.mg_none_of X G z3, PySem.W.mg_none_of X G z4, PySem.W.mg_none_of X G z5, PySem.W.mg_none_of X G z6, PySem.W.mg_none_of X G z7, PySem.W.mg_of X G v0, PySem.W.mg_of X G v1, PySem.W.mg_of X G n0, PySem.W.mg_of X G n1, PySem.W.mg_of X G n2, PySem.W.mg_of X G n3, PySem.W.mg_of X G n4, PySem.W.mg_of X G n5, PySem.W.mg_of X G n6, PySem.W.mg_of X G n7, PySem.W.mg_of X G n8, PySem.W.mg_of X G n9, PySem.W.mg_of X G n10, PySem.W.mg_of X G n11, PySem.W.mg_of X G n12, x1, ⟨x2, x3, x4, x5, x6, x7⟩, x8, x9, x10, x11, x12⟩
  have F0 := fun_mk (st := s_is_whole) l0 c0 k0
  have b0 := F0.binds (ps := ["thing"]) fun _ _ _ _ _ _ us hl => match us, hl with | [_], _ => rfl
  have F1 := fun_mk (st := s_is_whole_between) l1 c1 k1
  have b1 := F1.binds (ps := ["thing", "least", "most"]) fun _ _ _ _ _ _ us hl => match us, hl with | [_, _, _], _ => rfl
  have F2 := fun_mk (st := s_is_minute_of_day) l2 c2 k2
  have b2 := F2.binds (ps := ["thing"]) fun _ _ _ _ _ _ us hl => match us, hl with | [_], _ => rfl
  have F3 := fun_mk (st := s_is_quiet_hours) l3 c3 k3
  have b3 := F3.binds (ps := ["thing"]) fun _ _ _ _ _ _ us hl => match us, hl with | [_], _ => rfl
  have F4 := fun_mk (st := s_check_zone) l4 c4 k4
  have b4 := F4.binds (ps := ["zone"]) fun _ _ _ _ _ _ us hl => match us, hl with | [_], _ => rfl
  have F5 := fun_mk (st := s_check_quiet) l5 c5 k5
  have b5 := F5.binds (ps := ["quiet"]) fun _ _ _ _ _ _ us hl => match us, hl with | [_], _ => rfl
  have F6 := fun_mk (st := s_check_minute_of_hour) l6 c6 k6
  have b6 := F6.binds (ps := ["minute"]) fun _ _ _ _ _ _ us hl => match us, hl with | [_], _ => rfl
  have F7 := fun_mk (st := s_check_minute_of_day) l7 c7 k7
  have b7 := F7.binds (ps := ["minute"]) fun _ _ _ _ _ _ us hl => match us, hl with | [_], _ => rfl
  have F8 := fun_mk (st := s_shown) l8 c8 k8
  have b8 := F8.binds (ps := ["moment", "zone"]) fun _ _ _ _ _ _ us hl => match us, hl with | [_, _], _ => rfl
  have F9 := fun_mk (st := s_is_quiet) l9 c9 k9
  have b9 := F9.binds (ps := ["quiet", "zone", "moment"]) fun _ _ _ _ _ _ us hl => match us, hl with | [_, _, _], _ => rfl
  have F10 := fun_mk (st := s_loud_from) l10 c10 k10
  have b10 := F10.binds (ps := ["quiet", "zone", "moment"]) fun _ _ _ _ _ _ us hl => match us, hl with | [_, _, _], _ => rfl
  have F11 := fun_mk (st := s_quiet_below) l11 c11 k11
  have b11 := F11.binds (ps := ["quiet", "zone", "moment"]) fun _ _ _ _ _ _ us hl => match us, hl with | [_, _, _], _ => rfl
  have F12 := fun_mk (st := s_quiet_count) l12 c12 k12
  have b12 := F12.binds (ps := ["quiet", "zone", "one", "other"]) fun _ _ _ _ _ _ us hl => match us, hl with | [_, _, _, _], _ => rfl
  have F13 := fun_mk (st := s_next_hour) l13 c13 k13
  have b13 := F13.binds (ps := ["minute", "zone", "moment"]) fun _ _ _ _ _ _ us hl => match us, hl with | [_, _, _], _ => rfl
  have F14 := fun_mk (st := s_next_day) l14 c14 k14
  have b14 := F14.binds (ps := ["minute", "zone", "moment"]) fun _ _ _ _ _ _ us hl => match us, hl with | [_, _, _], _ => rfl
  have F15 := fun_mk (st := s_law_cell_at) l15 c15 k15
  have b15 := F15.binds (ps := ["_law_script", "_law_k"]) fun _ _ _ _ _ _ us hl => match us, hl with | [_, _], _ => rfl
  have F16 := fun_mk (st := s_law_mixed) l16 c16 k16
  have b16 := F16.binds (ps := ["_law_cell", "_law_k"]) fun _ _ _ _ _ _ us hl => match us, hl with | [_, _], _ => rfl
  have F17 := fun_mk (st := s_law_well) l17 c17 k17
  have b17 := F17.binds (ps := ["_law_cell"]) fun _ _ _ _ _ _ us hl => match us, hl with | [_], _ => rfl
  have F18 := fun_mk (st := s_law_draw) l18 c18 k18
  have b18 := F18.binds (ps := ["_law_well_here", "_law_most"]) fun _ _ _ _ _ _ us hl => match us, hl with | [_, _], _ => rfl
  have F19 := fun_mk (st := s_law_quiet) l19 c19 k19
  have b19 := F19.binds (ps := ["_law_well_here"]) fun _ _ _ _ _ _ us hl => match us, hl with | [_], _ => rfl
  have F20 := fun_mk (st := s_law_bad_zone) l20 c20 k20
  have b20 := F20.binds (ps := ["_law_well_here"]) fun _ _ _ _ _ _ us hl => match us, hl with | [_], _ => rfl
  have F21 := fun_mk (st := s_law_bad_quiet) l21 c21 k21
  have b21 := F21.binds (ps := ["_law_well_here"]) fun _ _ _ _ _ _ us hl => match us, hl with | [_], _ => rfl
  have F22 := fun_mk (st := s_law_bad_minute) l22 c22 k22
  have b22 := F22.binds (ps := ["_law_well_here", "_law_many"]) fun _ _ _ _ _ _ us hl => match us, hl with | [_, _], _ => rfl
  have F23 := fun_mk (st := s_law_asked) l23 c23 k23
  have b23 := F23.binds (ps := ["_law_way", "_law_zone", "_law_quiet_here", "_law_hour", "_law_day", "_law_moment"]) fun _ _ _ _ _ _ us hl => match us, hl with | [_, _, _, _, _, _], _ => rfl
  have F24 := fun_mk (st := s_law_refused) l24 c24 k24
  have b24 := F24.binds (ps := ["_law_way", "_law_zone", "_law_quiet_here", "_law_hour", "_law_day", "_law_moment"]) fun _ _ _ _ _ _ us hl => match us, hl with | [_, _, _, _, _, _], _ => rfl
  have F25 := fun_mk (st := s_law_right) l25 c25 k25
  have b25 := F25.binds (ps := ["_law_well_here"]) fun _ _ _ _ _ _ us hl => match us, hl with | [_], _ => rfl
  have F26 := fun_mk (st := s_law) l26 c26 k26
  have b26 := F26.binds (ps := ["_law_script"]) fun _ _ _ _ _ _ us hl => match us, hl with | [_], _ => rfl
  refine ⟨PySem.W.fnOf "law" "law" (defArgs s_law) (defBody s_law) (defScope s_law) .none kV26 dc26 pm26 an26 cd26 ct26, fun s v => .of_eq rfl, fun base _ _ => ?_⟩
  have C_is_whole : CalX l.prog w K mg base "is_whole" ["thing"] 1 (sp_is_whole C) := ⟨_, _, FnOk.up (ok_is_whole (P := l.prog) (w := w) (base := base) B  F0), b0, k0, PySem.W.mg_of X G a0⟩
  have C_quiet_below : CalX l.prog w K mg base "quiet_below" ["quiet", "zone", "moment"] 1 (sp_quiet_below C) := ⟨_, _, FnOk.up (ok_quiet_below (P := l.prog) (w := w) (base := base) B  F11), b11, k11, PySem.W.mg_of X G a11⟩
  have C_law_cell_at : CalX l.prog w K mg base "_law_cell_at" ["_law_script", "_law_k"] 1 (sp_law_cell_at K) := ⟨_, _, FnOk.up (ok_law_cell_at (P := l.prog) (w := w) (base := base) B  F15), b15, k15, PySem.W.mg_of X G a15⟩
  have C_law_mixed : CalX l.prog w K mg base "_law_mixed" ["_law_cell", "_law_k"] 1 (sp_law_mixed C) := ⟨_, _, FnOk.up (ok_law_mixed (P := l.prog) (w := w) (base := base) B  F16), b16, k16, PySem.W.mg_of X G a16⟩
  have C_law_well : CalX l.prog w K mg base "_law_well" ["_law_cell"] 1 (sp_law_well C) := ⟨_, _, FnOk.up (ok_law_well (P := l.prog) (w := w) (base := base) B  F17), b17, k17, PySem.W.mg_of X G a17⟩
  have C_is_whole_between : CalX l.prog w K mg base "is_whole_between" ["thing", "least", "most"] 2 (sp_is_whole_between C) := ⟨_, _, FnOk.up (ok_is_whole_between (P := l.prog) (w := w) (base := base) B C_is_whole F1), b1, k1, PySem.W.mg_of X G a1⟩
  have C_law_draw : CalX l.prog w K mg base "_law_draw" ["_law_well_here", "_law_most"] 2 (sp_law_draw C) := ⟨_, _, FnOk.up (ok_law_draw (P := l.prog) (w := w) (base := base) B C_law_mixed F18), b18, k18, PySem.W.mg_of X G a18⟩
  have C_is_minute_of_day : CalX l.prog w K mg base "is_minute_of_day" ["thing"] 3 (sp_is_minute_of_day C) := ⟨_, _, FnOk.up (ok_is_minute_of_day (P := l.prog) (w := w) (base := base) B C_is_whole_between F2), b2, k2, PySem.W.mg_of X G a2⟩
  have C_check_zone : CalX l.prog w K mg base "check_zone" ["zone"] 3 (sp_check_zone C) := ⟨_, _, ok_check_zone (P := l.prog) (w := w) (base := base) B C_is_whole_between F4, b4, k4, PySem.W.mg_of X G a4⟩
  have C_check_minute_of_hour : CalX l.prog w K mg base "check_minute_of_hour" ["minute"] 3 (sp_check_minute_of_hour C) := ⟨_, _, ok_check_minute_of_hour (P := l.prog) (w := w) (base := base) B C_is_whole_between F6, b6, k6, PySem.W.mg_of X G a6⟩
  have C_law_quiet : CalX l.prog w K mg base "_law_quiet" ["_law_well_here"] 3 (sp_law_quiet C) := ⟨_, _, FnOk.up (ok_law_quiet (P := l.prog) (w := w) (base := base) B C_law_draw F19), b19, k19, PySem.W.mg_of X G a19⟩
  have C_law_bad_zone : CalX l.prog w K mg base "_law_bad_zone" ["_law_well_here"] 3 (sp_law_bad_zone C) := ⟨_, _, FnOk.up (ok_law_bad_zone (P := l.prog) (w := w) (base := base) B C_law_draw F20), b20, k20, PySem.W.mg_of X G a20⟩
  have C_law_bad_quiet : CalX l.prog w K mg base "_law_bad_quiet" ["_law_well_here"] 3 (sp_law_bad_quiet C) := ⟨_, _, FnOk.up (ok_law_bad_quiet (P := l.prog) (w := w) (base := base) B C_law_draw F21), b21, k21, PySem.W.mg_of X G a21⟩
  have C_law_bad_minute : CalX l.prog w K mg base "_law_bad_minute" ["_law_well_here", "_law_many"] 3 (sp_law_bad_minute C) := ⟨_, _, FnOk.up (ok_law_bad_minute (P := l.prog) (w := w) (base := base) B C_law_draw F22), b22, k22, PySem.W.mg_of X G a22⟩
  have C_is_quiet_hours : CalX l.prog w K mg base "is_quiet_hours" ["thing"] 4 (sp_is_quiet_hours C) := ⟨_, _, FnOk.up (ok_is_quiet_hours (P := l.prog) (w := w) (base := base) B C_is_minute_of_day F3), b3, k3, PySem.W.mg_of X G a3⟩
  have C_check_minute_of_day : CalX l.prog w K mg base "check_minute_of_day" ["minute"] 4 (sp_check_minute_of_day C) := ⟨_, _, ok_check_minute_of_day (P := l.prog) (w := w) (base := base) B C_is_minute_of_day F7, b7, k7, PySem.W.mg_of X G a7⟩
  have C_shown : CalX l.prog w K mg base "shown" ["moment", "zone"] 4 (sp_shown C) := ⟨_, _, ok_shown (P := l.prog) (w := w) (base := base) B C_check_zone F8, b8, k8, PySem.W.mg_of X G a8⟩
  have C_next_hour : CalX l.prog w K mg base "next_hour" ["minute", "zone", "moment"] 4 (sp_next_hour C) := ⟨_, _, ok_next_hour (P := l.prog) (w := w) (base := base) B C_check_minute_of_hour C_check_zone F13, b13, k13, PySem.W.mg_of X G a13⟩
  have C_check_quiet : CalX l.prog w K mg base "check_quiet" ["quiet"] 5 (sp_check_quiet C) := ⟨_, _, ok_check_quiet (P := l.prog) (w := w) (base := base) B C_is_quiet_hours F5, b5, k5, PySem.W.mg_of X G a5⟩
  have C_next_day : CalX l.prog w K mg base "next_day" ["minute", "zone", "moment"] 5 (sp_next_day C) := ⟨_, _, ok_next_day (P := l.prog) (w := w) (base := base) B C_check_minute_of_day C_check_zone F14, b14, k14, PySem.W.mg_of X G a14⟩
  have C_is_quiet : CalX l.prog w K mg base "is_quiet" ["quiet", "zone", "moment"] 6 (sp_is_quiet C) := ⟨_, _, ok_is_quiet (P := l.prog) (w := w) (base := base) B C_check_quiet C_shown F9, b9, k9, PySem.W.mg_of X G a9⟩
  have C_quiet_count : CalX l.prog w K mg base "quiet_count" ["quiet", "zone", "one", "other"] 6 (sp_quiet_count C) := ⟨_, _, ok_quiet_count (P := l.prog) (w := w) (base := base) B C_check_quiet C_check_zone C_quiet_below F12, b12, k12, PySem.W.mg_of X G a12⟩
  have C_loud_from : CalX l.prog w K mg base "loud_from" ["quiet", "zone", "moment"] 7 (sp_loud_from C) := ⟨_, _, ok_loud_from (P := l.prog) (w := w) (base := base) B C_is_quiet C_next_day F10, b10, k10, PySem.W.mg_of X G a10⟩
  have C_law_asked : CalX l.prog w K mg base "_law_asked" ["_law_way", "_law_zone", "_law_quiet_here", "_law_hour", "_law_day", "_law_moment"] 8 (sp_law_asked C) := ⟨_, _, ok_law_asked (P := l.prog) (w := w) (base := base) B C_next_day C_shown C_is_quiet C_loud_from C_quiet_count C_next_hour F23, b23, k23, PySem.W.mg_of X G a23⟩
  have C_law_refused : CalX l.prog w K mg base "_law_refused" ["_law_way", "_law_zone", "_law_quiet_here", "_law_hour", "_law_day", "_law_moment"] 9 (sp_law_refused C) := ⟨_, _, FnOk.up (ok_law_refused (P := l.prog) (w := w) (base := base) B C_law_asked F24), b24, k24, PySem.W.mg_of X G a24⟩
  have C_law_right : CalX l.prog w K mg base "_law_right" ["_law_well_here"] 10 (sp_law_right C) := ⟨_, _, FnOk.up (ok_law_right (P := l.prog) (w := w) (base := base) B C_law_draw C_law_quiet C_law_asked C_law_bad_zone C_law_refused C_law_bad_quiet C_law_bad_minute F25), b25, k25, PySem.W.mg_of X G a25⟩
  exact ok_law (P := l.prog) (w := w) (base := base) B C_law_cell_at C_law_right C_law_well F26
theorem walk {l : PySem.W.OpenLaw} {q : Program} {loose : List Str} {XP : (Str → Option Value) → Heap → Prop} {YP : World → Heap → Prop} {d : DefRec} {K : Params → PySem.W.Frag} (hn : l.most = some 63) (hdf : d.params.defaults = [])
    (hY : ∀ (w : World) (h : Heap), YP w h → (K w.params).In h)
    (F : ∀ (w : World) (mg : Str → Option Value) (fa : Addr) (h : Heap), (K w.params).In h → h.Ns mainGlobals mg → mg d.name = some (.ref fa) →
      ∃ fd : FuncData, (∀ (s : Shared) (u : Value), BindsTo s fd ⟨[u], []⟩ [("_law_script", u)]) ∧ ∀ base : Heap, (K w.params).In base → base.Ns mainGlobals mg → FnOk l.prog w (K w.params) mg base CX0 11 fa fd ["_law_script"] (sp_law (K w.params))) :
    PySem.W.WalkO q loose XP YP l.row.toRowW d [] (fun f vs => PySem.call f vs) :=
  L2.walk_of (n := 63) (k := 11) (x := "_law_script") (CX := fun _ => CX0) (sp := fun w => sp_law (K w.params)) hn (by decide) hdf ⟨rfl, by decide, by decide⟩ hY F (fun _ _ a ns hl _ hS => ⟨a, ns, rfl, hS, hl, fun _ => rfl⟩) fun _ _ _ _ _ z => z
end Bw
open PySem PySem.W PyProof.Rows
set_option maxRecDepth 100000 in
set_option maxHeartbeats 0 in
theorem PySem.Challenge.cw_bellsaway_k05_what_is_no_clock_holds : PySem.Challenge.rw_bellsaway_k05_what_is_no_clock.Holds := by
  w_on; o_law; k_head; (case hw => w_witness2)
  k_fill
  refine Bw.walk (l := PySem.Challenge.rw_bellsaway_k05_what_is_no_clock) rfl rfl (fun w h Y => PySem.W.kIn_of Y) ?F
  case F =>
    intro w mg fa h KX G hmg
    refine' Bw.all_mk KX G hmg ?a0 ?l0 ?c0 ?k0 ?a1 ?l1 ?c1 ?k1 ?a2 ?l2 ?c2 ?k2 ?a3 ?l3 ?c3 ?k3 ?a4 ?l4 ?c4 ?k4 ?a5 ?l5 ?c5 ?k5 ?a6 ?l6 ?c6 ?k6 ?a7 ?l7 ?c7 ?k7 ?a8 ?l8 ?c8 ?k8 ?a9 ?l9 ?c9 ?k9 ?a10 ?l10 ?c10 ?k10 ?a11 ?l11 ?c11 ?k11 ?a12 ?l12 ?c12 ?k12 ?a13 ?l13 ?c13 ?k13 ?a14 ?l14 ?c14 ?k14 ?a15 ?l15 ?c15 ?k15 ?a16 ?l16 ?c16 ?k16 ?a17 ?l17 ?c17 ?k17 ?a18 ?l18 ?c18 ?k18 ?a19 ?l19 ?c19 ?k19 ?a20 ?l20 ?c20 ?k20 ?a21 ?l21 ?c21 ?k21 ?a22 ?l22 ?c22 ?k22 ?a23 ?l23 ?c23 ?k23 ?a24 ?l24 ?c24 ?k24 ?a25 ?l25 ?c25 ?k25 ?a26 ?l26 ?c26 ?k26 ?z0 ?z1 ?z2 ?z3 ?z4 ?z5 ?z6 ?z7 ?v0 ?v1 ?n0 ?n1 ?n2 ?n3 ?n4 ?n5 ?n6 ?n7 ?n8 ?n9 ?n10 ?n11 ?n12 ?x1 ?x2 ?x3 ?x4 ?x5 ?x6 ?x7 ?x8 ?x9 ?x10 ?x11 ?x12
    (case a0 => k_is)
    (case l0 => k_is)
    (case c0 => k_is)
    (case k0 => k_is)
    (case a1 => k_is)
    (case l1 => k_is)
    (case c1 => k_is)
    (case k1 => k_is)
    (case a2 => k_is)
    (case l2 => k_is)
    (case c2 => k_is)
    (case k2 => k_is)
    (case a3 => k_is)
    (case l3 => k_is)
    (case c3 => k_is)
    (case k3 => k_is)
    (case a4 => k_is)
    (case l4 => k_is)
    (case c4 => k_is)
    (case k4 => k_is)
    (case a5 => k_is)
    (case l5 => k_is)
    (case c5 => k_is)
    (case k5 => k_is)
    (case a6 => k_is)
    (case l6 => k_is)
    (case c6 => k_is)
    (case k6 => k_is)
    (case a7 => k_is)
    (case l7 => k_is)
    (case c7 => k_is)
    (case k7 => k_is)
    (case a8 => k_is)
    (case l8 => k_is)
    (case c8 => k_is)
    (case k8 => k_is)
    (case a9 => k_is)
    (case l9 => k_is)
    (case c9 => k_is)
    (case k9 => k_is)
    (case a10 => k_is)
    (case l10 => k_is)
    (case c10 => k_is)
    (case k10 => k_is)
    (case a11 => k_is)
    (case l11 => k_is)
    (case c11 => k_is)
    (case k11 => k_is)
    (case a12 => k_is)
    (case l12 => k_is)
    (case c12 => k_is)
    (case k12 => k_is)
    (case a13 => k_is)
    (case l13 => k_is)
    (case c13 => k_is)
    (case k13 => k_is)
    (case a14 => k_is)
    (case l14 => k_is)
    (case c14 => k_is)
    (case k14 => k_is)
    (case a15 => k_is)
    (case l15 => k_is)
    (case c15 => k_is)
    (case k15 => k_is)
    (case a16 => k_is)
    (case l16 => k_is)
    (case c16 => k_is)
    (case k16 => k_is)
    (case a17 => k_is)
    (case l17 => k_is)
    (case c17 => k_is)
    (case k17 => k_is)
    (case a18 => k_is)
    (case l18 => k_is)
    (case c18 => k_is)
    (case k18 => k_is)
    (case a19 => k_is)
    (case l19 => k_is)
    (case c19 => k_is)
    (case k19 => k_is)
    (case a20 => k_is)
    (case l20 => k_is)
    (case c20 => k_is)
    (case k20 => k_is)
    (case a21 => k_is)
    (case l21 => k_is)
    (case c21 => k_is)
    (case k21 => k_is)
    (case a22 => k_is)
    (case l22 => k_is)
    (case c22 => k_is)
    (case k22 => k_is)
    (case a23 => k_is)
    (case l23 => k_is)
    (case c23 => k_is)
    (case k23 => k_is)
    (case a24 => k_is)
    (case l24 => k_is)
    (case c24 => k_is)
    (case k24 => k_is)
    (case a25 => k_is)
    (case l25 => k_is)
    (case c25 => k_is)
    (case k25 => k_is)
    (case a26 => k_is)
    (case l26 => k_is)
    (case c26 => k_is)
    (case k26 => k_is)
    (case z0 => k_is)
    (case z1 => k_is)
    (case z2 => k_is)
    (case z3 => k_is)
    (case z4 => k_is)
    (case z5 => k_is)
    (case z6 => k_is)
    (case z7 => k_is)
    (case v0 => k_is)
    (case v1 => k_is)
    (case n0 => k_is)
    (case n1 => k_is)
    (case n2 => k_is)
    (case n3 => k_is)
    (case n4 => k_is)
    (case n5 => k_is)
    (case n6 => k_is)
    (case n7 => k_is)
    (case n8 => k_is)
    (case n9 => k_is)
    (case n10 => k_is)
    (case n11 => k_is)
    (case n12 => k_is)
    (case x1 => k_exc)
    (case x2 => k_is)
    (case x3 => k_is)
    (case x4 => k_is)
    (case x5 => k_is)
    (case x6 => k_is)
    (case x7 => k_is)
    (case x8 => kts_exm)
    (case x9 => kit_is)
    (case x10 => kit_is)
    (case x11 => kit_is)
    (case x12 => kit_is)
