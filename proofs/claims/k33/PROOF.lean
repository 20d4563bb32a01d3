import PyProof.Rows.All
import Wide.All
import OpenK.AllK
import Wide.FinOn
import Lean
import PyProof.EqAt
import PyProof.EqKinds
import PyProof.TupleCall
import PySem.Challenge.RW_bellsaway_k33_the_first_use
set_option Elab.async false
set_option linter.all false
set_option maxRecDepth 100000
/-! THE HAND LAYER, for ints, bools, texts, own classes, LISTS and tuples (index, slices, in, append, pop ..), calls, loops. Paste it whole ahead of your own text; what your proof does not reach may be deleted. -/
namespace L2
open PySem PySem.Spec PyProof.Rows
/-- a key: an int or a str -/
abbrev Key := Sum Int Str
def keyIs : Key → Value → Bool
  | .inl k, v => Value.isInt k v
  | .inr x, v => Value.isStrOf x v
def keyH (w : World) : Key → Int
  | .inl k => hashInt k
  | .inr x => hashStr w x
theorem keyIs_shape : ∀ {k : Key} {v : Value}, keyIs k v = true → (∃ i t, k = Sum.inl i ∧ v = Value.int i t) ∨ (∃ x t, k = Sum.inr x ∧ v = Value.str x t)
  | .inl i, v, h => by
    obtain ⟨t, e⟩ := Value.isInt_shape (k := i) (v := v) h
    exact .inl ⟨i, t, rfl, e⟩
  | .inr x, v, h => by
    obtain ⟨t, e⟩ := Value.isStrOf_shape (x := x) (v := v) h
    exact .inr ⟨x, t, rfl, e⟩
theorem key_ll (a b : Int) : decide ((Sum.inl a : Key) = Sum.inl b) = (a == b) := by
  by_cases e : a = b
  · subst e; simp
  · have h : ¬ (Sum.inl a : Key) = Sum.inl b := fun q => e (Sum.inl.inj q)
    rw [decide_eq_false h]
    exact (beq_eq_false_iff_ne.mpr e).symm
theorem key_rr (a b : Str) : decide ((Sum.inr a : Key) = Sum.inr b) = decide (a = b) := by
  by_cases e : a = b
  · subst e; simp
  · have h : ¬ (Sum.inr a : Key) = Sum.inr b := fun q => e (Sum.inr.inj q)
    rw [decide_eq_false h, decide_eq_false e]
theorem key_lr (a : Int) (b : Str) : decide ((Sum.inl a : Key) = Sum.inr b) = false := decide_eq_false (fun q => nomatch q)
theorem key_rl (a : Str) (b : Int) : decide ((Sum.inr a : Key) = Sum.inl b) = false := decide_eq_false (fun q => nomatch q)
def mixKind (prog : Program) (w : World) : PySem.KeyKind prog w Key where
  is := keyIs
  hash := keyH w
  inj := fun v a b ha hb => by
    rcases keyIs_shape ha with ⟨i, t, rfl, rfl⟩ | ⟨x, t, rfl, rfl⟩
    · rcases keyIs_shape hb with ⟨j, u, rfl, e⟩ | ⟨y, u, rfl, e⟩
      · injection e with e1 _; rw [e1]
      · exact nomatch e
    · rcases keyIs_shape hb with ⟨j, u, rfl, e⟩ | ⟨y, u, rfl, e⟩
      · exact nomatch e
      · injection e with e1 _; rw [e1]
  byValue := fun k v h => by
    rcases keyIs_shape h with ⟨i, t, rfl, rfl⟩ | ⟨x, t, rfl, rfl⟩ <;> rfl
  pyHash := fun hv h => by
    rcases keyIs_shape hv with ⟨i, t, rfl, rfl⟩ | ⟨x, t, rfl, rfl⟩
    · exact wpAny_pyHash_int h
    · exact wpAny_pyHash_str h
  eqBool := fun hu hv h => by
    rcases keyIs_shape hu with ⟨i, t, rfl, rfl⟩ | ⟨x, t, rfl, rfl⟩
    · rcases keyIs_shape hv with ⟨j, u, rfl, rfl⟩ | ⟨y, u, rfl, rfl⟩
      · rw [key_ll] at h; exact wpAny_eqBool_int h
      · rw [key_lr] at h; exact SeqAt.EqAt.int_str i t y u _ _ _ _ h
    · rcases keyIs_shape hv with ⟨j, u, rfl, rfl⟩ | ⟨y, u, rfl, rfl⟩
      · rw [key_rl] at h; exact SeqAt.EqAt.str_int x t j u _ _ _ _ h
      · rw [key_rr] at h; exact wpAny_eqBool_str h
  «strs» := fun k x t v h => by
    rcases keyIs_shape h with ⟨i, u, rfl, e⟩ | ⟨y, u, rfl, e⟩
    · exact nomatch e
    · injection e with e1 _
      subst e1
      cases v <;> rfl
end L2
namespace L2
open PySem PySem.Spec PyProof.Rows
/-- a value, without the heap -/
inductive V where
  | non | bl (b : Bool) | int (i : Int) | str (x : Str) | byt (b : Array UInt8) | flt (b : UInt64) | ref (a : Addr) | ty (n : String)
  deriving DecidableEq
def RelV : V → Value → Prop
  | .non, u => u = Value.none
  | .bl b, u => u = Value.bool b
  | .int i, u => ∃ t, u = Value.int i t
  | .str x, u => ∃ t, u = Value.str x t
  | .byt b, u => ∃ t, u = Value.bytes b t
  | .flt b, u => ∃ t, u = Value.float b t
  | .ref a, u => u = Value.ref a
  | .ty n, u => u = Value.type n
abbrev Vals : List V → List Value → Prop := Paired RelV
theorem Vals.length {xs : List V} {us : List Value} (r : Vals xs us) : xs.length = us.length := Paired.length r
theorem Vals.get : ∀ {xs : List V} {us : List Value} {i : Nat} {x : V}, Vals xs us → xs[i]? = some x → ∃ u, us[i]? = some u ∧ RelV x u
  | _, _, _, _, .nil, e => by simp at e
  | _, _, 0, _, .cons r _, e => by simp at e; subst e; exact ⟨_, rfl, r⟩
  | _, _, i + 1, x, .cons _ t, e => by
    obtain ⟨u, h1, h2⟩ := Vals.get (i := i) (x := x) t (by simpa using e)
    exact ⟨u, by simpa using h1, h2⟩
theorem Vals.set {x : V} {u : Value} (r : RelV x u) : ∀ {xs : List V} {us : List Value} (i : Nat), Vals xs us → Vals (xs.set i x) (us.set i u)
  | _, _, _, .nil => .nil
  | _, _, 0, .cons _ t => .cons r t
  | _, _, i + 1, .cons q t => .cons q (Vals.set r i t)
theorem Vals.append : ∀ {xs ys : List V} {us ws : List Value}, Vals xs us → Vals ys ws → Vals (xs ++ ys) (us ++ ws)
  | _, _, _, _, .nil, s => s
  | _, _, _, _, .cons r t, s => .cons r (Vals.append t s)
theorem Vals.take : ∀ {xs : List V} {us : List Value} (n : Nat), Vals xs us → Vals (xs.take n) (us.take n)
  | _, _, 0, _ => .nil
  | _, _, _ + 1, .nil => .nil
  | _, _, n + 1, .cons r t => .cons r (Vals.take n t)
theorem Vals.drop : ∀ {xs : List V} {us : List Value} (n : Nat), Vals xs us → Vals (xs.drop n) (us.drop n)
  | _, _, 0, r => r
  | _, _, _ + 1, .nil => .nil
  | _, _, n + 1, .cons _ t => Vals.drop n t
def RelO : Option V → Option Value → Prop
  | some v, some u => RelV v u
  | none, none => True
  | _, _ => False
def KV {κ : Type} : List (κ × V) → List (κ × Value) → Prop := Paired fun (p : κ × V) (q : κ × Value) => p.1 = q.1 ∧ RelV p.2 q.2
/-- a key of a dict (00_mix): an int or a text -/
def kV : Key → V
  | .inl i => .int i
  | .inr x => .str x
/-- what stands at a tracked address -/
inductive HO where
  /-- a list -/
  | lst (xs : List V)
  /-- a tuple (never changes) -/
  | tup (xs : List V)
  /-- a dict whose keys are ints and texts; one whose keys are tuples of ints and texts (the empty one is both) -/
  | dK (kvs : List (Key × V)) | dT (kvs : List (List Key × V))
  /-- a set of ints: its members, its size -/
  | set (S : Int → Bool) (n : Nat)
  /-- an instance of the class at C, its dict at dx, its attributes -/
  | ins (C dx : Addr) (fs : List (Str × V))
  /-- the dict of the instance at x -/
  | own (x : Addr)
  /-- the dict of an exception -/
  | xd (fs : List (Str × V))
  /-- a bound method, f of x -/
  | met (f x : Addr)
  /-- a range object lo, lo + 1, .. below hi -/
  | rng (lo hi : Int)
  /-- a thing that is known to the object (the script; a dict while a loop walks it): read, never written while it is so -/
  | frz (o : Obj) (u : HO)
  /-- a code object's table -/
  | tbl (ps : Array Value)
  /-- any other thing, by what is true of its one object (a def of one's own: SetO a S n := HO.ext fun h => ..) -/
  | ext (φ : Heap → Prop)
abbrev Hp := Addr → Option HO
def upd (H : Hp) (a : Addr) (o : HO) : Hp := fun b => if b = a then some o else H b
theorem upd_same {H : Hp} {a : Addr} {o : HO} : upd H a o a = some o := by unfold upd; rw [if_pos rfl]
theorem upd_ne {H : Hp} {a b : Addr} {o : HO} (h : b ≠ a) : upd H a o b = H b := by unfold upd; rw [if_neg h]
/-- two objects of different content stand apart -/
theorem ne_of {H : Hp} {a b : Addr} {o u : HO} (h : H a = some o) (h' : H b = some u) (d : o ≠ u) : a ≠ b := by
  intro e; subst e; rw [h] at h'; exact d (Option.some.inj h')
theorem ne_of_none {H : Hp} {a b : Addr} {o : HO} (h : H a = some o) (h' : H b = none) : a ≠ b := by
  intro e; subst e; rw [h] at h'; cases h'
section
variable (P : Program) (w : World)
def ObjOk (H : Hp) (h : Heap) (a : Addr) : HO → Prop
  | .lst xs => xs.length ≤ sizeLine ∧ ∃ (its : List Value) (n : Nat), Vals xs its ∧ h.get? a = some { cls := .type "list", data := .seq its.toArray n }
  | .tup xs => xs.length ≤ sizeLine ∧ ∃ its : List Value, Vals xs its ∧ IsTup h a its.toArray
  | .dK kvs => kvs.length ≤ sizeLine ∧ (a == sysModules) = false ∧ ∃ vs, KV kvs vs ∧ h.DictOf (mixKind P w) a vs
  | .dT kvs => kvs.length ≤ sizeLine ∧ (a == sysModules) = false ∧ ∃ xs : List (List Key × Addr × Value),
      Paired (fun (p : List Key × V) (q : List Key × Addr × Value) => p.1 = q.1 ∧ H q.2.1 = some (.tup (p.1.map kV)) ∧ RelV p.2 q.2.2) kvs xs ∧
      ∃ o es ep, h.get? a = some o ∧ o.ExactDict ∧ o.data = .dict es ep ∧ es.toList = xs.map (entryOfKey (tupleKind (mixKind P w))) ∧ (xs.map (·.1)).Nodup
  | .set S n => h.SetOf (intKind P w) a S n
  | .ins C dx fs => H dx = some (.own a) ∧ fs.length ≤ 1000 ∧ dx ≠ a ∧ h.get? a = some (PySem.W.instObj C dx) ∧
      ∃ mA, h.Ns1 dx mA ∧ (∀ f, RelO (fs.lookup f) (mA f)) ∧ PySem.Within mA (fs.map (·.1))
  | .own _ => ∃ o, h.get? a = some o
  | .xd fs => ∃ mA, h.Ns1 a mA ∧ ∀ f, RelO (fs.lookup f) (mA f)
  | .rng lo hi => ∃ t u v, h.get? a = some { cls := .type "range", data := .fields #[.int lo t, .int hi u, .int 1 v] }
  | .frz o u => h.get? a = some o ∧ ObjOk H h a u
  | .tbl ps => h.get? a = some { cls := .none, data := .fields ps }
  | .met f x => h.get? a = some (PySem.W.methodObj (.ref f) (.ref x))
  | .ext φ => φ h ∧ (∃ o, h.get? a = some o) ∧ ∀ h1 h2 : Heap, φ h1 → (∀ o, h1.get? a = some o → h2.get? a = some o) → φ h2
/-- the abstract heap is held -/
def HOk (H : Hp) (h : Heap) : Prop := ∀ a o, H a = some o → ObjOk P w H h a o
end
section
variable {P : Program} {w : World} {H H' : Hp} {h h' : Heap} {a : Addr} {o : HO}
theorem ObjOk.lt (x : ObjOk P w H h a o) : a < h.objs.size := by
  cases o with
  | lst xs => obtain ⟨_, _, _, _, e⟩ := x; exact Heap.lt_size e
  | tup xs => obtain ⟨_, _, _, p⟩ := x; exact p.lt
  | dK kvs => obtain ⟨_, _, _, _, o, _, _, e, _⟩ := x; exact Heap.lt_size e
  | dT kvs => obtain ⟨_, _, _, _, o, _, _, e, _⟩ := x; exact Heap.lt_size e
  | set S n => obtain ⟨o, _, _, _, e, _⟩ := x; exact Heap.lt_size e
  | ins C dx fs => obtain ⟨_, _, _, e, _⟩ := x; exact Heap.lt_size e
  | own y => obtain ⟨_, e⟩ := x; exact Heap.lt_size e
  | xd fs => obtain ⟨_, ⟨_, _, _, e, _⟩, _⟩ := x; exact Heap.lt_size e
  | rng lo hi => obtain ⟨_, _, _, e⟩ := x; exact Heap.lt_size e
  | frz ob u => obtain ⟨e, _⟩ := x; exact Heap.lt_size e
  | tbl ps => exact Heap.lt_size (show h.get? a = some _ from x)
  | met f y => exact Heap.lt_size (show h.get? a = some _ from x)
  | ext φ => obtain ⟨_, ⟨_, e⟩, _⟩ := x; exact Heap.lt_size e
theorem Paired.mapP {α β : Type} {F G : α → β → Prop} : ∀ {l₁ : List α} {l₂ : List β}, Paired F l₁ l₂ → (∀ a b, F a b → G a b) → Paired G l₁ l₂
  | _, _, .nil, _ => .nil
  | _, _, .cons r t, f => .cons (f _ _ r) (Paired.mapP t f)
/-- what an object's description leans on: its own object, its own dict, the tuples -/
theorem ObjOk.stay (x : ObjOk P w H h a o) (k : ∀ b u, (b = a ∨ H b = some (.own a)) → h.get? b = some u → h'.get? b = some u)
    (ho : ∀ b, H b = some (.own a) → H' b = some (.own a)) (ht : ∀ b xs, H b = some (.tup xs) → H' b = some (.tup xs)) : ObjOk P w H' h' a o := by
  induction o with
  | lst xs => obtain ⟨z, its, n, r, e⟩ := x; exact ⟨z, its, n, r, k _ _ (.inl rfl) e⟩
  | tup xs => obtain ⟨z, its, r, ob, e, c⟩ := x; exact ⟨z, its, r, ob, k _ _ (.inl rfl) e, c⟩
  | dK kvs => obtain ⟨z, y, vs, r, ob, es, ep, e, c⟩ := x; exact ⟨z, y, vs, r, ob, es, ep, k _ _ (.inl rfl) e, c⟩
  | dT kvs =>
    obtain ⟨z, y, xs, r, ob, es, ep, e, c⟩ := x
    exact ⟨z, y, xs, Paired.mapP r fun p q z => ⟨z.1, ht _ _ z.2.1, z.2.2⟩, ob, es, ep, k _ _ (.inl rfl) e, c⟩
  | set S n => obtain ⟨ob, es, ep, t, e, c⟩ := x; exact ⟨ob, es, ep, t, k _ _ (.inl rfl) e, c⟩
  | ins C dx fs =>
    obtain ⟨d, z, ne, e, mA, ⟨od, es, ep, e2, c⟩, r⟩ := x
    exact ⟨ho _ d, z, ne, k _ _ (.inl rfl) e, mA, ⟨od, es, ep, k _ _ (.inr d) e2, c⟩, r⟩
  | own y => obtain ⟨ob, e⟩ := x; exact ⟨ob, k _ _ (.inl rfl) e⟩
  | xd fs => obtain ⟨mA, ⟨od, es, ep, e, c⟩, r⟩ := x; exact ⟨mA, ⟨od, es, ep, k _ _ (.inl rfl) e, c⟩, r⟩
  | rng lo hi => obtain ⟨t, u, v, e⟩ := x; exact ⟨t, u, v, k _ _ (.inl rfl) e⟩
  | frz ob u ih => obtain ⟨e, q⟩ := x; exact ⟨k _ _ (.inl rfl) e, ih q⟩
  | tbl ps =>
    have e : h.get? a = some { cls := .none, data := .fields ps } := x
    show h'.get? a = some { cls := .none, data := .fields ps }
    exact k a _ (.inl rfl) e
  | met f y =>
    have e : h.get? a = some (PySem.W.methodObj (.ref f) (.ref y)) := x
    show h'.get? a = some (PySem.W.methodObj (.ref f) (.ref y))
    exact k a _ (.inl rfl) e
  | ext φ => obtain ⟨p, ⟨o, e⟩, st⟩ := x; exact ⟨st _ _ p fun o q => k _ _ (.inl rfl) q, ⟨o, k _ _ (.inl rfl) e⟩, st⟩
theorem HOk.lt (x : HOk P w H h) (e : H a = some o) : a < h.objs.size := (x a o e).lt
theorem HOk.fresh (x : HOk P w H h) (e : h.objs.size ≤ a) : H a = none := by
  cases q : H a with
  | none => rfl
  | some u => exact absurd (Nat.lt_of_lt_of_le (x.lt q) e) (Nat.lt_irrefl _)
/-- every object of the heap is kept -/
theorem HOk.kept (x : HOk P w H h) (k : ∀ b u, h.get? b = some u → h'.get? b = some u) : HOk P w H h' := fun a o e =>
  (x a o e).stay (fun b u _ q => k b u q) (fun _ q => q) fun _ _ q => q
/-- a new object is laid and tracked -/
theorem HOk.laid (x : HOk P w H h) (k : ∀ b u, h.get? b = some u → h'.get? b = some u) (hp : h.objs.size ≤ a) (new : ObjOk P w (upd H a o) h' a o) : HOk P w (upd H a o) h' := fun b u e => by
  have hn := x.fresh hp
  by_cases hb : b = a
  · subst hb; rw [upd_same] at e; cases e; exact new
  · rw [upd_ne hb] at e
    exact (x b u e).stay (fun c v _ q => k c v q) (fun c q => by rw [upd_ne (ne_of_none q hn)]; exact q) fun c xs q => by rw [upd_ne (ne_of_none q hn)]; exact q
end
/-- what may be read as u: it is u, or a known u -/
def Rd (H : Hp) (a : Addr) (u : HO) : Prop := H a = some u ∨ ∃ o, H a = some (.frz o u)
theorem Rd.of {H : Hp} {a : Addr} {u : HO} (h : H a = some u) : Rd H a u := .inl h
theorem Rd.ok {P : Program} {w : World} {H : Hp} {h : Heap} {a : Addr} {u : HO} (r : Rd H a u) (x : HOk P w H h) : ObjOk P w H h a u := by
  rcases r with r | ⟨o, r⟩
  · exact x a u r
  · obtain ⟨_, q⟩ := x a _ r
    exact q
/-- what may be written -/
def Mut : Option HO → Prop
  | some (.lst _) => True
  | some (.dK _) => True
  | some (.dT _) => True
  | some (.set _ _) => True
  | some (.ins _ _ _) => True
  | some (.ext _) => True
  | _ => False
section
variable {P : Program} {w : World} {H : Hp} {h h' : Heap} {x e : Addr} {o' : HO}
/-- the object at e is changed: x itself, or the dict of the instance x -/
theorem HOk.write (ok : HOk P w H h) (mu : Mut (H x)) (he : e = x ∨ H e = some (.own x)) (k : ∀ b u, b ≠ e → h.get? b = some u → h'.get? b = some u) (heo : ∃ u, h'.get? e = some u)
    (new : ObjOk P w (upd H x o') h' x o') : HOk P w (upd H x o') h' := fun b u q => by
  have nown : ∀ c y, H c = some (.own y) → c ≠ x := fun c y r z => by subst z; rw [r] at mu; exact mu
  have ntup : ∀ c xs, H c = some (.tup xs) → c ≠ x := fun c xs r z => by subst z; rw [r] at mu; exact mu
  by_cases hb : b = x
  · subst hb; rw [upd_same] at q; cases q; exact new
  · rw [upd_ne hb] at q
    by_cases hbe : b = e
    · have q' : H b = some (.own x) := by
        rcases he with z | z
        · exact absurd (hbe.trans z) hb
        · rw [hbe]; exact z
      rw [q] at q'; cases q'
      obtain ⟨v, hv⟩ := heo
      exact ⟨v, by rw [hbe]; exact hv⟩
    · refine (ok b u q).stay (fun c v hc r => k c v ?_ r) (fun c r => by rw [upd_ne (nown c b r)]; exact r) fun c xs r => by rw [upd_ne (ntup c xs r)]; exact r
      rcases hc with rfl | hc
      · exact hbe
      · rintro rfl
        rcases he with z | z
        · exact nown c b hc z
        · rw [hc] at z; cases z; exact hb rfl
end
/-! ### kept unless tracked; of the frames at fs (the callers') the slots may change (an exception that passes writes there); of the records at ex (iterators) nothing is said -/
structure Un (fs ex : List Addr) (H H' : Hp) (h h' : Heap) : Prop where
  keep : ∀ b o, h.get? b = some o → H b = none → b ∉ fs → b ∉ ex → h'.get? b = some o
  slot : ∀ b o, h.get? b = some o → H b = none → b ∈ fs → b ∉ ex → ∃ sl, h'.get? b = some { o with slots := sl }
  free : ∀ b o, h.get? b = some o → H b = none → b ∉ ex → H' b = none
  there : ∀ b o, h.get? b = some o → b ∉ ex → ∃ o', h'.get? b = some o'
  tups : ∀ b xs, H b = some (.tup xs) → H' b = some (.tup xs)
  frzs : ∀ b o u, H b = some (.frz o u) → H' b = some (.frz o u)
  tbls : ∀ b ps, H b = some (.tbl ps) → ∃ more, H' b = some (.tbl (ps ++ more))
section
variable {fs fs' ex ex' : List Addr} {H H1 H2 : Hp} {h h1 h2 h' : Heap} {a x e : Addr} {o : HO}
theorem Un.any (u : Un fs ex H H1 h h1) {b : Addr} {ob : Obj} (q : h.get? b = some ob) (n : H b = none) (hx : b ∉ ex) : ∃ sl, h1.get? b = some { ob with slots := sl } := by
  by_cases hb : b ∈ fs
  · exact u.slot b ob q n hb hx
  · exact ⟨ob.slots, u.keep b ob q n hb hx⟩
theorem Un.trans (a : Un fs ex H H1 h h1) (b : Un fs ex H1 H2 h1 h2) : Un fs ex H H2 h h2 where
  keep := fun c ob q n hc hx => b.keep c ob (a.keep c ob q n hc hx) (a.free c ob q n hx) hc hx
  slot := fun c ob q n hc hx => by
    obtain ⟨sl, e1⟩ := a.slot c ob q n hc hx
    obtain ⟨sl', e2⟩ := b.slot c _ e1 (a.free c ob q n hx) hc hx
    exact ⟨sl', e2⟩
  free := fun c ob q n hx => by
    obtain ⟨o', e1⟩ := a.there c ob q hx
    exact b.free c o' e1 (a.free c ob q n hx) hx
  there := fun c ob q hx => by
    obtain ⟨o', e1⟩ := a.there c ob q hx
    exact b.there c o' e1 hx
  tups := fun c xs q => b.tups c xs (a.tups c xs q)
  frzs := fun c ob xs q => b.frzs c ob xs (a.frzs c ob xs q)
  tbls := fun c ps q => by
    obtain ⟨m1, e1⟩ := a.tbls c ps q
    obtain ⟨m2, e2⟩ := b.tbls c _ e1
    exact ⟨m1 ++ m2, by rw [e2, Array.append_assoc]⟩
theorem Un.kept (k : ∀ b u, h.get? b = some u → h'.get? b = some u) : Un fs ex H H h h' :=
  ⟨fun b ob q _ _ _ => k b ob q, fun b ob q _ _ _ => ⟨ob.slots, k b ob q⟩, fun _ _ _ n _ => n, fun b ob q _ => ⟨ob, k b ob q⟩, fun _ _ q => q, fun _ _ _ q => q, fun _ ps q => ⟨#[], by rw [q]; simp⟩⟩
theorem Un.refl : Un fs ex H H h h := Un.kept fun _ _ q => q
theorem Un.laid (k : ∀ b u, h.get? b = some u → h'.get? b = some u) (hp : h.objs.size ≤ a) (hn : H a = none) : Un fs ex H (upd H a o) h h' where
  keep := fun b u q _ _ _ => k b u q
  slot := fun b u q _ _ _ => ⟨u.slots, k b u q⟩
  free := fun b u q n _ => by rw [upd_ne (Nat.ne_of_lt (Nat.lt_of_lt_of_le (Heap.lt_size q) hp))]; exact n
  there := fun b u q _ => ⟨u, k b u q⟩
  tups := fun b xs q => by rw [upd_ne (ne_of_none q hn)]; exact q
  frzs := fun b u xs q => by rw [upd_ne (ne_of_none q hn)]; exact q
  tbls := fun b ps q => ⟨#[], by rw [upd_ne (ne_of_none q hn), q]; simp⟩
theorem Un.write (mu : Mut (H x)) (he : e = x ∨ H e = some (.own x)) (k : ∀ b u, b ≠ e → h.get? b = some u → h'.get? b = some u) (heo : ∃ u, h'.get? e = some u) : Un fs ex H (upd H x o) h h' := by
  have hx : ∀ b, H b = none → b ≠ x := fun b n z => by subst z; rw [n] at mu; exact mu
  have hb : ∀ b, H b = none → b ≠ e := fun b n z => by
    subst z
    rcases he with r | r
    · exact hx b n r
    · rw [n] at r; cases r
  have hm : ∀ b u, H b = some u → ¬ Mut (some u) → b ≠ x := fun b u q nm z => by subst z; rw [q] at mu; exact nm mu
  refine ⟨fun b u q n _ _ => k b u (hb b n) q, fun b u q n _ _ => ⟨u.slots, k b u (hb b n) q⟩, fun b u q n _ => by rw [upd_ne (hx b n)]; exact n, fun b u q _ => ?_,
    fun b xs q => by rw [upd_ne (hm b _ q fun z => z)]; exact q, fun b u xs q => by rw [upd_ne (hm b _ q fun z => z)]; exact q, fun b ps q => ⟨#[], by rw [upd_ne (hm b _ q fun z => z), q]; simp⟩⟩
  by_cases hbe : b = e
  · subst hbe; exact heo
  · exact ⟨u, k b u hbe q⟩
theorem Un.mono (u : Un fs ex H H1 h h1) (hs : ∀ b ∈ fs, b ∈ fs') (hx : ∀ b ∈ ex, b ∈ ex') : Un fs' ex' H H1 h h1 :=
  ⟨fun b ob q n hb he => u.keep b ob q n (fun z => hb (hs b z)) fun z => he (hx b z), fun _ _ q n _ he => u.any q n fun z => he (hx _ z), fun b ob q n he => u.free b ob q n fun z => he (hx b z), fun b ob q he => u.there b ob q fun z => he (hx b z), u.tups, u.frzs, u.tbls⟩
end
/-! ### the heap without what is tracked -/
def trk (h : Heap) (H : Hp) : List Addr := (List.range h.objs.size).filter fun a => (H a).isSome
def hidT (h : Heap) (H : Hp) : Heap := PySem.W.hideAll h (trk h H)
theorem hidT_size (h : Heap) (H : Hp) : (hidT h H).objs.size = h.objs.size := PySem.W.hideAll_size _ _
theorem hidT_get {h : Heap} {H : Hp} {b : Addr} {o : Obj} (e : h.get? b = some o) (n : H b = none) : (hidT h H).get? b = some o :=
  PySem.W.hideAll_get _ e fun hm => by
    have q : (H b).isSome = true := (List.mem_filter.mp hm).2
    rw [n] at q; simp at q
theorem of_hidT {h : Heap} {H : Hp} {b : Addr} {o : Obj} (e : (hidT h H).get? b = some o) : h.get? b = some o ∧ H b = none := by
  have e' : h.get? b = some o := PySem.W.of_hideAll (trk h H) e
  refine ⟨e', ?_⟩
  cases q : H b with
  | none => rfl
  | some x =>
    have hm : b ∈ trk h H := List.mem_filter.mpr ⟨List.mem_range.mpr (Heap.lt_size e'), by simp [q]⟩
    have z : (hidT h H).get? b = none := PySem.W.hideAll_none (trk h H) hm
    rw [z] at e; cases e
/-! ### OpenK's ledger, filled with every new object but one -/
def allNews (g h : Heap) (L : Addr) : List (Addr × Obj) := (List.range h.objs.size).filterMap fun a => if a = L ∨ (g.get? a).isSome = true then none else (h.get? a).map fun o => (a, o)
def rest (g h : Heap) (L d : Addr) : List (Addr × Obj) := (allNews g h L).filter fun p => decide (p.1 ≠ d)
end L2
namespace L2
open PySem PySem.Spec PyProof.Rows
/-- the module's facts, over the base: the heap at the law's entry without what is tracked there -/
structure Mod (K : PySem.W.Frag) (mg : Str → Option Value) (base : Heap) : Prop where
  kin : K.In base
  glob : base.Ns mainGlobals mg
  blt : ∃ mb, base.Ns builtinsNs mb ∧ ∀ x : Str, x ≠ "__name__" → mb x = bootBuiltins x
  nolimit : base.NoLimit
/-- the context: a def's body (or a comprehension's block) running. base: fixed through the whole law; s₀, H₀: the entry; outer: the frames whose slots others may change (a def's callers); stack: all frames that run;
   ex: iterators that were made ahead of the entry and are walked here (a comprehension's); fn: the names whose cells were made at the entry (a def: all; a comprehension's block: its own); calm: not within an except suite; pn: pins that every state bears; xe: what is wanted of an exception that leaves the code -/
structure Cx where
  prog : Program
  w : World
  K : PySem.W.Frag
  mg : Str → Option Value
  base : Heap
  A : Around
  N : List Str
  s₀ : Shared
  H₀ : Hp
  env : Env
  outer : List Env
  stack : List Env
  ex : List Addr
  fn : Str → Bool
  calm : Bool
  pn : List (Addr × Obj)
  xe : Value → Shared → Prop
/-- the callers' frames -/
def frs (l : List Env) : List Addr := l.filterMap (·.frame)
abbrev Cx.fs (X : Cx) : List Addr := frs X.outer
def Vis (sc : Scope) (x : Str) : Prop := sc.names.lookup x = some .local ∨ sc.names.lookup x = some .cell ∨ sc.names.lookup x = some .free
def Loc (sc : Scope) (x : Str) : Prop := sc.names.lookup x = some .local ∨ sc.names.lookup x = some .cell
def Look (env : Env) (h : Heap) (m : Str → Option Value) (x : Str) (u : Value) : Prop :=
  (env.kindOf x = some .local ∧ m x = some u) ∨ ((env.kindOf x = some .cell ∨ env.kindOf x = some .free) ∧ ∃ c, env.cells.lookup x = some c ∧ h.IsCell c (some u))
structure Cx.Ok (X : Cx) : Prop where
  mod : Mod X.K X.mg X.base
  kind : X.env.scope.kind = .function
  glob : X.env.globals = mainGlobals
  blt : X.env.builtins = builtinsNs
  above : X.s₀.heap.objs.size ≤ X.env.locals
  inj : ∀ x y c, X.env.cells.lookup x = some c → X.env.cells.lookup y = some c → x = y
  has : ∀ x, (X.env.kindOf x = some .cell ∨ X.env.kindOf x = some .free) → ∃ c, X.env.cells.lookup x = some c
  cab : ∀ x c, X.fn x = true → X.env.cells.lookup x = some c → X.s₀.heap.objs.size ≤ c
  hd : X.calm = true → X.A.handled = none
  frames : X.A.frames = some X.stack
  stk : X.stack = X.outer ∨ (X.stack = X.env :: X.outer ∧ X.env.frame = some X.env.locals)
  exf : ∀ b ∈ X.ex, b ≠ X.env.locals ∧ ∀ x c, X.env.cells.lookup x = some c → c ≠ b
  bs : ∀ b o, X.base.get? b = some o → X.s₀.heap.get? b = some o ∧ X.H₀ b = none
  bsz : X.base.objs.size ≤ X.s₀.heap.objs.size
  noex : ∀ b o, X.base.get? b = some o → b ∉ X.ex
  exfs : ∀ b ∈ X.ex, b ∉ X.fs
  funs : X.s₀.heap.FunFrames X.base X.outer
  frf : ∀ b ∈ X.fs, X.H₀ b = none
structure Inv (X : Cx) (pins : List (Addr × Obj)) (σ : List (Option V)) (H : Hp) (s : Shared) : Prop where
  ok : X.Ok
  os : s.os = X.s₀.os
  bare : AllBare s.gens
  base : Un X.fs X.ex X.H₀ H X.s₀.heap s.heap
  loc : ∃ m, s.heap.Ns X.env.locals m ∧ ∀ (i : Nat) (x : Str) (v : V), X.N[i]? = some x → σ[i]? = some (some v) → Vis X.env.scope x → ∃ u, RelV v u ∧ Look X.env s.heap m x u
  cell : ∀ x c, X.env.cells.lookup x = some c → ∃ v, s.heap.IsCell c v
  free : H X.env.locals = none
  freeC : ∀ x c, X.env.cells.lookup x = some c → H c = none
  pin : ∀ p ∈ X.pn ++ pins, s.heap.get? p.1 = some p.2 ∧ H p.1 = none ∧ p.1 ≠ X.env.locals ∧ p.1 ∉ X.fs ∧ ∀ v, p.2.data ≠ .cell v
  hok : HOk X.prog X.w H s.heap
  len : σ.length = X.N.length
section
variable {X : Cx} {pins : List (Addr × Obj)} {σ : List (Option V)} {H H' : Hp} {s : Shared} {h' : Heap}
theorem Cx.Ok.nofr (ok : X.Ok) {b : Addr} {o : Obj} (e : X.base.get? b = some o) : b ∉ X.fs := fun hb => by
  have := (ok.funs.mem hb).1
  rw [e] at this; cases this
theorem Inv.bs (I : Inv X pins σ H s) : ∀ b o, X.base.get? b = some o → s.heap.get? b = some o ∧ H b = none := fun b o e =>
  ⟨I.base.keep b o (I.ok.bs b o e).1 (I.ok.bs b o e).2 (I.ok.nofr e) (I.ok.noex b o e), I.base.free b o (I.ok.bs b o e).1 (I.ok.bs b o e).2 (I.ok.noex b o e)⟩
theorem Inv.bk (I : Inv X pins σ H s) : ∀ b o, X.base.get? b = some o → s.heap.get? b = some o := fun b o e => (I.bs b o e).1
theorem Inv.mod (I : Inv X pins σ H s) : Mod X.K X.mg X.base := I.ok.mod
theorem Inv.kIn (I : Inv X pins σ H s) : X.K.In s.heap := I.ok.mod.kin.keeps I.bk
theorem Inv.nolimit (I : Inv X pins σ H s) : s.heap.NoLimit := I.ok.mod.nolimit.keeps I.bk
/-- the frame over the base: for OpenK's rules (K.In X.base is I.mod.kin) -/
theorem Inv.fr (I : Inv X pins σ H s) : ∃ m, Fr X.base X.env.locals s.heap m :=
  let ⟨m, hn, _⟩ := I.loc
  ⟨m, hn, I.bk, Nat.le_trans I.ok.bsz I.ok.above⟩
theorem Inv.lt (I : Inv X pins σ H s) : X.env.locals < s.heap.objs.size := let ⟨_, hn, _⟩ := I.loc; hn.lt
theorem Inv.sz (I : Inv X pins σ H s) : X.s₀.heap.objs.size ≤ s.heap.objs.size := Nat.le_trans I.ok.above (Nat.le_of_lt I.lt)
theorem Inv.nofs (I : Inv X pins σ H s) {a : Addr} (h : s.heap.objs.size ≤ a) : a ∉ X.fs := fun hb => by
  obtain ⟨_, o, ho, _⟩ := I.ok.funs.mem hb
  exact absurd (Nat.lt_of_lt_of_le (Heap.lt_size ho) (Nat.le_trans I.sz h)) (Nat.lt_irrefl _)
theorem Inv.cne (I : Inv X pins σ H s) : ∀ x c, X.env.cells.lookup x = some c → c ≠ X.env.locals := fun x c e z => by
  obtain ⟨v, o, ho, hd⟩ := I.cell x c e
  obtain ⟨m, ⟨o', es, ep, ho', hd', _⟩, _⟩ := I.loc
  rw [z, ho'] at ho; cases ho; rw [hd'] at hd; cases hd
theorem Inv.funs (I : Inv X pins σ H s) : s.heap.FunFrames X.base X.outer := by
  have all : ∀ (l : List Env), (∀ b ∈ frs l, b ∈ X.fs) → X.s₀.heap.FunFrames X.base l → s.heap.FunFrames X.base l := by
    intro l
    induction l with
    | nil => intro _ _; trivial
    | cons env r ih =>
      intro hs hl
      obtain ⟨hk, ⟨L, o, hf, hn, ho, hd⟩, hr⟩ := hl
      have hL : L ∈ X.fs := hs L (by unfold frs; rw [List.filterMap_cons, hf]; exact List.mem_cons_self)
      obtain ⟨sl, e⟩ := I.base.slot L o ho (I.ok.frf L hL) hL fun z => I.ok.exfs L z hL
      exact ⟨hk, ⟨L, _, hf, hn, e, hd⟩, ih (fun b hb => hs b (by unfold frs; rw [List.filterMap_cons, hf]; exact List.mem_cons_of_mem _ hb)) hr⟩
  exact all X.outer (fun _ hb => hb) I.ok.funs
/-- the frames that run, for a call -/
theorem Inv.stack (I : Inv X pins σ H s) : s.heap.FunFrames X.base X.stack := by
  rcases I.ok.stk with e | ⟨e, hf⟩
  · rw [e]; exact I.funs
  · rw [e]
    obtain ⟨m, hn, _⟩ := I.loc
    refine .cons (by rw [I.ok.kind]; decide) hf hn ?_ I.funs
    exact Heap.get?_none_of_le (Nat.le_trans I.ok.bsz I.ok.above)
theorem Inv.stkSub (I : Inv X pins σ H s) : ∀ b ∈ frs X.stack, b ∈ X.env.locals :: X.fs := fun b hb => by
  rcases I.ok.stk with e | ⟨e, hf⟩
  · rw [e] at hb; exact List.mem_cons_of_mem _ hb
  · rw [e] at hb
    unfold frs at hb
    rw [List.filterMap_cons, hf] at hb
    exact hb
theorem Inv.stkFree (I : Inv X pins σ H s) : ∀ b ∈ frs X.stack, H b = none := fun b hb => by
  rcases List.mem_cons.mp (I.stkSub b hb) with e | hb
  · rw [e]; exact I.free
  · obtain ⟨_, o, ho, _⟩ := I.ok.funs.mem hb
    exact I.base.free b o ho (I.ok.frf b hb) fun z => I.ok.exfs b z hb
/-- THE STEP: the untracked objects but the frame and the records at ch are kept (the callers' frames up to slots), the frame's map is kept, the new abstract heap is held -/
theorem Inv.step {g' : Array GenState} {t' : Nat} {d' : Drawn} {ch : List Addr} (I : Inv X pins σ H s)
    (hch : ∀ b ∈ ch, (b ∈ X.ex ∨ X.s₀.heap.objs.size ≤ b) ∧ b ≠ X.env.locals ∧ (∀ x c, X.env.cells.lookup x = some c → c ≠ b) ∧ ∀ p ∈ X.pn ++ pins, p.1 ≠ b)
    (keep : ∀ b o, b ≠ X.env.locals → b ∉ X.fs → b ∉ ch → s.heap.get? b = some o → H b = none → h'.get? b = some o)
    (slot : ∀ b o, b ≠ X.env.locals → b ∈ X.fs → b ∉ ch → s.heap.get? b = some o → H b = none → ∃ sl, h'.get? b = some { o with slots := sl }) (free : ∀ b o, b ∉ ch → s.heap.get? b = some o → H b = none → H' b = none)
    (there : ∀ b o, b ∉ ch → s.heap.get? b = some o → ∃ o', h'.get? b = some o')
    (tups : ∀ b xs, H b = some (.tup xs) → H' b = some (.tup xs)) (frzs : ∀ b o u, H b = some (.frz o u) → H' b = some (.frz o u)) (tbls : ∀ b ps, H b = some (.tbl ps) → ∃ more, H' b = some (.tbl (ps ++ more)))
    (ns : ∀ m, s.heap.Ns X.env.locals m → h'.Ns X.env.locals m) (hok : HOk X.prog X.w H' h') (hg : AllBare g') :
    Inv X pins σ H' { s with heap := h', gens := g', drawn := d', toks := t' } := by
  have neL : ∀ b o, X.s₀.heap.get? b = some o → b ≠ X.env.locals := fun b o e => Nat.ne_of_lt (Nat.lt_of_lt_of_le (Heap.lt_size e) I.ok.above)
  have neC : ∀ b o, X.s₀.heap.get? b = some o → b ∉ X.ex → b ∉ ch := fun b o e hx hb => by
    rcases (hch b hb).1 with z | z
    · exact hx z
    · exact absurd (Nat.lt_of_lt_of_le (Heap.lt_size e) z) (Nat.lt_irrefl _)
  have cellK : ∀ x c, X.env.cells.lookup x = some c → ∀ v, s.heap.IsCell c v → h'.IsCell c v := fun x c e v ⟨o, ho, hd⟩ => by
    have nch : c ∉ ch := fun z => (hch c z).2.2.1 x c e rfl
    by_cases hc : c ∈ X.fs
    · obtain ⟨sl, q⟩ := slot c o (I.cne x c e) hc nch ho (I.freeC x c e)
      exact ⟨_, q, hd⟩
    · exact ⟨o, keep c o (I.cne x c e) hc nch ho (I.freeC x c e), hd⟩
  refine ⟨I.ok, I.os, hg, ⟨fun b o e n hb hx => ?_, fun b o e n hb hx => ?_, fun b o e n hx => ?_, fun b o e hx => ?_, fun b xs e => tups b xs (I.base.tups b xs e), fun b o xs e => frzs b o xs (I.base.frzs b o xs e), fun b ps e => ?_⟩, ?_, fun x c e => ?_, ?_, fun x c e => ?_, fun p hp => ?_, hok, I.len⟩
  · exact keep b o (neL b o e) hb (neC b o e hx) (I.base.keep b o e n hb hx) (I.base.free b o e n hx)
  · obtain ⟨sl, e1⟩ := I.base.slot b o e n hb hx
    obtain ⟨sl', e2⟩ := slot b _ (neL b o e) hb (neC b o e hx) e1 (I.base.free b o e n hx)
    exact ⟨sl', e2⟩
  · obtain ⟨o', e1⟩ := I.base.there b o e hx
    exact free b o' (neC b o e hx) e1 (I.base.free b o e n hx)
  · obtain ⟨o', e1⟩ := I.base.there b o e hx
    exact there b o' (neC b o e hx) e1
  · obtain ⟨m1, e1⟩ := I.base.tbls b ps e
    obtain ⟨m2, e2⟩ := tbls b _ e1
    exact ⟨m1 ++ m2, by rw [e2, Array.append_assoc]⟩
  · obtain ⟨m, hn, hl⟩ := I.loc
    refine ⟨m, ns m hn, fun i x v e1 e2 e3 => ?_⟩
    obtain ⟨u, r, l⟩ := hl i x v e1 e2 e3
    refine ⟨u, r, ?_⟩
    rcases l with l | ⟨k, c, e, z⟩
    · exact .inl l
    · exact .inr ⟨k, c, e, cellK x c e _ z⟩
  · obtain ⟨v, z⟩ := I.cell x c e
    exact ⟨v, cellK x c e v z⟩
  · obtain ⟨m, ⟨o, _, _, ho, _⟩, _⟩ := I.loc
    exact free _ o (fun z => (hch _ z).2.1 rfl) ho I.free
  · obtain ⟨v, o, ho, hd⟩ := I.cell x c e
    exact free c o (fun z => (hch c z).2.2.1 x c e rfl) ho (I.freeC x c e)
  · obtain ⟨e, n, ne, nf, d⟩ := I.pin p hp
    have nch : p.1 ∉ ch := fun z => (hch p.1 z).2.2.2 p hp rfl
    exact ⟨keep p.1 p.2 ne nf nch e n, free p.1 p.2 nch e n, ne, nf, d⟩
/-- .. where the frame's own object is kept too -/
theorem Inv.un {t' : Nat} (I : Inv X pins σ H s) (u : Un X.fs [] H H' s.heap h') (hok : HOk X.prog X.w H' h') : Inv X pins σ H' { s with heap := h', toks := t' } := by
  obtain ⟨m, ⟨o, es, ep, ho, r⟩, _⟩ := id I.loc
  obtain ⟨sl, hL⟩ := u.any ho I.free (by simp)
  exact I.step (g' := s.gens) (d' := s.drawn) (ch := []) (fun _ z => nomatch z) (fun b o _ hb _ e n => u.keep b o e n hb (by simp)) (fun b o _ hb _ e n => u.slot b o e n hb (by simp)) (fun b o _ e n => u.free b o e n (by simp)) (fun b o _ e => u.there b o e (by simp)) u.tups u.frzs u.tbls (fun m' hm => by
    obtain ⟨o', es', ep', ho', r'⟩ := hm
    rw [ho] at ho'; cases ho'
    exact ⟨_, es', ep', hL, r'⟩) hok I.bare
/-- behind a call (or a comprehension's block): the slots of this frame may have changed too, the records at ch may have turned -/
theorem Inv.call {g' : Array GenState} {t' : Nat} {d' : Drawn} {ch : List Addr} (I : Inv X pins σ H s) (u : Un (frs X.stack) ch H H' s.heap h') (hok : HOk X.prog X.w H' h') (hg : AllBare g')
    (hch : ∀ b ∈ ch, (b ∈ X.ex ∨ X.s₀.heap.objs.size ≤ b) ∧ b ≠ X.env.locals ∧ (∀ x c, X.env.cells.lookup x = some c → c ≠ b) ∧ ∀ p ∈ X.pn ++ pins, p.1 ≠ b) :
    Inv X pins σ H' { s with heap := h', gens := g', drawn := d', toks := t' } := by
  obtain ⟨m, ⟨o, es, ep, ho, r⟩, _⟩ := id I.loc
  obtain ⟨sl, hL⟩ := u.any ho I.free fun z => (hch _ z).2.1 rfl
  exact I.step (ch := ch) hch (fun b o hL hb hc e n => u.keep b o e n (fun z => (List.mem_cons.mp (I.stkSub b z)).elim hL hb) hc) (fun b o _ _ hc e n => u.any e n hc) (fun b o hc e n => u.free b o e n hc) (fun b o hc e => u.there b o e hc) u.tups u.frzs u.tbls (fun m' hm => by
    obtain ⟨o', es', ep', ho', r'⟩ := hm
    rw [ho] at ho'; cases ho'
    exact ⟨_, es', ep', hL, r'⟩) hok hg
/-- an untracked record of ours (an iterator) has turned -/
theorem Inv.turned {t' : Nat} {it : Addr} (I : Inv X pins σ H s) (k : ∀ b o, b ≠ it → s.heap.get? b = some o → h'.get? b = some o) (hn : H it = none) (hL : it ≠ X.env.locals)
    (h1 : it ∈ X.ex ∨ X.s₀.heap.objs.size ≤ it) (h2 : ∀ x c, X.env.cells.lookup x = some c → c ≠ it) (h3 : ∀ p ∈ X.pn ++ pins, p.1 ≠ it) : Inv X pins σ H { s with heap := h', toks := t' } := by
  have nit : ∀ b u, H b = some u → b ≠ it := fun b u e z => by rw [z, hn] at e; cases e
  refine I.step (g' := s.gens) (d' := s.drawn) (ch := [it]) (fun b hb => ?_) (fun b o _ _ hc e _ => k b o (fun z => hc (by simp [z])) e) (fun b o _ _ hc e _ => ⟨o.slots, k b o (fun z => hc (by simp [z])) e⟩) (fun _ _ _ _ n => n)
    (fun b o hc e => ⟨o, k b o (fun z => hc (by simp [z])) e⟩) (fun _ _ e => e) (fun _ _ _ e => e) (fun b ps e => ⟨#[], by rw [e]; simp⟩) (fun m hm => ?_) (fun b u e => ?_) I.bare
  · have e : b = it := by simpa using hb
    subst e
    exact ⟨h1, hL, h2, h3⟩
  · obtain ⟨o, es, ep, ho, r⟩ := hm
    exact ⟨o, es, ep, k _ o (Ne.symm hL) ho, r⟩
  · refine (I.hok b u e).stay (fun c v hc q => k c v ?_ q) (fun _ q => q) fun _ _ q => q
    rcases hc with z | z
    · rw [z]; exact nit b u e
    · exact nit c _ z
theorem Inv.tok (I : Inv X pins σ H s) (t : Nat) : Inv X pins σ H { s with toks := t } := I.un (h' := s.heap) (t' := t) Un.refl I.hok
/-- all objects kept -/
theorem Inv.kept {t' : Nat} (I : Inv X pins σ H s) (k : ∀ b u, s.heap.get? b = some u → h'.get? b = some u) : Inv X pins σ H { s with heap := h', toks := t' } := I.un (Un.kept k) (I.hok.kept k)
/-- a new object laid and tracked -/
theorem Inv.laid {a : Addr} {o : HO} {t' : Nat} (I : Inv X pins σ H s) (k : ∀ b u, s.heap.get? b = some u → h'.get? b = some u) (hp : s.heap.objs.size ≤ a) (new : ObjOk X.prog X.w (upd H a o) h' a o) :
    Inv X pins σ (upd H a o) { s with heap := h', toks := t' } := I.un (Un.laid k hp (I.hok.fresh hp)) (I.hok.laid k hp new)
/-- an object written -/
theorem Inv.write {x e : Addr} {o : HO} {t' : Nat} (I : Inv X pins σ H s) (mu : Mut (H x)) (he : e = x ∨ H e = some (.own x)) (k : ∀ b u, b ≠ e → s.heap.get? b = some u → h'.get? b = some u) (heo : ∃ u, h'.get? e = some u)
    (new : ObjOk X.prog X.w (upd H x o) h' x o) : Inv X pins σ (upd H x o) { s with heap := h', toks := t' } := I.un (Un.write mu he k heo) (I.hok.write mu he k heo new)
theorem Inv.pins_of {pins' : List (Addr × Obj)} (I : Inv X pins σ H s) (h : ∀ p ∈ pins', s.heap.get? p.1 = some p.2 ∧ H p.1 = none ∧ p.1 ≠ X.env.locals ∧ p.1 ∉ X.fs ∧ ∀ v, p.2.data ≠ .cell v) : Inv X pins' σ H s :=
  ⟨I.ok, I.os, I.bare, I.base, I.loc, I.cell, I.free, I.freeC, fun p hp => (List.mem_append.mp hp).elim (fun z => I.pin p (List.mem_append_left _ z)) (h p), I.hok, I.len⟩
theorem nodup_ix {N : List Str} (hN : N.Nodup) {i j : Nat} {x : Str} (a : N[i]? = some x) (b : N[j]? = some x) : i = j := by
  obtain ⟨h1, e1⟩ := List.getElem?_eq_some_iff.mp a
  obtain ⟨h2, e2⟩ := List.getElem?_eq_some_iff.mp b
  exact (List.getElem_inj hN).mp (e1.trans e2.symm)
/-- a name is stored; what changed -/
theorem store_ok2 {M : Model} {A : Around} {E : Value → Shared → Prop} {i : Nat} {x : Str} {v : V} {u : Value} {Q : Unit → Shared → Prop} (I : Inv X pins σ H s) (hN : X.N.Nodup) (hi : X.N[i]? = some x) (hx : Loc X.env.scope x) (r : RelV v u)
    (h : ∀ s', Inv X pins (σ.set i (some v)) H s' → (∃ a, Heap.SameBut a s.heap s'.heap ∧ (a = X.env.locals ∨ X.env.cells.lookup x = some a)) → Q () s') (hf : X.fn x = true ∨ X.env.scope.names.lookup x = some .local := by first | exact .inl rfl | exact .inr rfl | assumption) : wpAny M A (storeName X.env x u) Q E s := by
  obtain ⟨m, hn, hl⟩ := id I.loc
  have hcls : (X.env.scope.kind == .class || (X.env.scope.kind == .module && X.env.locals != X.env.globals)) = false := by rw [I.ok.kind]; rfl
  have hiσ : i < σ.length := by rw [I.len]; exact (List.getElem?_eq_some_iff.mp hi).1
  have cne := I.cne
  have tracked : ∀ {a : Addr} {h' : Heap}, (∃ o, s.heap.get? a = some o ∧ H a = none) → Heap.SameBut a s.heap h' → HOk X.prog X.w H h' := fun {a h'} ha hs b ob e => by
    obtain ⟨_, _, hfree⟩ := ha
    refine (I.hok b ob e).stay (fun c w' hc q => (hs.2 c ?_).trans q) (fun _ q => q) fun _ _ q => q
    rintro rfl
    rcases hc with rfl | hc
    · rw [hfree] at e; cases e
    · rw [hfree] at hc; cases hc
  rcases hx with hk | hk
  · refine wpAny_storeName_local hk hn (fun h' hn' hs => ?_) hcls
    obtain ⟨oL, _, _, hoL, _⟩ := id hn
    refine h _ ⟨I.ok, I.os, I.bare, ⟨fun b o e n hb hx => ?_, fun b o e n hb hx => ?_, I.base.free, fun b o e hx => ?_, I.base.tups, I.base.frzs, I.base.tbls⟩, ⟨_, hn', fun j y v' e1 e2 e3 => ?_⟩, fun y c e => ?_, I.free, I.freeC, fun p hp => ?_, tracked ⟨oL, hoL, I.free⟩ hs, by simpa using I.len⟩ ⟨_, hs, .inl rfl⟩
    · exact (hs.2 b (Nat.ne_of_lt (Nat.lt_of_lt_of_le (Heap.lt_size e) I.ok.above))).trans (I.base.keep b o e n hb hx)
    · obtain ⟨sl, e1⟩ := I.base.slot b o e n hb hx
      exact ⟨sl, (hs.2 b (Nat.ne_of_lt (Nat.lt_of_lt_of_le (Heap.lt_size e) I.ok.above))).trans e1⟩
    · obtain ⟨o', e1⟩ := I.base.there b o e hx
      exact ⟨o', (hs.2 b (Nat.ne_of_lt (Nat.lt_of_lt_of_le (Heap.lt_size e) I.ok.above))).trans e1⟩
    · by_cases hj : j = i
      · subst hj
        rw [hi] at e1; cases e1
        rw [List.getElem?_set_self hiσ] at e2
        cases e2
        exact ⟨u, r, .inl ⟨hk, by simp⟩⟩
      · rw [List.getElem?_set_ne (Ne.symm hj)] at e2
        obtain ⟨u', r', q⟩ := hl j y v' e1 e2 e3
        refine ⟨u', r', ?_⟩
        rcases q with ⟨k, e⟩ | ⟨k, c, e, z⟩
        · refine .inl ⟨k, ?_⟩
          have : y ≠ x := fun e => hj (nodup_ix hN e1 (e ▸ hi))
          simp [this, e]
        · exact .inr ⟨k, c, e, z.sameBut hs (cne y c e)⟩
    · obtain ⟨w', z⟩ := I.cell y c e
      exact ⟨w', z.sameBut hs (cne y c e)⟩
    · obtain ⟨e, n, ne, nf, d⟩ := I.pin p hp
      exact ⟨(hs.2 p.1 ne).trans e, n, ne, nf, d⟩
  · have hfn : X.fn x = true := by
      rcases hf with z | z
      · exact z
      · rw [z] at hk; cases hk
    obtain ⟨c, hc⟩ := I.ok.has x (.inl hk)
    obtain ⟨w', z⟩ := I.cell x c hc
    refine wpAny_storeName_cell I.ok.kind hk hc z (fun h' hc' hs => ?_)
    obtain ⟨oc, hoc, hocd⟩ := id z
    refine h { s with heap := h' } ⟨I.ok, I.os, I.bare, ⟨fun b o e n hb hx => ?_, fun b o e n hb hx => ?_, I.base.free, fun b o e hx => ?_, I.base.tups, I.base.frzs, I.base.tbls⟩, ⟨m, hn.sameBut hs (Ne.symm (cne x c hc)), fun j y v' e1 e2 e3 => ?_⟩, fun y c' e => ?_, I.free, I.freeC, fun p hp => ?_, tracked ⟨oc, hoc, I.freeC x c hc⟩ hs, by simpa using I.len⟩ ⟨c, hs, .inr hc⟩
    · exact (hs.2 b (Nat.ne_of_lt (Nat.lt_of_lt_of_le (Heap.lt_size e) (I.ok.cab x c hfn hc)))).trans (I.base.keep b o e n hb hx)
    · obtain ⟨sl, e1⟩ := I.base.slot b o e n hb hx
      exact ⟨sl, (hs.2 b (Nat.ne_of_lt (Nat.lt_of_lt_of_le (Heap.lt_size e) (I.ok.cab x c hfn hc)))).trans e1⟩
    · obtain ⟨o', e1⟩ := I.base.there b o e hx
      exact ⟨o', (hs.2 b (Nat.ne_of_lt (Nat.lt_of_lt_of_le (Heap.lt_size e) (I.ok.cab x c hfn hc)))).trans e1⟩
    · by_cases hj : j = i
      · subst hj
        rw [hi] at e1; cases e1
        rw [List.getElem?_set_self hiσ] at e2
        cases e2
        exact ⟨u, r, .inr ⟨.inl hk, c, hc, hc'⟩⟩
      · rw [List.getElem?_set_ne (Ne.symm hj)] at e2
        obtain ⟨u', r', q⟩ := hl j y v' e1 e2 e3
        refine ⟨u', r', ?_⟩
        rcases q with q | ⟨k, c', e, z'⟩
        · exact .inl q
        · refine .inr ⟨k, c', e, z'.sameBut hs ?_⟩
          rintro rfl
          exact hj (nodup_ix hN e1 (I.ok.inj _ _ _ e hc ▸ hi))
    · by_cases hcc : c' = c
      · subst hcc; exact ⟨_, hc'⟩
      · obtain ⟨w2, z2⟩ := I.cell y c' e
        exact ⟨w2, z2.sameBut hs hcc⟩
    · obtain ⟨e, n, ne, nf, d⟩ := I.pin p hp
      refine ⟨(hs.2 p.1 ?_).trans e, n, ne, nf, d⟩
      intro q
      rw [q, hoc] at e
      have q' : oc = p.2 := Option.some.inj e
      exact d w' (by rw [← q']; exact hocd)
theorem store_ok {M : Model} {A : Around} {E : Value → Shared → Prop} {i : Nat} {x : Str} {v : V} {u : Value} {Q : Unit → Shared → Prop} (I : Inv X pins σ H s) (hN : X.N.Nodup) (hi : X.N[i]? = some x) (hx : Loc X.env.scope x) (r : RelV v u)
    (h : ∀ s', Inv X pins (σ.set i (some v)) H s' → Q () s') (hf : X.fn x = true ∨ X.env.scope.names.lookup x = some .local := by first | exact .inl rfl | exact .inr rfl | assumption) : wpAny M A (storeName X.env x u) Q E s :=
  store_ok2 I hN hi hx r (fun s' I' _ => h s' I') hf
/-- behind a call or a block, the state as it is -/
theorem Inv.call' {s' : Shared} {ch : List Addr} (I : Inv X pins σ H s) (ho : s'.os = s.os) (u : Un (frs X.stack) ch H H' s.heap s'.heap) (hok : HOk X.prog X.w H' s'.heap) (hg : AllBare s'.gens)
    (hch : ∀ b ∈ ch, (b ∈ X.ex ∨ X.s₀.heap.objs.size ≤ b) ∧ b ≠ X.env.locals ∧ (∀ x c, X.env.cells.lookup x = some c → c ≠ b) ∧ ∀ p ∈ X.pn ++ pins, p.1 ≠ b) : Inv X pins σ H' s' := by
  obtain ⟨h', g', d', t', o'⟩ := s'
  have e : o' = s.os := ho
  subst e
  exact I.call (g' := g') (t' := t') (d' := d') u hok hg hch
end
/-! ### the judgements -/
/-- an exception: its class, its own dict's address (where it has one), the abstract heap behind it -/
abbrev XK := Value → Option Addr → Hp → Prop
abbrev St := List (Option V)
abbrev VK := V → Hp → Prop
/-- an expression's reading; a test's; an argument list's -/
abbrev TE := St → Hp → VK → Prop
abbrev TT := St → Hp → (Bool → Hp → Prop) → Prop
abbrev TA := St → Hp → (List V → Hp → Prop) → Prop
/-- what is wanted behind a statement -/
structure Ends where
  nx : St → Hp → Prop
  rt : VK
  bk : St → Hp → Prop := fun _ _ => False
  ct : St → Hp → Prop := fun _ _ => False
abbrev TS := Ends → St → Hp → Prop
def EP (X : Cx) (pins : List (Addr × Obj)) (σ : St) (Q : VK) (u : Value) (s' : Shared) : Prop := ∃ v H', Inv X pins σ H' s' ∧ RelV v u ∧ Q v H'
def TP (X : Cx) (pins : List (Addr × Obj)) (σ : St) (Q : Bool → Hp → Prop) (b : Bool) (s' : Shared) : Prop := ∃ H', Inv X pins σ H' s' ∧ Q b H'
def AP (X : Cx) (pins : List (Addr × Obj)) (σ : St) (Q : List V → Hp → Prop) (us : List Value) (s' : Shared) : Prop := ∃ vs H', Inv X pins σ H' s' ∧ Vals vs us ∧ Q vs H'
def SP (X : Cx) (pins : List (Addr × Obj)) (D : Ends) (f : Flow) (s' : Shared) : Prop :=
  match f with
  | .next => ∃ σ' H', Inv X pins σ' H' s' ∧ D.nx σ' H'
  | .brk => ∃ σ' H', Inv X pins σ' H' s' ∧ D.bk σ' H'
  | .cont => ∃ σ' H', Inv X pins σ' H' s' ∧ D.ct σ' H'
  | .ret u => ∃ v σ' H', Inv X pins σ' H' s' ∧ RelV v u ∧ D.rt v H'
def PE (X : Cx) (e : Expr) (t : TE) : Prop :=
  ∀ (pins : List (Addr × Obj)) (s : Shared) (σ : St) (H : Hp) (Q : VK), Inv X pins σ H s → t σ H Q → wpAny (model X.prog X.w) X.A (eval e X.env) (EP X pins σ Q) X.xe s
def PT (X : Cx) (e : Expr) (t : TT) : Prop :=
  ∀ (pins : List (Addr × Obj)) (s : Shared) (σ : St) (H : Hp) (Q : Bool → Hp → Prop), Inv X pins σ H s → t σ H Q → wpAny (model X.prog X.w) X.A (isTrue e X.env (eval e X.env)) (TP X pins σ Q) X.xe s
/-- a test whatever its 'whole' is (and, or) -/
def PW (X : Cx) (e : Expr) (t : TT) : Prop :=
  ∀ (whole : Sem Value) (pins : List (Addr × Obj)) (s : Shared) (σ : St) (H : Hp) (Q : Bool → Hp → Prop), Inv X pins σ H s → t σ H Q → wpAny (model X.prog X.w) X.A (isTrue e X.env whole) (TP X pins σ Q) X.xe s
theorem PW.pt {X : Cx} {e : Expr} {t : TT} (h : PW X e t) : PT X e t := h _
/-- an argument list (no star), from the left -/
def PA (X : Cx) (es : List Expr) (t : TA) : Prop :=
  ∀ (pos : Pos) (pins : List (Addr × Obj)) (s : Shared) (σ : St) (H : Hp) (Q : List V → Hp → Prop), Inv X pins σ H s → t σ H Q → wpAny (model X.prog X.w) X.A (spliced (backTo pos (starEach es X.env))) (AP X pins σ Q) X.xe s
def PS (X : Cx) (st : Stmt) (t : TS) : Prop :=
  ∀ (pins : List (Addr × Obj)) (s : Shared) (σ : St) (H : Hp) (D : Ends), Inv X pins σ H s → t D σ H → wpAny (model X.prog X.w) X.A (exec st X.env) (SP X pins D) X.xe s
def PSs (X : Cx) (st : List Stmt) (t : TS) : Prop :=
  ∀ (pins : List (Addr × Obj)) (s : Shared) (σ : St) (H : Hp) (D : Ends), Inv X pins σ H s → t D σ H → wpAny (model X.prog X.w) X.A (execs st X.env) (SP X pins D) X.xe s
/-- weaken the end -/
theorem thn {α : Type} {t : Sem α} {Q Q' : α → Shared → Prop} {M : Model} {A : Around} {E : Value → Shared → Prop} {s : Shared} (h : wpAny M A t Q E s) (hQ : ∀ a s, Q a s → Q' a s) : wpAny M A t Q' E s := wpAny_mono h hQ fun _ _ x => x
end L2
namespace L2
open PySem PySem.Spec PyProof.Rows
section
variable {X : Cx}
/-! ### names and constants -/
def tVar (i : Nat) : TE := fun σ H Q => ∃ v, σ[i]? = some (some v) ∧ Q v H
def tC (v : V) : TE := fun _ H Q => Q v H
theorem pe_var {i : Nat} {x : Str} {pos : Pos} (hN : X.N[i]? = some x) (hv : Vis X.env.scope x) (hd : (x == ("__debug__" : Str)) = false := by decide) (hcd : (x == ("__classdict__" : Str)) = false := by decide) : PE X (.Name x pos) (tVar i) := by
  intro pins s σ H Q I h
  obtain ⟨v, e, h⟩ := h
  obtain ⟨m, hn, hl⟩ := I.loc
  obtain ⟨u, r, l⟩ := hl i x v hN e hv
  have fin : EP X pins σ Q u s := ⟨v, H, I, r, h⟩
  rcases l with ⟨hk, hm⟩ | ⟨hk, c, hc, hcell⟩
  · exact wpAny_Name (wpAny_loadName_local I.ok.kind hk hn hm fin) hd
  · rcases hk with hk | hk
    · exact wpAny_Name (wpAny_loadName_cell I.ok.kind hk hc hcell fin) hd
    · exact wpAny_Name (wpAny_loadName_free I.ok.kind hk hc hcell fin hcd) hd
theorem pe_int {i j pos} : PE X (.Constant (.int i) j pos) (tC (.int i)) := fun _ _ _ H _ I h => wpAny_Constant_int ⟨.int i, H, I.tok _, ⟨_, rfl⟩, h⟩
theorem pe_bl {b j pos} : PE X (.Constant (.bool b) j pos) (tC (.bl b)) := fun _ _ _ H _ I h => Constant_bool ⟨.bl b, H, I, rfl, h⟩
theorem pe_non {j pos} : PE X (.Constant .none j pos) (tC .non) := fun _ _ _ H _ I h => Constant_none ⟨.non, H, I, rfl, h⟩
theorem pe_str {x j pos} : PE X (.Constant (.str x) j pos) (tC (.str x)) := fun _ _ _ H _ I h => Calls.Constant_str ⟨.str x, H, I.tok _, ⟨_, rfl⟩, h⟩
/-- a global name of the def -/
def Gl (X : Cx) (x : Str) : Prop := X.env.kindOf x = some .globalImplicit
theorem ld_glob {E : Value → Shared → Prop} {pins : List (Addr × Obj)} {s : Shared} {σ : St} {H : Hp} {x : Str} {u : Value} {pos : Pos} {Q : Value → Shared → Prop} (I : Inv X pins σ H s) (hg : Gl X x) (hm : X.mg x = some u) (h : Q u s)
    (hd : (x == ("__debug__" : Str)) = false := by decide) : wpAny (model X.prog X.w) X.A (eval (.Name x pos) X.env) Q E s :=
  Calls.Name_function_global I.ok.kind hg (Calls.loadGlobal_global (by rw [I.ok.glob]; exact I.mod.glob.keeps I.bk) hm h) hd
theorem ld_blt {E : Value → Shared → Prop} {pins : List (Addr × Obj)} {s : Shared} {σ : St} {H : Hp} {x : Str} {u : Value} {pos : Pos} {Q : Value → Shared → Prop} (I : Inv X pins σ H s) (hg : Gl X x) (hm : X.mg x = none) (hv : bootBuiltins x = some u) (h : Q u s)
    (hn : x ≠ "__name__" := by decide) (hd : (x == ("__debug__" : Str)) = false := by decide) : wpAny (model X.prog X.w) X.A (eval (.Name x pos) X.env) Q E s := by
  obtain ⟨mb, h1, h2⟩ := I.mod.blt
  exact Calls.Name_function_global I.ok.kind hg (Calls.loadGlobal_builtin (by rw [I.ok.glob]; exact I.mod.glob.keeps I.bk) hm (by rw [I.ok.blt]; exact h1.keeps I.bk) ((h2 x hn).trans hv) h) hd
/-- a module's constant, a class, a function, as a value -/
theorem pe_glob {x : Str} {v : V} {u : Value} {pos : Pos} (hg : Gl X x) (hm : X.mg x = some u) (r : RelV v u) (hd : (x == ("__debug__" : Str)) = false := by decide) : PE X (.Name x pos) (tC v) :=
  fun _ _ _ H _ I h => ld_glob I hg hm ⟨v, H, I, r, h⟩ hd
theorem pe_bltn {x : Str} {v : V} {u : Value} {pos : Pos} (hg : Gl X x) (hm : X.mg x = none) (hv : bootBuiltins x = some u) (r : RelV v u) (hn : x ≠ "__name__" := by decide) (hd : (x == ("__debug__" : Str)) = false := by decide) : PE X (.Name x pos) (tC v) :=
  fun _ _ _ H _ I h => ld_blt I hg hm hv ⟨v, H, I, r, h⟩ hn hd
/-! ### arithmetic -/
variable {a b : Expr} {ta tb : TE} {pos : Pos}
/-! ### comparisons -/
def PC (X : Cx) (op : CmpOp) (a b : Expr) (t : TE) : Prop :=
  ∀ (pins : List (Addr × Obj)) (s : Shared) (σ : St) (H : Hp) (Q : VK), Inv X pins σ H s → t σ H Q →
    wpAny (model X.prog X.w) X.A (eval a X.env) (fun v s₁ => wpAny (model X.prog X.w) X.A (eval b X.env) (fun u s₂ => wpAny (model X.prog X.w) X.A (compareOp op v u) (EP X pins σ Q) X.xe s₂) X.xe s₁) X.xe s
theorem nobehind (b : Expr) {op : CmpOp} (h : op ≠ .In) (h2 : op ≠ .NotIn) : behindInMarks op b = false := by
  have e1 : (op == CmpOp.In) = false := by cases op <;> first | rfl | exact absurd rfl h
  have e2 : (op == CmpOp.NotIn) = false := by cases op <;> first | rfl | exact absurd rfl h2
  cases b <;> simp [behindInMarks, e1, e2]
/-- is None -/
def tIsN (ta : TE) : TE := fun σ H Q => ta σ H fun x H1 => Q (.bl (decide (x = .non))) H1
def tNotN (ta : TE) : TE := fun σ H Q => ta σ H fun x H1 => Q (.bl (!decide (x = .non))) H1
theorem RelV.none_iff {x : V} {v : Value} (r : RelV x v) : (v == Value.none) = decide (x = .non) := by
  cases x with
  | non => cases r; rfl
  | bl _ => cases r; rfl
  | int _ => obtain ⟨t, rfl⟩ := r; rfl
  | str _ => obtain ⟨t, rfl⟩ := r; rfl
  | byt _ => obtain ⟨t, rfl⟩ := r; rfl
  | flt _ => obtain ⟨t, rfl⟩ := r; rfl
  | ref _ => cases r; rfl
  | ty _ => cases r; rfl
theorem pc_isN {j pos'} (ha : PE X a ta) : PC X .Is a (.Constant .none j pos') (tIsN ta) := by
  intro pins s σ H Q I h
  refine thn (ha pins s σ H _ I h) fun v s1 ⟨x, H1, I1, r1, q1⟩ => ?_
  exact Constant_none (is_none_gen ⟨.bl _, H1, I1, by rw [r1.none_iff]; rfl, q1⟩)
theorem pc_notN {j pos'} (ha : PE X a ta) : PC X .IsNot a (.Constant .none j pos') (tNotN ta) := by
  intro pins s σ H Q I h
  refine thn (ha pins s σ H _ I h) fun v s1 ⟨x, H1, I1, r1, q1⟩ => ?_
  exact Constant_none (isnot_none_gen ⟨.bl _, H1, I1, by rw [r1.none_iff]; rfl, q1⟩)
/-- a comparison as a value, as a test -/
def tB (t : TE) : TT := fun σ H Q => t σ H fun x H1 => ∃ c, x = .bl c ∧ Q c H1
theorem pe_cmp {op : CmpOp} {t : TE} (h : PC X op a b t) (h1 : behindInMarks op b = false := by first | exact nobehind _ (by decide) (by decide) | rfl) : PE X (.Compare a [op] [b] pos) t := fun pins s σ H Q I hw => wpAny_Compare1 (h pins s σ H Q I hw) h1
theorem pt_cmp {op : CmpOp} {t : TE} (h : PC X op a b t) (h1 : behindInMarks op b = false := by first | exact nobehind _ (by decide) (by decide) | rfl) : PT X (.Compare a [op] [b] pos) (tB t) := by
  intro pins s σ H Q I hw
  refine wpAny_isTrue_Compare1 (thn (h pins s σ H _ I hw) fun v s1 h1 => thn h1 fun u s2 h2 => thn h2 fun c s3 ⟨x, H1, I1, r1, q1⟩ => ?_) h1
  obtain ⟨d, rfl, q⟩ := q1
  cases r1
  exact wpAny_truthy_bool ⟨H1, I1, q⟩
/-- an expression whose value is a bool, as a test -/
theorem pt_val {e : Expr} {t : TE} (h : PE X e t) (he : ∀ whole, isTrue e X.env whole = (do let v ← whole; standAt e.pos; holding [v] (truthy v)) := by intro _; rfl) : PT X e (tB t) := by
  intro pins s σ H Q I hw
  refine isTrue_plain (thn (h pins s σ H _ I hw) fun v s1 ⟨x, H1, I1, r1, q1⟩ => ?_) (he _)
  obtain ⟨d, rfl, q⟩ := q1
  cases r1
  exact wpAny_truthy_bool ⟨H1, I1, q⟩
/-! ### and, or, not -/
variable {tA tB' : TT} {rest : List Expr}
def tAnd (t u : TT) : TT := fun σ H Q => t σ H fun c H1 => if c = true then u σ H1 Q else Q false H1
def tOr (t u : TT) : TT := fun σ H Q => t σ H fun c H1 => if c = true then Q true H1 else u σ H1 Q
def tNot (t : TT) : TT := fun σ H Q => t σ H fun c H1 => Q (!c) H1
theorem pw_and1 (ha : PT X a tA) : PW X (.BoolOp .And [a] pos) tA := by
  intro wh pins s σ H Q I h
  refine isTrue_and (thn (ha pins s σ H Q I h) fun c s1 e => ?_)
  cases c with
  | true => exact isTrue_and_nil e
  | false => exact e
theorem pw_or1 (ha : PT X a tA) : PW X (.BoolOp .Or [a] pos) tA := by
  intro wh pins s σ H Q I h
  refine isTrue_or (thn (ha pins s σ H Q I h) fun c s1 e => ?_)
  cases c with
  | false => exact isTrue_or_nil e
  | true => exact e
theorem pw_and (ha : PT X a tA) (hb : PW X (.BoolOp .And (b :: rest) pos) tB') : PW X (.BoolOp .And (a :: b :: rest) pos) (tAnd tA tB') := by
  intro wh pins s σ H Q I h
  refine isTrue_and (thn (ha pins s σ H _ I h) fun c s1 ⟨H1, I1, q1⟩ => ?_)
  cases c with
  | true => exact hb wh pins s1 σ H1 Q I1 q1
  | false => exact ⟨H1, I1, q1⟩
theorem pw_or (ha : PT X a tA) (hb : PW X (.BoolOp .Or (b :: rest) pos) tB') : PW X (.BoolOp .Or (a :: b :: rest) pos) (tOr tA tB') := by
  intro wh pins s σ H Q I h
  refine isTrue_or (thn (ha pins s σ H _ I h) fun c s1 ⟨H1, I1, q1⟩ => ?_)
  cases c with
  | true => exact ⟨H1, I1, q1⟩
  | false => exact hb wh pins s1 σ H1 Q I1 q1
theorem pt_not (ha : PT X a tA) : PT X (.UnaryOp .Not a pos) (tNot tA) := by
  intro pins s σ H Q I h
  exact isTrue_not (ha pins s σ H (fun c H1 => Q (!c) H1) I h)
/-- .. as values (bools) -/
def tAndV (ta tb : TE) : TE := fun σ H Q => ta σ H fun x H1 => ∃ c, x = .bl c ∧ if c = true then tb σ H1 Q else Q (.bl false) H1
def tOrV (ta tb : TE) : TE := fun σ H Q => ta σ H fun x H1 => ∃ c, x = .bl c ∧ if c = true then Q (.bl true) H1 else tb σ H1 Q
def tNotV (ta : TE) : TE := fun σ H Q => ta σ H fun x H1 => ∃ c, x = .bl c ∧ Q (.bl (!c)) H1
theorem pe_one {op} {t : TE} (h : PE X a t) : PE X (.BoolOp op [a] pos) t := fun pins s σ H Q I hw => BoolOp_one (h pins s σ H Q I hw)
theorem pe_and (ha : PE X a ta) (hb : PE X (.BoolOp .And (b :: rest) pos) tb) : PE X (.BoolOp .And (a :: b :: rest) pos) (tAndV ta tb) := by
  intro pins s σ H Q I h
  refine BoolOp_and (thn (ha pins s σ H _ I h) fun v s1 ⟨x, H1, I1, r1, q1⟩ => ?_)
  obtain ⟨c, rfl, q1⟩ := q1
  cases r1
  refine wpAny_truthy_bool ?_
  cases c with
  | true => exact hb pins s1 σ H1 Q I1 q1
  | false => exact ⟨.bl false, H1, I1, rfl, q1⟩
theorem pe_or (ha : PE X a ta) (hb : PE X (.BoolOp .Or (b :: rest) pos) tb) : PE X (.BoolOp .Or (a :: b :: rest) pos) (tOrV ta tb) := by
  intro pins s σ H Q I h
  refine BoolOp_or (thn (ha pins s σ H _ I h) fun v s1 ⟨x, H1, I1, r1, q1⟩ => ?_)
  obtain ⟨c, rfl, q1⟩ := q1
  cases r1
  refine wpAny_truthy_bool ?_
  cases c with
  | false => exact hb pins s1 σ H1 Q I1 q1
  | true => exact ⟨.bl true, H1, I1, rfl, q1⟩
theorem pe_not (ha : PE X a ta) : PE X (.UnaryOp .Not a pos) (tNotV ta) := by
  intro pins s σ H Q I h
  refine UnaryOp_ (thn (ha pins s σ H _ I h) fun v s1 ⟨x, H1, I1, r1, q1⟩ => ?_)
  obtain ⟨c, rfl, q1⟩ := q1
  cases r1
  exact not_of (wpAny_truthy_bool ⟨.bl (!c), H1, I1, rfl, q1⟩)
/-- a if t else b -/
def tIf (t : TT) (ta tb : TE) : TE := fun σ H Q => t σ H fun c H1 => if c = true then ta σ H1 Q else tb σ H1 Q
theorem pe_ifExp {c : Expr} (hc : PT X c tA) (ha : PE X a ta) (hb : PE X b tb) : PE X (.IfExp c a b pos) (tIf tA ta tb) := by
  intro pins s σ H Q I h
  refine wpAny_IfExp (thn (hc pins s σ H _ I h) fun d s1 ⟨H1, I1, q1⟩ => ?_)
  cases d with
  | true => exact ha pins s1 σ H1 Q I1 q1
  | false => exact hb pins s1 σ H1 Q I1 q1
end
end L2
namespace L2
open PySem PySem.Spec PyProof.Rows
/-! ### a list, a tuple that is read: tracked, frozen, or an object of the module -/
def SqL (K : PySem.W.Frag) (H : Hp) (a : Addr) (xs : List V) : Prop :=
  Rd H a (.lst xs) ∨
    ∃ (o : Obj) (its : Array Value) (n : Nat), K.lookup a = some o ∧ o.cls = .type "list" ∧ o.dict = none ∧ o.data = .seq its n ∧ its.size ≤ sizeLine ∧ Vals xs its.toList
def SqT (K : PySem.W.Frag) (H : Hp) (a : Addr) (xs : List V) : Prop :=
  Rd H a (.tup xs) ∨
    ∃ (o : Obj) (its : Array Value) (n : Nat), K.lookup a = some o ∧ o.cls = .type "tuple" ∧ o.data = .seq its n ∧ its.size ≤ sizeLine ∧ Vals xs its.toList
def absV : Value → Option V
  | .none => some .non
  | .bool b => some (.bl b)
  | .int i _ => some (.int i)
  | .str x _ => some (.str x)
  | .bytes b _ => some (.byt b)
  | .float b _ => some (.flt b)
  | .ref a => some (.ref a)
  | .type n => some (.ty n)
  | _ => none
theorem RelV.abs {x : V} {u : Value} (r : RelV x u) : absV u = some x := by
  cases x with
  | non => cases r; rfl
  | bl _ => cases r; rfl
  | int _ => obtain ⟨t, rfl⟩ := r; rfl
  | str _ => obtain ⟨t, rfl⟩ := r; rfl
  | byt _ => obtain ⟨t, rfl⟩ := r; rfl
  | flt _ => obtain ⟨t, rfl⟩ := r; rfl
  | ref _ => cases r; rfl
  | ty _ => cases r; rfl
theorem RelV.inj {x y : V} {u : Value} (r : RelV x u) (q : RelV y u) : x = y := Option.some.inj (r.abs.symm.trans q.abs)
theorem Vals.inj : ∀ {xs ys : List V} {us : List Value}, Vals xs us → Vals ys us → xs = ys
  | _, _, _, .nil, .nil => rfl
  | _, _, _, .cons r t, .cons r' t' => by rw [r.inj r', Vals.inj t t']
section
variable {X : Cx} {pins : List (Addr × Obj)} {σ : St} {H : Hp} {s : Shared} {a : Addr} {xs ys : List V}
theorem SqL.of {K : PySem.W.Frag} (h : H a = some (.lst xs)) : SqL K H a xs := .inl (.inl h)
theorem SqT.of {K : PySem.W.Frag} (h : H a = some (.tup xs)) : SqT K H a xs := .inl (.inl h)
theorem Inv.list (I : Inv X pins σ H s) (h : SqL X.K H a xs) : ∃ its : List Value, Vals xs its ∧ PlainL s.heap a its.toArray ∧ xs.length ≤ sizeLine := by
  rcases h with h | ⟨o, its, n, hk, hc, hd, hs, hz, r⟩
  · obtain ⟨z, its, n, r, e⟩ := h.ok I.hok
    exact ⟨its, r, ⟨_, n, e, rfl, rfl, rfl⟩, z⟩
  · refine ⟨its.toList, r, ⟨o, n, I.kIn a o hk, hc, hd, by simpa using hs⟩, ?_⟩
    have e := r.length
    simp only [Array.length_toList] at e
    omega
theorem Inv.tuple (I : Inv X pins σ H s) (h : SqT X.K H a xs) : ∃ its : List Value, Vals xs its ∧ IsTup s.heap a its.toArray ∧ xs.length ≤ sizeLine := by
  rcases h with h | ⟨o, its, n, hk, hc, hs, hz, r⟩
  · obtain ⟨z, its, r, p⟩ := h.ok I.hok
    exact ⟨its, r, p, z⟩
  · refine ⟨its.toList, r, ⟨o, I.kIn a o hk, hc, n, by simpa using hs⟩, ?_⟩
    have e := r.length
    simp only [Array.length_toList] at e
    omega
theorem Inv.list_inj (I : Inv X pins σ H s) (h : SqL X.K H a xs) (h' : SqL X.K H a ys) : xs = ys := by
  obtain ⟨its, r, ⟨o, n, e, _, _, d⟩, _⟩ := I.list h
  obtain ⟨its', r', ⟨o', n', e', _, _, d'⟩, _⟩ := I.list h'
  rw [e] at e'; cases e'
  rw [d] at d'
  injection d' with d1 _
  have : its = its' := by simpa using congrArg Array.toList d1
  subst this
  exact r.inj r'
end
/-! ### another wish about exceptions -/
abbrev Cx.wish (X : Cx) (E : Value → Shared → Prop) : Cx := { X with xe := E }
/-- no exception leaves -/
abbrev Cx.nox (X : Cx) : Cx := X.wish fun _ _ => False
theorem Cx.Ok.wish {X : Cx} (ok : X.Ok) (E : Value → Shared → Prop) : (X.wish E).Ok :=
  ⟨ok.mod, ok.kind, ok.glob, ok.blt, ok.above, ok.inj, ok.has, ok.cab, ok.hd, ok.frames, ok.stk, ok.exf, ok.bs, ok.bsz, ok.noex, ok.exfs, ok.funs, ok.frf⟩
theorem Cx.Ok.unwish {X : Cx} {E : Value → Shared → Prop} (ok : (X.wish E).Ok) : X.Ok :=
  ⟨ok.mod, ok.kind, ok.glob, ok.blt, ok.above, ok.inj, ok.has, ok.cab, ok.hd, ok.frames, ok.stk, ok.exf, ok.bs, ok.bsz, ok.noex, ok.exfs, ok.funs, ok.frf⟩
section
variable {X : Cx} {pins : List (Addr × Obj)} {σ : St} {H : Hp} {s : Shared} {E : Value → Shared → Prop}
theorem Inv.wish (I : Inv X pins σ H s) (E : Value → Shared → Prop) : Inv (X.wish E) pins σ H s := ⟨I.ok.wish E, I.os, I.bare, I.base, I.loc, I.cell, I.free, I.freeC, I.pin, I.hok, I.len⟩
theorem Inv.unwish (I : Inv (X.wish E) pins σ H s) : Inv X pins σ H s := ⟨I.ok.unwish, I.os, I.bare, I.base, I.loc, I.cell, I.free, I.freeC, I.pin, I.hok, I.len⟩
theorem SP.unwish {D : Ends} {f : Flow} {s' : Shared} (h : SP (X.wish E) pins D f s') : SP X pins D f s' := by
  cases f with
  | next => obtain ⟨σ', H', I, q⟩ := h; exact ⟨σ', H', I.unwish, q⟩
  | brk => obtain ⟨σ', H', I, q⟩ := h; exact ⟨σ', H', I.unwish, q⟩
  | cont => obtain ⟨σ', H', I, q⟩ := h; exact ⟨σ', H', I.unwish, q⟩
  | ret u => obtain ⟨v, σ', H', I, r, q⟩ := h; exact ⟨v, σ', H', I.unwish, r, q⟩
theorem PE.nox {e : Expr} {t : TE} (h : PE X.nox e t) : PE X e t := fun pins s σ H Q I hw =>
  wpAny_mono (h pins s σ H Q (I.wish _) hw) (fun _ _ ⟨v, H', I', r, q⟩ => ⟨v, H', I'.unwish, r, q⟩) fun _ _ z => False.elim z
theorem PT.nox {e : Expr} {t : TT} (h : PT X.nox e t) : PT X e t := fun pins s σ H Q I hw =>
  wpAny_mono (h pins s σ H Q (I.wish _) hw) (fun _ _ ⟨H', I', q⟩ => ⟨H', I'.unwish, q⟩) fun _ _ z => False.elim z
theorem PSs.nox {st : List Stmt} {t : TS} (h : PSs X.nox st t) : PSs X st t := fun pins s σ H D I hw =>
  wpAny_mono (h pins s σ H D (I.wish _) hw) (fun _ _ q => q.unwish) fun _ _ z => False.elim z
end
/-! ### blocks and small statements -/
section
variable {X : Cx} {st : Stmt} {rest : List Stmt} {t u : TS} {e : Expr} {te : TE} {pos : Pos}
def tNext : TS := fun D σ H => D.nx σ H
def tSeq (t u : TS) : TS := fun D σ H => t { D with nx := u D } σ H
theorem pss_nil : PSs X [] tNext := fun _ _ σ H _ I h => wpAny_execs_nil ⟨σ, H, I, h⟩
theorem pss_cons (h1 : PS X st t) (h2 : PSs X rest u) : PSs X (st :: rest) (tSeq t u) := by
  intro pins s σ H D I h
  refine wpAny_execs_cons (thn (h1 pins s σ H { D with nx := u D } I h) fun f s1 q => ?_)
  cases f with
  | next =>
    obtain ⟨σ', H', I', q⟩ := q
    exact h2 pins s1 σ' H' D I' q
  | ret v => exact q
  | brk => exact q
  | cont => exact q
theorem pss_one (h1 : PS X st t) : PSs X [st] t := by
  intro pins s σ H D I h
  refine wpAny_execs_cons (thn (h1 pins s σ H D I h) fun f s1 q => ?_)
  cases f with
  | next => exact wpAny_execs_nil q
  | ret v => exact q
  | brk => exact q
  | cont => exact q
/-- in a def's body nothing is shown -/
theorem Inv.quiet {pins : List (Addr × Obj)} {σ : St} {H : Hp} {s : Shared} (I : Inv X pins σ H s) : interactive X.env = false := by simp [interactive, I.ok.kind]
/-- an expression whose value is dropped -/
def tDrop (te : TE) : TS := fun D σ H => te σ H fun _ H1 => D.nx σ H1
theorem ps_expr (he : PE X e te) (hs : swapsWith e none pos.line X.env = pure false := by rfl) : PS X (.Expr e pos) (tDrop te) := by
  intro pins s σ H D I h
  exact wpAny_Expr_any (thn (he pins s σ H _ I h) fun v s1 ⟨x, H1, I1, r1, q1⟩ => ⟨σ, H1, I1, q1⟩) I.quiet hs
def tRet (te : TE) : TS := fun D σ H => te σ H D.rt
theorem ps_ret (he : PE X e te) : PS X (.Return (some e) pos) (tRet te) := by
  intro pins s σ H D I h
  exact wpAny_Return_some (thn (he pins s σ H _ I h) fun v s1 ⟨x, H1, I1, r1, q1⟩ => ⟨x, σ, H1, I1, r1, q1⟩)
def tRetN : TS := fun D _ H => D.rt .non H
theorem ps_retN : PS X (.Return none pos) tRetN := fun _ _ σ H _ I h => wpAny_Return_none ⟨.non, σ, H, I, rfl, h⟩
def tIfS (c : TT) (t u : TS) : TS := fun D σ H => c σ H fun b H1 => if b = true then t D σ H1 else u D σ H1
theorem ps_if {c : Expr} {a b : List Stmt} {tc : TT} (hc : PT X c tc) (ha : PSs X a t) (hb : PSs X b u) : PS X (.If c a b pos) (tIfS tc t u) := by
  intro pins s σ H D I h
  refine wpAny_If (thn (hc pins s σ H _ I h) fun d s1 ⟨H1, I1, q1⟩ => ?_)
  cases d with
  | true => exact ha pins s1 σ H1 D I1 q1
  | false => exact hb pins s1 σ H1 D I1 q1
/-- code that the proof never comes to -/
def tNever : TS := fun _ _ _ => False
theorem pss_never {sts : List Stmt} : PSs X sts tNever := fun _ _ _ _ _ _ h => h.elim
end
/-! ### targets -/
abbrev TG := V → St → Hp → (St → Hp → Prop) → Prop
abbrev TGs := List V → St → Hp → (St → Hp → Prop) → Prop
def PG (X : Cx) (target : Expr) (t : TG) : Prop :=
  ∀ (pins : List (Addr × Obj)) (s : Shared) (σ : St) (H : Hp) (v : V) (u : Value) (Q : St → Hp → Prop), Inv X pins σ H s → RelV v u → t v σ H Q →
    wpAny (model X.prog X.w) X.A (assign target X.env u) (fun _ s' => ∃ σ' H', Inv X pins σ' H' s' ∧ Q σ' H') X.xe s
/-- o[i] = v, by values -/
abbrev TSet := V → V → V → Hp → (Hp → Prop) → Prop
def PSet (X : Cx) (t : TSet) : Prop :=
  ∀ (pins : List (Addr × Obj)) (s : Shared) (σ : St) (H : Hp) (o i v : V) (ov iv u : Value) (Q : Hp → Prop), Inv X pins σ H s → RelV o ov → RelV i iv → RelV v u → t o i v H Q →
    wpAny (model X.prog X.w) X.A (setItem ov iv u) (fun _ s' => ∃ H', Inv X pins σ H' s' ∧ Q H') X.xe s
section
variable {X : Cx} {pos : Pos}
def gName (i : Nat) : TG := fun v σ H Q => Q (σ.set i (some v)) H
theorem pg_name {i : Nat} {x : Str} (hN : X.N.Nodup) (hi : X.N[i]? = some x) (hx : Loc X.env.scope x) (hf : X.fn x = true ∨ X.env.scope.names.lookup x = some .local := by first | exact .inl rfl | exact .inr rfl | assumption) : PG X (.Name x pos) (gName i) := by
  intro pins s σ H v u Q I r h
  exact wpAny_assign_Name (store_ok I hN hi hx r (fun s' I' => ⟨_, H, I', h⟩) hf)
def gNil : TGs := fun vs σ H Q => vs = [] ∧ Q σ H
def gCons (t : TG) (u : TGs) : TGs := fun vs σ H Q => ∃ v r, vs = v :: r ∧ t v σ H fun σ' H' => u r σ' H' Q
/-- (a, b, ..) = a tuple of that length -/
def gTup (K : PySem.W.Frag) (n : Nat) (t : TGs) : TG := fun v σ H Q => ∃ a xs, v = .ref a ∧ SqT K H a xs ∧ xs.length = n ∧ t xs σ H Q
/-- o[i] = .. -/
def gSub (to ti : TE) (t : TSet) : TG := fun v σ H Q => to σ H fun o H1 => ti σ H1 fun i H2 => t o i v H2 fun H3 => Q σ H3
theorem pg_sub {o i : Expr} {to ti : TE} {t : TSet} (ho : PE X o to) (hi : PE X i ti) (hs : PSet X t)
    (ha : ∀ v, assign (.Subscript o i pos) X.env v = (do
      let ov ← holding [v] (eval o X.env)
      let iv ← holding [v, ov] (eval i X.env)
      standAt pos
      holding [v, ov, iv] (setItem ov iv v)
      release [v, ov, iv] []) := by intro _; rfl) : PG X (.Subscript o i pos) (gSub to ti t) := by
  intro pins s σ H v u Q I r h
  rw [ha]
  refine wpAny_bind (wpAny_holding (thn (ho pins s σ H _ I h) fun ov s1 ⟨x, H1, I1, r1, q1⟩ => ?_))
  refine wpAny_bind (wpAny_holding (thn (hi pins s1 σ H1 _ I1 q1) fun iv s2 ⟨y, H2, I2, r2, q2⟩ => ?_))
  refine wpAny_bind (wpAny_standAt (wpAny_bind (wpAny_holding (thn (hs pins s2 σ H2 x y v ov iv u _ I2 r1 r2 r q2) fun _ s3 ⟨H3, I3, q3⟩ => ?_))))
  exact wpAny_release ⟨σ, H3, I3, q3⟩
/-- target = value -/
def tAsg (te : TE) (g : TG) : TS := fun D σ H => te σ H fun x H1 => g x σ H1 D.nx
theorem ps_asg {tg e : Expr} {te : TE} {g : TG} (he : PE X e te) (hg : PG X tg g) (hs : swapsWithSole [tg] e pos.line X.env = pure false := by rfl) (hw : swappedStores [tg] e X.env = pure none := by rfl)
    (h1 : (assignEach [tg] X.env).map (·.2) = [assign tg X.env] := by rfl) : PS X (.Assign [tg] e pos) (tAsg te g) := by
  intro pins s σ H D I h
  refine wpAny_Assign_stores (thn (he pins s σ H _ I h) fun v s1 ⟨x, H1, I1, r1, q1⟩ => ?_) hs hw
  rw [h1]
  exact thn (hg pins s1 σ H1 x v _ I1 r1 q1) fun _ s2 q => q
/-- name = value -/
theorem ps_set {i : Nat} {x : Str} {e : Expr} {te : TE} {pos' : Pos} (hN : X.N.Nodup) (hi : X.N[i]? = some x) (hx : Loc X.env.scope x) (he : PE X e te) (hs : swapsWith e (some (.Name x pos')) pos.line X.env = pure false := by rfl) (hf : X.fn x = true ∨ X.env.scope.names.lookup x = some .local := by first | exact .inl rfl | exact .inr rfl | assumption) :
    PS X (.Assign [.Name x pos'] e pos) (tAsg te (gName i)) := by
  intro pins s σ H D I h
  refine wpAny_Assign_Name (thn (he pins s σ H _ I h) fun v s1 ⟨y, H1, I1, r1, q1⟩ => ?_) hs
  exact store_ok I1 hN hi hx r1 (fun s2 I2 => ⟨_, H1, I2, q1⟩) hf
end
/-! ### while -/
section
variable {X : Cx} {pos : Pos}
/-- the invariant W with its measure -/
def tWhile (c : TT) (tb : TS) : TS := fun D σ H => ∃ W : Nat → St → Hp → Prop, (∃ m, W m σ H) ∧ ∀ m σ H, W m σ H →
  c σ H fun b H1 => if b = true then ∃ N : St → Hp → Prop, (∀ σ' H', N σ' H' → ∃ m', m' < m ∧ W m' σ' H') ∧ tb { D with nx := N, ct := N, bk := D.nx } σ H1 else D.nx σ H1
theorem ps_while {c : Expr} {body : List Stmt} {tc : TT} {tb : TS} (hp : PassesOwn (model X.prog X.w) X.A X.env X.xe) (hc : PT X c tc) (hb : PSs X body tb) : PS X (.While c body [] pos) (tWhile tc tb) := by
  intro pins s σ H D I h
  obtain ⟨W, ⟨m0, w0⟩, turn⟩ := h
  refine wpAny_While (codeAny_whileLoop (fun n s' => ∃ σ' H', Inv X pins σ' H' s' ∧ W n σ' H') ?_ m0 ⟨σ, H, I, w0⟩)
  rintro n s1 ⟨σ1, H1, I1, w1⟩
  refine wpAny_passesOwn hp (thn (hc pins s1 σ1 H1 _ I1 (turn n σ1 H1 w1)) fun b s2 ⟨H2, I2, q2⟩ => ?_)
  cases b with
  | true =>
    obtain ⟨N, hN, q2⟩ := q2
    rw [if_pos rfl]
    refine wpAny_passesOwn hp (thn (hb pins s2 σ1 H2 _ I2 q2) fun f s3 q3 => ?_)
    cases f with
    | next =>
      obtain ⟨σ3, H3, I3, n3⟩ := q3
      obtain ⟨m', hm, w3⟩ := hN σ3 H3 n3
      exact ⟨m', hm, σ3, H3, I3, w3⟩
    | cont =>
      obtain ⟨σ3, H3, I3, n3⟩ := q3
      obtain ⟨m', hm, w3⟩ := hN σ3 H3 n3
      exact ⟨m', hm, σ3, H3, I3, w3⟩
    | brk => exact q3
    | ret v => exact q3
  | false =>
    rw [if_neg Bool.false_ne_true]
    exact wpAny_execs_nil ⟨σ1, H2, I2, q2⟩
end
/-! ### what a loop or a comprehension walks -/
/-- at turn i: it yields x (the heap may grow), or it stops -/
structure It where
  go : Nat → Hp → Prop
  yld : Nat → Hp → V → Hp → Prop
  stop : Nat → Hp → Prop
/-- the iterator's own objects may turn: they are not the frame's, not pinned, younger than the entry (or a comprehension's own) -/
def FpOk (X : Cx) (pins : List (Addr × Obj)) (H : Hp) (b : Addr) : Prop :=
  H b = none ∧ b ≠ X.env.locals ∧ b ∉ X.fs ∧ (b ∈ X.ex ∨ X.s₀.heap.objs.size ≤ b) ∧ (∀ x c, X.env.cells.lookup x = some c → c ≠ b) ∧ ∀ p ∈ X.pn ++ pins, p.1 ≠ b
theorem Inv.fpOk {X : Cx} {pins : List (Addr × Obj)} {σ : St} {H H' : Hp} {s : Shared} {b : Addr} (I : Inv X pins σ H s) (hb : s.heap.objs.size ≤ b) (hn : H' b = none) : FpOk X pins H' b := by
  refine ⟨hn, Nat.ne_of_gt (Nat.lt_of_lt_of_le I.lt hb), I.nofs hb, .inr (Nat.le_trans I.sz hb), fun x c e z => ?_, fun p hp z => ?_⟩
  · obtain ⟨v, q⟩ := I.cell x c e
    exact absurd (Nat.lt_of_lt_of_le q.lt (by rw [z]; exact hb)) (Nat.lt_irrefl _)
  · exact absurd (Nat.lt_of_lt_of_le (Heap.lt_size (I.pin p hp).1) (by rw [z]; exact hb)) (Nat.lt_irrefl _)
structure Turn (P : Program) (w : World) (K : PySem.W.Frag) (tg : Expr) (J : It) (fp : List Addr) (it : Addr) (tn : Nat → Heap → Prop) : Prop where
  mem : it ∈ fp
  obj : ∀ i h, tn i h → ∀ b ∈ fp, ∃ o, h.get? b = some o ∧ ∀ v, o.data ≠ .cell v
  keep : ∀ i h h', tn i h → (∀ b ∈ fp, ∀ o, h.get? b = some o → h'.get? b = some o) → tn i h'
  item : ∀ (X : Cx), X.prog = P → X.w = w → X.K = K → X.calm = true → ∀ (i : Nat) (pins : List (Addr × Obj)) (s : Shared) (σ : St) (H : Hp) (E : Value → Shared → Prop), Inv X pins σ H s → (∀ b ∈ fp, FpOk X pins H b) → tn i s.heap → J.go i H →
    wpAny (model P w) X.A (pyNext (.ref it)) (fun r s1 => ∃ u, r = some u ∧
      wpAny (model P w) X.A (letOwnedTupleGo tg (.ref it) u) (fun _ s2 => ∃ x H', Inv X pins σ H' s2 ∧ RelV x u ∧ J.yld i H x H' ∧ tn (i + 1) s2.heap ∧ ∀ b ∈ fp, H' b = none) E s1) E s
  done : ∀ (X : Cx), X.prog = P → X.w = w → X.K = K → X.calm = true → ∀ (i : Nat) (pins : List (Addr × Obj)) (s : Shared) (σ : St) (H : Hp) (E : Value → Shared → Prop), Inv X pins σ H s → (∀ b ∈ fp, FpOk X pins H b) → tn i s.heap → J.stop i H →
    wpAny (model P w) X.A (pyNext (.ref it)) (fun r s1 => r = none ∧ Inv X pins σ H s1) E s
  self : ∀ (A : Around) (i : Nat) (s : Shared) (Q : Value → Shared → Prop) (E : Value → Shared → Prop), tn i s.heap → Q (.ref it) s → wpAny (model P w) A (pyIter (.ref it)) Q E s
abbrev TI := St → Hp → (It → Hp → Prop) → Prop
/-- an iterator has come -/
def PIE (X : Cx) (pins : List (Addr × Obj)) (σ : St) (tg : Expr) (R : It → Hp → Prop) (itv : Value) (s2 : Shared) : Prop :=
  ∃ (it : Addr) (fp : List Addr) (tn : Nat → Heap → Prop) (J : It) (H' : Hp), itv = .ref it ∧ Inv X pins σ H' s2 ∧ Turn X.prog X.w X.K tg J fp it tn ∧ tn 0 s2.heap ∧ (∀ b ∈ fp, FpOk X pins H' b) ∧ R J H'
def PI (X : Cx) (tg iter : Expr) (wi : TI) : Prop :=
  ∀ (pins : List (Addr × Obj)) (s : Shared) (σ : St) (H : Hp) (R : It → Hp → Prop), Inv X pins σ H s → wi σ H R →
    wpAny (model X.prog X.w) X.A (eval iter X.env) (fun v s1 => wpAny (model X.prog X.w) X.A (pyIter v) (PIE X pins σ tg R) X.xe s1) X.xe s
/-- the step ahead of the store is nothing for an iterator that keeps no tuple -/
theorem go_of {M : Model} {A : Around} {E : Value → Shared → Prop} {s : Shared} {tg : Expr} {it : Addr} {u : Value} {o : Obj} {n : String} {vs : Array Value} {Q : Unit → Shared → Prop} (ho : s.heap.get? it = some o) (hc : o.cls = .type n) (hd : o.data = .fields vs)
    (hn : ["enumerate", "zip", "dict_itemiterator", "dict_reverseitemiterator", "odict_iterator", "itertools.zip_longest", "itertools.pairwise"].contains n = false) (hQ : Q () s) : wpAny M A (letOwnedTupleGo tg (.ref it) u) Q E s := by
  unfold letOwnedTupleGo
  cases tg <;> first
    | exact wpAny_pure hQ
    | (cases u <;> first
        | exact wpAny_pure hQ
        | (refine wpAny_bind (wpAny_load ho ?_)
           rw [hc, hd]
           show wpAny M A (if (["enumerate", "zip", "dict_itemiterator", "dict_reverseitemiterator", "odict_iterator", "itertools.zip_longest", "itertools.pairwise"].contains n && vs[0]? == some (rawInt _)) = true then _ else _) Q E s
           rw [if_neg (by intro h; rw [hn, Bool.false_and] at h; cases h)]
           exact wpAny_pure hQ))
/-- the list at a, as it stands at each turn (a loop may append to it) -/
def Itl (K : PySem.W.Frag) (a : Addr) : It :=
  ⟨fun i H => ∃ xs x, SqL K H a xs ∧ xs[i]? = some x, fun i H x H' => H' = H ∧ ∀ xs, SqL K H a xs → xs[i]? = some x, fun i H => ∃ xs, SqL K H a xs ∧ xs.length ≤ i⟩
/-- lo, lo + 1, .. (n of them) -/
def Itr (lo : Int) (n : Nat) : It := ⟨fun i _ => i < n, fun i H x H' => H' = H ∧ x = .int (lo + i), fun i _ => n ≤ i⟩
theorem turn_list {P : Program} {w : World} {K : PySem.W.Frag} {tg : Expr} (a it : Addr) : Turn P w K tg (Itl K a) [it] it (fun i h => h.IsListIter it a i) where
  mem := by simp
  obj := fun i h st b hb => by
    have e : b = it := by simpa using hb
    subst e
    obtain ⟨o, e, c, d⟩ := st
    exact ⟨o, e, fun v z => by rw [d] at z; cases z⟩
  keep := fun i h h' st k => st.at fun o e => k it (by simp) o e
  item := by
    intro X hP hw hK hc i pins s σ H E I hf st hg
    subst hP hw hK
    obtain ⟨xs, x, hq, hx⟩ := hg
    obtain ⟨its, rv, p, hz⟩ := I.list hq
    obtain ⟨u, hu, ru⟩ := rv.get hx
    obtain ⟨f0, f1, f2, f3, f4, f5⟩ := hf it (by simp)
    refine wpAny_pyNext_list_item st p.isList (x := u) (by simpa using hu) fun h' st' sb => ?_
    have I1 : Inv X pins σ H { s with heap := h' } := I.turned (t' := s.toks) (fun b o hb e => (sb.2 b hb).trans e) f0 f1 f3 f4 f5
    obtain ⟨o, e, c, d⟩ := id st'
    exact ⟨u, rfl, go_of (s := { s with heap := h' }) e c d (by decide) ⟨x, H, I1, ru, ⟨rfl, fun ys hy => by rw [I.list_inj hy hq]; exact hx⟩, st', fun b hb => (hf b hb).1⟩⟩
  done := by
    intro X hP hw hK hc i pins s σ H E I hf st hg
    subst hP hw hK
    obtain ⟨xs, hq, hx⟩ := hg
    obtain ⟨its, rv, p, hz⟩ := I.list hq
    obtain ⟨f0, f1, f2, f3, f4, f5⟩ := hf it (by simp)
    have hl := rv.length
    exact wpAny_pyNext_list_end (I.ok.hd hc) st p.isList (by simp; omega) fun h' eb => ⟨rfl, I.turned (t' := s.toks) (fun b o hb e => eb b o hb e) f0 f1 f3 f4 f5⟩
  self := fun _ _ _ _ _ st h => wpAny_pyIter_listiter st h
theorem turn_range {P : Program} {w : World} {K : PySem.W.Frag} {tg : Expr} (it : Addr) (lo : Int) (n : Nat) : Turn P w K tg (Itr lo n) [it] it (fun i h => IsRangeIter h it (lo + (i : Nat) * 1) ((n : Int) - (i : Nat)) 1) where
  mem := by simp
  obj := fun i h st b hb => by
    have e : b = it := by simpa using hb
    subst e
    exact ⟨_, st, fun v z => by
      have z' : Data.fields _ = Data.cell v := z
      cases z'⟩
  keep := fun i h h' st k => k it (by simp) _ st
  item := by
    intro X hP hw hK hc i pins s σ H E I hf st hg
    subst hP hw hK
    obtain ⟨f0, f1, f2, f3, f4, f5⟩ := hf it (by simp)
    have W := Walks.range (prog := X.prog) (w := X.w) (I.ok.hd hc) it lo 1 n
    refine W.item i s _ _ hg st fun v h' tk hv st' kk => ?_
    obtain ⟨t, rfl⟩ := hv
    have I1 : Inv X pins σ H { s with heap := h', toks := tk } := I.turned (fun b o hb e => kk b o (by simpa using hb) e) f0 f1 f3 f4 f5
    refine ⟨_, rfl, go_of (s := { s with heap := h', toks := tk }) (n := "range_iterator") st' rfl rfl (by decide) ⟨.int (lo + i), H, I1, ⟨t, ?_⟩, ⟨rfl, rfl⟩, st', fun b hb => (hf b hb).1⟩⟩
    rw [Int.mul_one]
  done := by
    intro X hP hw hK hc i pins s σ H E I hf st hg
    subst hP hw hK
    obtain ⟨f0, f1, f2, f3, f4, f5⟩ := hf it (by simp)
    exact wpAny_pyNext_range_end (I.ok.hd hc) st (by have : n ≤ i := hg; omega) fun h' eb => ⟨rfl, I.turned (t' := s.toks) (fun b o hb e => eb b o hb e) f0 f1 f3 f4 f5⟩
  self := fun _ _ _ _ _ st h => wpAny_pyIter_rangeiter st h
end L2
namespace L2
open PySem PySem.Spec PyProof.Rows
section
variable {X : Cx} {tg : Expr}
def iList (K : PySem.W.Frag) (tl : TE) : TI := fun σ H R => tl σ H fun x H1 => ∃ a, x = .ref a ∧ (∃ xs, SqL K H1 a xs) ∧ R (Itl K a) H1
theorem pi_list {l : Expr} {tl : TE} (hl : PE X l tl) : PI X tg l (iList X.K tl) := by
  intro pins s σ H R I h
  refine thn (hl pins s σ H _ I h) fun v s1 ⟨x, H1, I1, r1, q1⟩ => ?_
  obtain ⟨a, e, ⟨xs, hq⟩, q⟩ := q1
  subst e
  cases r1
  obtain ⟨its, rv, p, hz⟩ := I1.list hq
  refine wpAny_pyIter_list p.isList ?_
  refine ⟨s1.heap.objs.size, [s1.heap.objs.size], _, _, H1, rfl, I1.kept (t' := s1.toks) fun b o e => Heap.get?_push_of_some _ e, turn_list a _, ⟨_, Heap.get?_push_size _ rfl, rfl, rfl⟩, fun b hb => ?_, q⟩
  have e : b = s1.heap.objs.size := by simpa using hb
  subst e
  exact I1.fpOk (Nat.le_refl _) (I1.hok.fresh (Nat.le_refl _))
/-- a range object just made, walked -/
theorem range_it {pins : List (Addr × Obj)} {σ : St} {H : Hp} {s : Shared} {R : It → Hp → Prop} {E : Value → Shared → Prop} {lo hi : Int} {t u v : Tok} {tk : Nat} (I : Inv X pins σ H s) (h1 : -(2 ^ 62) ≤ lo) (h2 : lo < 2 ^ 62) (h3 : -(2 ^ 62) ≤ hi) (h4 : hi < 2 ^ 62)
    (q : R (Itr lo (hi - lo).toNat) H) : wpAny (model X.prog X.w) X.A (pyIter (.ref s.heap.objs.size)) (PIE X pins σ tg R) E { s with heap := s.heap.push { cls := .type "range", data := .fields #[.int lo t, .int hi u, .int 1 v] }, toks := tk } := by
  refine wpAny_pyIter_range (IsRange.new ..) (small_one h1 h2 h3 h4) ?_
  have I1 : Inv X pins σ H { s with heap := s.heap.push { cls := .type "range", data := .fields #[.int lo t, .int hi u, .int 1 v] }, toks := tk } := I.kept fun b o e => Heap.get?_push_of_some _ e
  refine ⟨(s.heap.push { cls := .type "range", data := .fields #[.int lo t, .int hi u, .int 1 v] }).objs.size, [(s.heap.push { cls := .type "range", data := .fields #[.int lo t, .int hi u, .int 1 v] }).objs.size], _, _, H, rfl,
    I1.kept (t' := tk) fun b o e => Heap.get?_push_of_some _ e, turn_range _ lo (hi - lo).toNat, ?_, fun b hb => ?_, q⟩
  · have e1 : lo + ((0 : Nat) : Int) * 1 = lo := by simp
    have e2 : (((hi - lo).toNat : Nat) : Int) - ((0 : Nat) : Int) = Builtin.Range.rangeSize lo hi 1 := by rw [rangeSize_one]; split <;> omega
    show IsRangeIter _ _ (lo + ((0 : Nat) : Int) * 1) ((((hi - lo).toNat : Nat) : Int) - ((0 : Nat) : Int)) 1
    rw [e1, e2]
    exact Heap.get?_push_size _ rfl
  · have e : b = (s.heap.push { cls := .type "range", data := .fields #[.int lo t, .int hi u, .int 1 v] }).objs.size := by simpa using hb
    subst e
    exact I1.fpOk (Nat.le_refl _) (I1.hok.fresh (Nat.le_refl _))
def iRng1 (ta : TA) : TI := fun σ H R => ta σ H fun vs H1 => ∃ j : Int, vs = [.int j] ∧ -(2 ^ 62) ≤ j ∧ j < 2 ^ 62 ∧ R (Itr 0 j.toNat) H1
def iRng2 (ta : TA) : TI := fun σ H R => ta σ H fun vs H1 => ∃ i j : Int, vs = [.int i, .int j] ∧ (-(2 ^ 62) ≤ i ∧ i < 2 ^ 62 ∧ -(2 ^ 62) ≤ j ∧ j < 2 ^ 62) ∧ R (Itr i (j - i).toNat) H1
theorem pi_range1 {a : Expr} {ta : TA} {p pos : Pos} (hg : Gl X "range") (hm : X.mg "range" = none) (ha : PA X [a] ta) (hs : starEach [a] X.env = [(false, eval a X.env)] := by rfl) : PI X tg (.Call (.Name "range" p) [a] [] pos) (iRng1 ta) := by
  intro pins s σ H R I h
  refine Call_ (ld_blt I hg hm boot_range (PyProof.Rows.callWith_type1 (thn (ha pos pins s σ H _ I h) fun us s1 ⟨vs, H1, I1, r1, q1⟩ => ?_) hs rfl))
  obtain ⟨j, e, q1, q2, q⟩ := q1
  subst e
  cases r1 with
  | cons r rr =>
    cases rr
    obtain ⟨t, rfl⟩ := r
    exact call_range_1 (range_it I1 (by omega) (by omega) q1 q2 (by simpa using q))
/-! ### for -/
/-- W: the invariant by the turn and a measure; N: what the body is to reach -/
def tFor (wi : TI) (g : TG) (tb : TS) : TS := fun D σ H => wi σ H fun J H1 => ∃ W : Nat → Nat → St → Hp → Prop, (∃ m, W 0 m σ H1) ∧ ∀ i m σ H, W i m σ H →
  (J.stop i H ∧ D.nx σ H) ∨ (J.go i H ∧ ∃ N : St → Hp → Prop, (∀ σ' H', N σ' H' → ∃ m', m' < m ∧ W (i + 1) m' σ' H') ∧ ∀ x H', J.yld i H x H' → g x σ H' fun σ2 H2 => tb { D with nx := N, ct := N, bk := D.nx } σ2 H2)
/-- the records at fp as they stand -/
def pinsAt (fp : List Addr) (h : Heap) : List (Addr × Obj) := fp.filterMap fun b => (h.get? b).map fun o => (b, o)
theorem mem_pinsAt {fp : List Addr} {h : Heap} {b : Addr} {o : Obj} (hb : b ∈ fp) (e : h.get? b = some o) : (b, o) ∈ pinsAt fp h := List.mem_filterMap.mpr ⟨b, hb, by rw [e]; rfl⟩
theorem of_pinsAt {fp : List Addr} {h : Heap} {p : Addr × Obj} (hp : p ∈ pinsAt fp h) : p.1 ∈ fp ∧ h.get? p.1 = some p.2 := by
  obtain ⟨b, hb, e⟩ := List.mem_filterMap.mp hp
  cases q : h.get? b with
  | none => rw [q] at e; cases e
  | some o =>
    rw [q] at e
    have e' : (b, o) = p := Option.some.inj e
    subst e'
    exact ⟨hb, q⟩
theorem Inv.pinned {pins : List (Addr × Obj)} {σ : St} {H : Hp} {s : Shared} {fp : List Addr} (I : Inv X pins σ H s) (hf : ∀ b ∈ fp, FpOk X pins H b) (ho : ∀ b ∈ fp, ∃ o, s.heap.get? b = some o ∧ ∀ v, o.data ≠ .cell v) : Inv X (pins ++ pinsAt fp s.heap) σ H s :=
  I.pins_of fun p hp => (List.mem_append.mp hp).elim (fun z => I.pin p (List.mem_append_right _ z)) fun z => by
    obtain ⟨hb, e⟩ := of_pinsAt z
    obtain ⟨f0, f1, f2, _⟩ := hf p.1 hb
    obtain ⟨o, e', d⟩ := ho p.1 hb
    rw [e] at e'; cases e'
    exact ⟨e, f0, f1, f2, d⟩
theorem Inv.unpinned {pins pl : List (Addr × Obj)} {σ : St} {H : Hp} {s : Shared} (I : Inv X (pins ++ pl) σ H s) : Inv X pins σ H s := I.pins_of fun p hp => I.pin p (List.mem_append_right _ (List.mem_append_left _ hp))
theorem ps_for {iter : Expr} {body : List Stmt} {wi : TI} {g : TG} {tb : TS} {pos : Pos} (hp : PassesOwn (model X.prog X.w) X.A X.env X.xe) (hc : X.calm = true) (hi : PI X tg iter wi) (hg : PG X tg g) (hb : PSs X body tb)
    (hs : ∀ x, foldedSetIterable iter X.env x = pure x := by intro _; rfl) : PS X (.For tg iter body [] pos) (tFor wi g tb) := by
  intro pins s σ H D I h
  refine wpAny_For (thn (hi pins s σ H _ I h) fun v s1 h1 => thn h1 fun itv s2 h2 => ?_) hs
  obtain ⟨it, fp, tn, J, H2, e, I2, T, st2, f2, W, ⟨m0, w0⟩, turn⟩ := h2
  subst e
  -- what stays true of the iterator's objects through the loop
  have stat : ∀ {H' : Hp}, (∀ b ∈ fp, H' b = none) → ∀ b ∈ fp, FpOk X pins H' b := fun hn b hb => ⟨hn b hb, (f2 b hb).2⟩
  refine codeAny_forLoop_any (fun n s' => ∃ i σ' H', Inv X pins σ' H' s' ∧ tn i s'.heap ∧ (∀ b ∈ fp, H' b = none) ∧ W i n σ' H') ?_ m0 ⟨0, σ, H2, I2, st2, fun b hb => (f2 b hb).1, w0⟩
  rintro n s3 ⟨i, σ3, H3, I3, st3, fr3, w3⟩
  rcases turn i n σ3 H3 w3 with ⟨stop, qn⟩ | ⟨go, N, hN, step⟩
  · refine wpAny_passesOwn hp (thn (T.done X rfl rfl rfl hc i pins s3 σ3 H3 X.xe I3 (stat fr3) st3 stop) fun r s4 ⟨hr, I4⟩ => ?_)
    subst hr
    exact wpAny_execs_nil ⟨σ3, H3, I4, qn⟩
  · refine wpAny_passesOwn hp (thn (T.item X rfl rfl rfl hc i pins s3 σ3 H3 X.xe I3 (stat fr3) st3 go) fun r s4 ⟨u, hr, h4⟩ => ?_)
    subst hr
    refine wpAny_passesOwn hp (thn h4 fun _ s5 ⟨x, H5, I5, r5, y5, st5, fr5⟩ => ?_)
    have I5' := I5.pinned (stat fr5) (T.obj _ _ st5)
    refine wpAny_passesOwn hp (thn (hg _ s5 σ3 H5 x u _ I5' r5 (step x H5 y5)) fun _ s6 ⟨σ6, H6, I6, q6⟩ => ?_)
    refine wpAny_passesOwn hp (thn (hb _ s6 σ6 H6 _ I6 q6) fun f s7 q7 => ?_)
    have again : ∀ {σ7 : St} {H7 : Hp}, Inv X (pins ++ pinsAt fp s5.heap) σ7 H7 s7 → N σ7 H7 → ∃ m, m < n ∧ ∃ i σ' H', Inv X pins σ' H' s7 ∧ tn i s7.heap ∧ (∀ b ∈ fp, H' b = none) ∧ W i m σ' H' := fun {σ7 H7} I7 n7 => by
      obtain ⟨m', hm, w7⟩ := hN σ7 H7 n7
      refine ⟨m', hm, i + 1, σ7, H7, I7.unpinned, T.keep _ _ _ st5 fun b hb o e => (I7.pin (b, o) (List.mem_append_right _ (List.mem_append_right _ (mem_pinsAt hb e)))).1, fun b hb => ?_, w7⟩
      obtain ⟨o, e, d⟩ := T.obj _ _ st5 b hb
      exact (I7.pin (b, o) (List.mem_append_right _ (List.mem_append_right _ (mem_pinsAt hb e)))).2.1
    cases f with
    | next => obtain ⟨σ7, H7, I7, n7⟩ := q7; exact again I7 n7
    | cont => obtain ⟨σ7, H7, I7, n7⟩ := q7; exact again I7 n7
    | brk => obtain ⟨σ7, H7, I7, q7⟩ := q7; exact ⟨σ7, H7, I7.unpinned, q7⟩
    | ret v => obtain ⟨x7, σ7, H7, I7, r7, q7⟩ := q7; exact ⟨x7, σ7, H7, I7.unpinned, r7, q7⟩
end
/-! ### the forms one uses -/
/-- over a list that the body leaves as it is -/
theorem for_list {K : PySem.W.Frag} {a : Addr} {xs : List V} {g : TG} {tb : TS} {D : Ends} {σ : St} {H : Hp} (Pv : Nat → St → Hp → Prop) (h0 : Pv 0 σ H) (hl : ∀ i σ H, i ≤ xs.length → Pv i σ H → SqL K H a xs)
    (hs : ∀ i x σ H, xs[i]? = some x → Pv i σ H → g x σ H fun σ2 H2 => tb { D with nx := Pv (i + 1), ct := Pv (i + 1), bk := D.nx } σ2 H2) (hd : ∀ σ H, Pv xs.length σ H → D.nx σ H) :
    ∃ W : Nat → Nat → St → Hp → Prop, (∃ m, W 0 m σ H) ∧ ∀ i m σ H, W i m σ H →
      ((Itl K a).stop i H ∧ D.nx σ H) ∨ ((Itl K a).go i H ∧ ∃ N : St → Hp → Prop, (∀ σ' H', N σ' H' → ∃ m', m' < m ∧ W (i + 1) m' σ' H') ∧ ∀ x H', (Itl K a).yld i H x H' → g x σ H' fun σ2 H2 => tb { D with nx := N, ct := N, bk := D.nx } σ2 H2) := by
  refine ⟨fun i m σ H => m = xs.length - i ∧ i ≤ xs.length ∧ Pv i σ H, ⟨xs.length, by simp, Nat.zero_le _, h0⟩, ?_⟩
  rintro i m σ H ⟨rfl, hi, p⟩
  have q := hl i σ H hi p
  by_cases hlt : i < xs.length
  · refine .inr ⟨⟨xs, xs[i], q, by simp [hlt]⟩, Pv (i + 1), fun σ' H' p' => ⟨xs.length - (i + 1), by omega, rfl, hlt, p'⟩, fun x H' y => ?_⟩
    obtain ⟨e, y⟩ := y
    subst e
    exact hs i x σ _ (y xs q) p
  · have e : i = xs.length := by omega
    subst e
    exact .inl ⟨⟨xs, q, Nat.le_refl _⟩, hd σ H p⟩
theorem for_range {lo : Int} {n : Nat} {g : TG} {tb : TS} {D : Ends} {σ : St} {H : Hp} (Pv : Nat → St → Hp → Prop) (h0 : Pv 0 σ H)
    (hs : ∀ i σ H, i < n → Pv i σ H → g (.int (lo + i)) σ H fun σ2 H2 => tb { D with nx := Pv (i + 1), ct := Pv (i + 1), bk := D.nx } σ2 H2) (hd : ∀ σ H, Pv n σ H → D.nx σ H) :
    ∃ W : Nat → Nat → St → Hp → Prop, (∃ m, W 0 m σ H) ∧ ∀ i m σ H, W i m σ H →
      ((Itr lo n).stop i H ∧ D.nx σ H) ∨ ((Itr lo n).go i H ∧ ∃ N : St → Hp → Prop, (∀ σ' H', N σ' H' → ∃ m', m' < m ∧ W (i + 1) m' σ' H') ∧ ∀ x H', (Itr lo n).yld i H x H' → g x σ H' fun σ2 H2 => tb { D with nx := N, ct := N, bk := D.nx } σ2 H2) := by
  refine ⟨fun i m σ H => m = n - i ∧ i ≤ n ∧ Pv i σ H, ⟨n, by simp, Nat.zero_le _, h0⟩, ?_⟩
  rintro i m σ H ⟨rfl, hi, p⟩
  by_cases hlt : i < n
  · refine .inr ⟨hlt, Pv (i + 1), fun σ' H' p' => ⟨n - (i + 1), by omega, rfl, hlt, p'⟩, fun x H' y => ?_⟩
    obtain ⟨e, y⟩ := y
    subst e y
    exact hs i σ _ hlt p
  · have e : i = n := by omega
    subst e
    exact .inl ⟨Nat.le_refl _, hd σ H p⟩
end L2
namespace L2
open PySem PySem.Spec PyProof.Rows
abbrev R2 := V → V → Hp → VK → Prop
/-- a two-place operation on values: f is binaryOp op, inplaceOp op or compareOp op -/
def OpR (X : Cx) (f : Value → Value → Sem Value) (r : R2) : Prop :=
  ∀ (pins : List (Addr × Obj)) (s : Shared) (σ : St) (H : Hp) (x y : V) (v u : Value) (Q : VK), Inv X pins σ H s → RelV x v → RelV y u → r x y H Q →
    wpAny (model X.prog X.w) X.A (f v u) (EP X pins σ Q) X.xe s
/-- a one-place operation -/
def UnR (X : Cx) (f : Value → Sem Value) (r : V → Hp → VK → Prop) : Prop :=
  ∀ (pins : List (Addr × Obj)) (s : Shared) (σ : St) (H : Hp) (x : V) (v : Value) (Q : VK), Inv X pins σ H s → RelV x v → r x H Q →
    wpAny (model X.prog X.w) X.A (f v) (EP X pins σ Q) X.xe s
/-- a call of a value that is known (a builtin, a type) with values -/
def CallR (X : Cx) (f : Value) (r : List V → Hp → VK → Prop) : Prop :=
  ∀ (pins : List (Addr × Obj)) (s : Shared) (σ : St) (H : Hp) (xs : List V) (us : List Value) (Q : VK), Inv X pins σ H s → Vals xs us → r xs H Q →
    wpAny (model X.prog X.w) X.A (call f us) (EP X pins σ Q) X.xe s
def tOp (r : R2) (ta tb : TE) : TE := fun σ H Q => ta σ H fun x H1 => tb σ H1 fun y H2 => r x y H2 Q
def tUn (r : V → Hp → VK → Prop) (ta : TE) : TE := fun σ H Q => ta σ H fun x H1 => r x H1 Q
/-- ints in, under C, and a value out -/
def rI (C : Int → Int → Prop) (g : Int → Int → V) : R2 := fun x y H Q => ∃ i j, x = .int i ∧ y = .int j ∧ C i j ∧ Q (g i j) H
def rI0 (g : Int → Int → V) : R2 := fun x y H Q => ∃ i j, x = .int i ∧ y = .int j ∧ Q (g i j) H
def rU (g : Int → V) : V → Hp → VK → Prop := fun x H Q => ∃ i, x = .int i ∧ Q (g i) H
section
variable {X : Cx} {a b c : Expr} {ta tb tc : TE} {pos : Pos}
theorem binT (ha : PE X a ta) (hb : PE X b tb) {pins : List (Addr × Obj)} {s : Shared} {σ : St} {H : Hp} {R : V → V → Hp → Prop} (I : Inv X pins σ H s)
    (h : ta σ H fun x H1 => tb σ H1 fun y H2 => R x y H2) {Q : Value → Shared → Prop} {f : Value → Value → Sem Value}
    (hf : ∀ v u s2 x y H2, Inv X pins σ H2 s2 → RelV x v → RelV y u → R x y H2 → wpAny (model X.prog X.w) X.A (f v u) Q X.xe s2) :
    wpAny (model X.prog X.w) X.A (eval a X.env) (fun v s₁ => wpAny (model X.prog X.w) X.A (eval b X.env) (fun u s₂ => wpAny (model X.prog X.w) X.A (f v u) Q X.xe s₂) X.xe s₁) X.xe s := by
  refine thn (ha pins s σ H _ I h) fun v s1 ⟨x, H1, I1, r1, q1⟩ => ?_
  refine thn (hb pins s1 σ H1 _ I1 q1) fun u s2 ⟨y, H2, I2, r2, q2⟩ => ?_
  exact hf v u s2 x y H2 I2 r1 r2 q2
theorem pe_op {op : Operator} {r : R2} (ho : OpR X (binaryOp op) r) (ha : PE X a ta) (hb : PE X b tb) : PE X (.BinOp a op b pos) (tOp r ta tb) := by
  intro pins s σ H Q I h
  exact wpAny_BinOp (binT ha hb I h fun v u s2 x y H2 I2 rx ry q => ho pins s2 σ H2 x y v u Q I2 rx ry q)
theorem pe_un {op : UnaryOp} {r : V → Hp → VK → Prop} (ho : UnR X (unaryOp op) r) (ha : PE X a ta) : PE X (.UnaryOp op a pos) (tUn r ta) := by
  intro pins s σ H Q I h
  exact UnaryOp_ (thn (ha pins s σ H _ I h) fun v s1 ⟨x, H1, I1, r1, q1⟩ => ho pins s1 σ H1 x v Q I1 r1 q1)
/-! ### ints -/
theorem opI {f : Value → Value → Sem Value} {C : Int → Int → Prop} {g : Int → Int → Int}
    (rule : ∀ (i j : Int) (t u : Tok) (s : Shared) (Q : Value → Shared → Prop) (E : Value → Shared → Prop), C i j → Q (.int (g i j) s.toks) { s with toks := s.toks + 1 } → wpAny (model X.prog X.w) X.A (f (.int i t) (.int j u)) Q E s) :
    OpR X f (rI C fun i j => .int (g i j)) := by
  intro pins s σ H x y v u Q I rx ry h
  obtain ⟨i, j, rfl, rfl, hc, q⟩ := h
  obtain ⟨t, rfl⟩ := rx
  obtain ⟨t', rfl⟩ := ry
  exact rule i j t t' s _ _ hc ⟨.int (g i j), H, I.tok _, ⟨_, rfl⟩, q⟩
theorem opI0 {f : Value → Value → Sem Value} {g : Int → Int → Int}
    (rule : ∀ (i j : Int) (t u : Tok) (s : Shared) (Q : Value → Shared → Prop) (E : Value → Shared → Prop), Q (.int (g i j) s.toks) { s with toks := s.toks + 1 } → wpAny (model X.prog X.w) X.A (f (.int i t) (.int j u)) Q E s) :
    OpR X f (rI0 fun i j => .int (g i j)) := by
  intro pins s σ H x y v u Q I rx ry h
  obtain ⟨i, j, rfl, rfl, q⟩ := h
  obtain ⟨t, rfl⟩ := rx
  obtain ⟨t', rfl⟩ := ry
  exact rule i j t t' s _ _ ⟨.int (g i j), H, I.tok _, ⟨_, rfl⟩, q⟩
theorem opB0 {f : Value → Value → Sem Value} {g : Int → Int → Bool}
    (rule : ∀ (i j : Int) (t u : Tok) (s : Shared) (Q : Value → Shared → Prop) (E : Value → Shared → Prop), Q (.bool (g i j)) s → wpAny (model X.prog X.w) X.A (f (.int i t) (.int j u)) Q E s) :
    OpR X f (rI0 fun i j => .bl (g i j)) := by
  intro pins s σ H x y v u Q I rx ry h
  obtain ⟨i, j, rfl, rfl, q⟩ := h
  obtain ⟨t, rfl⟩ := rx
  obtain ⟨t', rfl⟩ := ry
  exact rule i j t t' s _ _ ⟨.bl (g i j), H, I, rfl, q⟩
def CPow (i j : Int) : Prop := 0 ≤ j ∧ j ≤ 1000000 ∧ i.natAbs < 2 ^ 64
def CMul (i j : Int) : Prop := (-(2 ^ 64) < i ∧ i < 2 ^ 64) ∨ (-(2 ^ 64) < j ∧ j < 2 ^ 64)
theorem CMul.ok {i j : Int} (h : CMul i j) : IntMulOk i j := by
  rcases h with ⟨h1, h2⟩ | ⟨h1, h2⟩
  · exact .of_left (intBits_le_64 h1 h2)
  · exact .of_right (intBits_le_64 h1 h2)
theorem op_add : OpR X (binaryOp .Add) (rI0 fun i j => .int (i + j)) := opI0 fun _ _ _ _ _ _ _ q => add_int q
theorem op_sub : OpR X (binaryOp .Sub) (rI0 fun i j => .int (i - j)) := opI0 fun _ _ _ _ _ _ _ q => sub_int q
theorem op_mul : OpR X (binaryOp .Mult) (rI CMul fun i j => .int (i * j)) := opI fun _ _ _ _ _ _ _ hc q => mul_int q hc.ok
/-- % by a positive divisor of any size -/
theorem op_mod : OpR X (binaryOp .Mod) (rI (fun _ j => 0 < j) fun i j => .int (i % j)) := opI fun i j _ _ _ _ _ hc q => by
  have h1 : (0 : Int) < j := hc
  exact mod_int' (by omega) (by rw [Int.fmod_eq_emod_of_nonneg i (by omega)]; exact q)
theorem op_pow : OpR X (binaryOp .Pow) (rI CPow fun i j => .int (i ^ j.toNat)) := opI fun _ _ _ _ _ _ _ hc q => pow_int_small hc.1 hc.2.1 hc.2.2 q
theorem unI {f : Value → Sem Value} {g : Int → Int}
    (rule : ∀ (i : Int) (t : Tok) (s : Shared) (Q : Value → Shared → Prop) (E : Value → Shared → Prop), Q (.int (g i) s.toks) { s with toks := s.toks + 1 } → wpAny (model X.prog X.w) X.A (f (.int i t)) Q E s) :
    UnR X f (rU fun i => .int (g i)) := by
  intro pins s σ H x v Q I rx h
  obtain ⟨i, rfl, q⟩ := h
  obtain ⟨t, rfl⟩ := rx
  exact rule i t s _ _ ⟨.int (g i), H, I.tok _, ⟨_, rfl⟩, q⟩
theorem un_neg : UnR X (unaryOp .USub) (rU fun i => .int (-i)) := unI fun _ _ _ _ _ q => neg_int q
/-! ### bools among ints: n += (a < b) -/
end
/-! ### comparisons -/
/-- the scalars that == tells apart as data does -/
def scal : V → V → Bool
  | .non, .non => true | .non, .int _ => true | .int _, .non => true | .non, .bl _ => true | .bl _, .non => true | .non, .str _ => true | .str _, .non => true
  | .int _, .int _ => true | .bl _, .bl _ => true | .str _, .str _ => true | .byt _, .byt _ => true
  | .int _, .str _ => true | .str _, .int _ => true | .bl _, .str _ => true | .str _, .bl _ => true
  | _, _ => false
def rEq : R2 := fun x y H Q => scal x y = true ∧ Q (.bl (decide (x = y))) H
def rNe : R2 := fun x y H Q => scal x y = true ∧ Q (.bl (!decide (x = y))) H
theorem dec_int {i j : Int} : decide (V.int i = V.int j) = (i == j) := by
  rw [Bool.eq_iff_iff]
  simp
theorem dec_bl {i j : Bool} : decide (V.bl i = V.bl j) = (i == j) := by
  rw [Bool.eq_iff_iff]
  simp
theorem dec_str {i j : Str} : decide (V.str i = V.str j) = (i == j) := by
  rw [Bool.eq_iff_iff]
  simp
theorem dec_byt {i j : Array UInt8} : decide (V.byt i = V.byt j) = (i.toList == j.toList) := by
  rw [Bool.eq_iff_iff]
  cases i
  cases j
  simp
section
variable {X : Cx} {a b c : Expr} {ta tb tc : TE} {pos : Pos}
theorem fin_bl {pins : List (Addr × Obj)} {σ : St} {H : Hp} {s : Shared} {Q : VK} {k k' : Bool} (I : Inv X pins σ H s) (q : Q (.bl k) H) (e : k = k') : EP X pins σ Q (.bool k') s := by
  subst e
  exact ⟨.bl k, H, I, rfl, q⟩
theorem op_eq : OpR X (compareOp .Eq) rEq := by
  intro pins s σ H x y v u Q I rx ry h
  obtain ⟨hs, q⟩ := h
  cases x with
  | non =>
    cases rx
    cases y with
    | non => cases ry; exact PySem.EqNone.eq_none_none (fin_bl I q (by simp))
    | bl j => cases ry; exact PySem.EqNone.eq_none_bool (fin_bl I q (by simp))
    | int j => obtain ⟨t', rfl⟩ := ry; exact PySem.EqNone.eq_none_int (fin_bl I q (by simp))
    | str j => obtain ⟨t', rfl⟩ := ry; exact PySem.EqNone.eq_none_str (fin_bl I q (by simp))
    | _ => exact absurd (show false = true from hs) Bool.false_ne_true
  | bl i =>
    cases rx
    cases y with
    | non => cases ry; exact PySem.EqNone.eq_bool_none (fin_bl I q (by simp))
    | bl j => cases ry; exact eq_bool (fin_bl I q dec_bl)
    | str j => obtain ⟨t', rfl⟩ := ry; exact PySem.EqMixed.eq_bool_str (fin_bl I q (by simp))
    | _ => exact absurd (show false = true from hs) Bool.false_ne_true
  | int i =>
    obtain ⟨t, rfl⟩ := rx
    cases y with
    | non => cases ry; exact PySem.EqNone.eq_int_none (fin_bl I q (by simp))
    | int j => obtain ⟨t', rfl⟩ := ry; exact eq_int (fin_bl I q dec_int)
    | str j => obtain ⟨t', rfl⟩ := ry; exact PySem.EqMixed.eq_int_str (fin_bl I q (by simp))
    | _ => exact absurd (show false = true from hs) Bool.false_ne_true
  | str i =>
    obtain ⟨t, rfl⟩ := rx
    cases y with
    | non => cases ry; exact PySem.EqNone.eq_str_none (fin_bl I q (by simp))
    | bl j => cases ry; exact PySem.EqMixed.eq_str_bool (fin_bl I q (by simp))
    | int j => obtain ⟨t', rfl⟩ := ry; exact PySem.EqMixed.eq_str_int (fin_bl I q (by simp))
    | str j => obtain ⟨t', rfl⟩ := ry; exact eq_str (fin_bl I q dec_str)
    | _ => exact absurd (show false = true from hs) Bool.false_ne_true
  | byt i =>
    obtain ⟨t, rfl⟩ := rx
    cases y with
    | byt j => obtain ⟨t', rfl⟩ := ry; exact PySem.W.eq_bytes (fin_bl I q dec_byt)
    | _ => exact absurd (show false = true from hs) Bool.false_ne_true
  | _ => cases y <;> exact absurd (show false = true from hs) Bool.false_ne_true
theorem op_ne : OpR X (compareOp .NotEq) rNe := by
  intro pins s σ H x y v u Q I rx ry h
  obtain ⟨hs, q⟩ := h
  cases x with
  | non =>
    cases rx
    cases y with
    | non => cases ry; exact PySem.EqNone.ne_none_none (fin_bl I q (by simp))
    | bl j => cases ry; exact PySem.EqNone.ne_none_bool (fin_bl I q (by simp))
    | int j => obtain ⟨t', rfl⟩ := ry; exact PySem.EqNone.ne_none_int (fin_bl I q (by simp))
    | str j => obtain ⟨t', rfl⟩ := ry; exact PySem.EqNone.ne_none_str (fin_bl I q (by simp))
    | _ => exact absurd (show false = true from hs) Bool.false_ne_true
  | bl i =>
    cases rx
    cases y with
    | non => cases ry; exact PySem.EqNone.ne_bool_none (fin_bl I q (by simp))
    | bl j => cases ry; exact ne_bool (fin_bl I q (congrArg not dec_bl))
    | str j => obtain ⟨t', rfl⟩ := ry; exact PySem.EqMixed.ne_bool_str (fin_bl I q (by simp))
    | _ => exact absurd (show false = true from hs) Bool.false_ne_true
  | int i =>
    obtain ⟨t, rfl⟩ := rx
    cases y with
    | non => cases ry; exact PySem.EqNone.ne_int_none (fin_bl I q (by simp))
    | int j => obtain ⟨t', rfl⟩ := ry; exact ne_int (fin_bl I q (congrArg not dec_int))
    | str j => obtain ⟨t', rfl⟩ := ry; exact PySem.EqMixed.ne_int_str (fin_bl I q (by simp))
    | _ => exact absurd (show false = true from hs) Bool.false_ne_true
  | str i =>
    obtain ⟨t, rfl⟩ := rx
    cases y with
    | non => cases ry; exact PySem.EqNone.ne_str_none (fin_bl I q (by simp))
    | bl j => cases ry; exact PySem.EqMixed.ne_str_bool (fin_bl I q (by simp))
    | int j => obtain ⟨t', rfl⟩ := ry; exact PySem.EqMixed.ne_str_int (fin_bl I q (by simp))
    | str j => obtain ⟨t', rfl⟩ := ry; exact ne_str (fin_bl I q (congrArg not dec_str))
    | _ => exact absurd (show false = true from hs) Bool.false_ne_true
  | byt i =>
    obtain ⟨t, rfl⟩ := rx
    cases y with
    | byt j => obtain ⟨t', rfl⟩ := ry; exact PySem.W.ne_bytes (fin_bl I q (congrArg not dec_byt))
    | _ => exact absurd (show false = true from hs) Bool.false_ne_true
  | _ => cases y <;> exact absurd (show false = true from hs) Bool.false_ne_true
theorem op_lt : OpR X (compareOp .Lt) (rI0 fun i j => .bl (decide (i < j))) := opB0 fun _ _ _ _ _ _ _ q => lt_int q
theorem op_le : OpR X (compareOp .LtE) (rI0 fun i j => .bl (decide (i ≤ j))) := opB0 fun _ _ _ _ _ _ _ q => le_int q
theorem op_gt : OpR X (compareOp .Gt) (rI0 fun i j => .bl (decide (j < i))) := opB0 fun _ _ _ _ _ _ _ q => gt_int q
theorem op_ge : OpR X (compareOp .GtE) (rI0 fun i j => .bl (decide (j ≤ i))) := opB0 fun _ _ _ _ _ _ _ q => ge_int q
/-- the one string within the other -/
theorem op_in_str : OpR X (compareOp .In) (fun x y H Q => ∃ i j, x = .str i ∧ y = .str j ∧ Q (.bl (!(Builtin.Str.occurrences j i 0 j.length 1).isEmpty)) H) := by
  intro pins s σ H x y v u Q I rx ry h
  obtain ⟨i, j, rfl, rfl, q⟩ := h
  obtain ⟨t, rfl⟩ := rx
  obtain ⟨t', rfl⟩ := ry
  exact in_str (fin_bl I q rfl)
/-- two rules for one operation: by cases -/
theorem OpR.or {f : Value → Value → Sem Value} {r r' : R2} (h : OpR X f r) (h' : OpR X f r') : OpR X f (fun x y H Q => r x y H Q ∨ r' x y H Q) := by
  intro pins s σ H x y v u Q I rx ry q
  rcases q with q | q
  · exact h pins s σ H x y v u Q I rx ry q
  · exact h' pins s σ H x y v u Q I rx ry q
theorem nomark (b : Expr) {op : CmpOp} (h : op ≠ .In := by decide) (h2 : op ≠ .NotIn := by decide) : behindInMarks op b = false := by
  have e1 : (op == CmpOp.In) = false := by cases op <;> first | rfl | exact absurd rfl h
  have e2 : (op == CmpOp.NotIn) = false := by cases op <;> first | rfl | exact absurd rfl h2
  cases b <;> simp [behindInMarks, e1, e2]
/-- a comparison as a value; hm: nomark b, or (for in, not in) by with_unfolding_all rfl -/
theorem pe_cmpR {op : CmpOp} {r : R2} (ho : OpR X (compareOp op) r) (ha : PE X a ta) (hb : PE X b tb) (hm : behindInMarks op b = false) : PE X (.Compare a [op] [b] pos) (tOp r ta tb) := by
  intro pins s σ H Q I h
  exact wpAny_Compare1 (binT ha hb I h fun v u s2 x y H2 I2 rx ry q => ho pins s2 σ H2 x y v u Q I2 rx ry q) hm
/-- a reading of a value as a test -/
def tTest (t : TE) : TT := fun σ H Q => t σ H fun x H' => ∃ k, x = .bl k ∧ Q k H'
theorem pt_cmpR {op : CmpOp} {r : R2} (ho : OpR X (compareOp op) r) (ha : PE X a ta) (hb : PE X b tb) (hm : behindInMarks op b = false) : PT X (.Compare a [op] [b] pos) (tTest (tOp r ta tb)) := by
  intro pins s σ H Q I h
  refine wpAny_isTrue_Compare1 (thn (ha pins s σ H _ I h) fun v s1 ⟨x, H1, I1, r1, q1⟩ => thn (hb pins s1 σ H1 _ I1 q1) fun u s2 ⟨y, H2, I2, r2, q2⟩ =>
    thn (ho pins s2 σ H2 x y v u _ I2 r1 r2 q2) fun c s3 ⟨z, H3, I3, r3, k, e, q3⟩ => ?_) hm
  subst e
  cases r3
  exact wpAny_truthy_bool ⟨H3, I3, q3⟩
/-- a op1 b op2 c -/
def tChain (r r' : R2) (ta tb tc : TE) : TE := fun σ H Q => ta σ H fun x H1 => tb σ H1 fun y H2 => r x y H2 fun z H3 => ∃ k, z = .bl k ∧
  (if k = true then tc σ H3 fun w' H4 => r' y w' H4 Q else Q (.bl false) H3)
/-! ### truth -/
theorem line63 : (sizeLine : Nat) < 2 ^ 63 := by rw [sizeLine_eq]; decide
/-! ### strs and bytes -/
theorem op_add_str : OpR X (binaryOp .Add) (fun x y H Q => ∃ i j, x = .str i ∧ y = .str j ∧ i.length + j.length ≤ sizeLine ∧ Q (.str (i ++ j)) H) := by
  intro pins s σ H x y v u Q I rx ry h
  obtain ⟨i, j, rfl, rfl, hz, q⟩ := h
  obtain ⟨t, rfl⟩ := rx
  obtain ⟨t', rfl⟩ := ry
  exact add_str (fun t' tk => ⟨.str (i ++ j), H, I.tok _, ⟨_, rfl⟩, q⟩) hz
/-! ### scalar builtins, by CallR -/
theorem vals1 {x : V} {us : List Value} (r : Vals [x] us) : ∃ u, us = [u] ∧ RelV x u := by
  cases r with
  | cons r1 r2 => cases r2; exact ⟨_, rfl, r1⟩
theorem vals2 {x y : V} {us : List Value} (r : Vals [x, y] us) : ∃ u w', us = [u, w'] ∧ RelV x u ∧ RelV y w' := by
  cases r with
  | cons r1 r2 =>
    cases r2 with
    | cons r3 r4 => cases r4; exact ⟨_, _, rfl, r1, r3⟩
theorem call_int1 : CallR X (.type "int") (fun xs H Q => (∃ i, xs = [.int i] ∧ Q (.int i) H) ∨ ∃ k, xs = [.bl k] ∧ Q (.int (if k then 1 else 0)) H) := by
  intro pins s σ H xs us Q I r h
  rcases h with ⟨i, rfl, q⟩ | ⟨k, rfl, q⟩
  · obtain ⟨u, rfl, t, rfl⟩ := vals1 r
    exact call_int_int ⟨.int i, H, I, ⟨_, rfl⟩, q⟩
  · obtain ⟨u, rfl, r1⟩ := vals1 r
    cases r1
    exact call_int_bool ⟨.int (if k then 1 else 0), H, I.tok _, ⟨_, rfl⟩, q⟩
/-- len of a str, a bytes, a list, a tuple -/
def LenV (K : PySem.W.Frag) (x : V) (H : Hp) (n : Nat) : Prop :=
  match x with
  | .str y => y.length ≤ sizeLine ∧ n = y.length
  | .byt y => y.size ≤ sizeLine ∧ n = y.size
  | .ref p => (∃ xs, SqL K H p xs ∧ n = xs.length) ∨ ∃ xs, SqT K H p xs ∧ n = xs.length
  | _ => False
theorem call_len : CallR X (.builtin "len") (fun xs H Q => ∃ x n, xs = [x] ∧ LenV X.K x H n ∧ Q (.int n) H) := by
  intro pins s σ H xs us Q I r h
  obtain ⟨x, n, rfl, e, q⟩ := h
  obtain ⟨u, rfl, rx⟩ := vals1 r
  have hl := line63
  have hs : sizeLine = 16777216 := sizeLine_eq
  cases x with
  | str y =>
    obtain ⟨t, rfl⟩ := rx
    obtain ⟨hy, e'⟩ : y.length ≤ sizeLine ∧ n = y.length := e
    subst e'
    exact len_str (by omega) ⟨.int _, H, I.tok _, ⟨_, rfl⟩, q⟩
  | byt y =>
    obtain ⟨t, rfl⟩ := rx
    obtain ⟨hy, e'⟩ : y.size ≤ sizeLine ∧ n = y.size := e
    subst e'
    exact PySem.W.len_bytes (by omega) ⟨.int _, H, I.tok _, ⟨_, rfl⟩, q⟩
  | ref p =>
    cases rx
    have e' : (∃ xs, SqL X.K H p xs ∧ n = xs.length) ∨ ∃ xs, SqT X.K H p xs ∧ n = xs.length := e
    rcases e' with ⟨xs, hx, e'⟩ | ⟨xs, hx, e'⟩
    · subst e'
      obtain ⟨its, r', pl, hz⟩ := I.list hx
      have hlen := r'.length
      exact Calls.call_len_list pl.isList (by simp only [List.size_toArray]; omega) ⟨.int xs.length, H, I.tok _, ⟨_, by simp only [List.size_toArray]; rw [hlen]⟩, q⟩
    · subst e'
      obtain ⟨its, r', pl, hz⟩ := I.tuple hx
      have hlen := r'.length
      exact len_tuple pl (by simp only [List.size_toArray]; omega) ⟨.int xs.length, H, I.tok _, ⟨_, by simp only [List.size_toArray]; rw [hlen]⟩, q⟩
  | _ => exact (show False from e).elim
end
end L2
namespace L2
open PySem PySem.Spec PyProof.Rows
/-! ### an instance, its attributes a map -/
structure ObjM (h : Heap) (x dx C : Addr) (mA : Str → Option Value) : Prop where
  obj : h.get? x = some (PySem.W.instObj C dx)
  ns : h.Ns1 dx mA
  ne : dx ≠ x
theorem lookIn_ns {h : Heap} {dx : Addr} {mA : Str → Option Value} (n : h.Ns1 dx mA) : ∃ od, h.get? dx = some od ∧ ∀ name, PySem.W.lookIn name od = some (mA name) := by
  obtain ⟨o, es, ep, ho, hd, hk, _, hm⟩ := n
  refine ⟨o, ho, fun name => ?_⟩
  have e := hm name
  unfold nsFind findBy at e
  rw [← Array.find?_toList] at e
  unfold PySem.W.lookIn
  rw [hd]
  dsimp only
  split
  · rename_i y q
    rw [q] at e
    exact congrArg some e
  · rename_i q
    rw [q] at e
    have a : es.toList.any (·.refKey) = false := by
      rw [List.any_eq_false]
      intro y hy
      obtain ⟨z, t, hkey⟩ := hk y (Array.mem_toList_iff.mp hy)
      simp [DictEntry.refKey, hkey]
    have a' : ¬ es.toList.any (·.refKey) = true := by rw [a]; exact Bool.false_ne_true
    rw [if_neg a']
    exact congrArg some e
theorem ObjM.look {h : Heap} {x dx C : Addr} {mA : Str → Option Value} (I : ObjM h x dx C mA) : ∃ od, PySem.W.InstAt h x (PySem.W.instObj C dx) C (some od) ∧ ∀ name, PySem.W.lookIn name od = some (mA name) :=
  let ⟨od, ho, hl⟩ := lookIn_ns I.ns
  ⟨od, ⟨I.obj, rfl, rfl, ho⟩, hl⟩
section
variable {prog : Program} {w : World} {A : Around} {E : Value → Shared → Prop} {s : Shared} {K : PySem.W.Frag} {x dx C f : Addr} {mA : Str → Option Value} {name : Str} {v : Value}
theorem get_map {expr : Bool} {Q : Value → Shared → Prop} (X : K.In s.heap) (I : ObjM s.heap x dx C mA) (hg : PySem.W.plainGet K C name = true) (hh : PySem.W.hasDictIn K C = true)
    (ha : PySem.W.findIn K (.ref C) name = some none) (hv : mA name = some v) (hv' : PySem.W.handedIn v = true) (h : Q v { s with toks := s.toks + 1 }) :
    wpAny (model prog w) A (getAttr (.ref x) name expr) Q E s := by
  obtain ⟨od, J, hl⟩ := I.look
  exact PySem.W.get_value X J (PySem.W.plainGet_of hg).1 (PySem.W.findObj_own hh ha rfl (by rw [hl, hv])) hv' h
theorem set_map {ns : List Str} {Q : Unit → Shared → Prop} (X : K.In s.heap) (I : ObjM s.heap x dx C mA)
    (hs : PySem.W.findIn K (.ref C) "__setattr__" = some (some (.builtin "object.__setattr__"))) (hp : PySem.W.plainOver K C = true) (ht : PySem.W.takerIn K C name = some none) (hh : PySem.W.hasDictIn K C = true)
    (hw : PySem.Within mA ns) (hsz : ns.length ≤ sizeLine)
    (h : ∀ h', ObjM h' x dx C (fun y => if y = name then some v else mA y) → Heap.SameBut dx s.heap h' → Q () { s with heap := h', toks := s.toks + 2 }) :
    wpAny (model prog w) A (setAttr (.ref x) name v) Q E s := by
  obtain ⟨od, J, hl⟩ := I.look
  refine PySem.W.set_plain X J hs (PySem.W.osa_open (s := { s with toks := s.toks + 1 }) (r := none) X J hp ht fun b => ?_)
  obtain ⟨cd, hc, hd'⟩ := PySem.W.any_some hh
  have hx : s.heap.get? x = some ⟨.ref C, some dx, .plain, #[]⟩ := I.obj
  refine wpAny_bind (wpAny_pure (wpAny_bind (wpAny_bind (wpAny_loadPart hx (wpAny_bind (PySem.W.Looks.here (s := { s with toks := s.toks + 1 }) (PySem.W.looks_clsIn X hc) ?_))))))
  rw [hd']
  refine wpAny_pure (a := some dx) (wpAny_bind (wpAny_pure (wpAny_bind ?_)))
  refine wpAny_nsSet1 (s := { s with toks := s.toks + 1 }) I.ns fun h' hn2 hs2 => ?_
  obtain ⟨oD, esD, epD, hoD, hdD, hcD⟩ := hn2.count (PySem.Within.cons name v hw)
  refine wpAny_bind (wpAny_lookBehind hoD (by rw [hdD]; exact pastItsLine_dict (Nat.le_trans hcD (by rw [List.length_cons]; omega))) ?_)
  exact wpAny_pure (h _ ⟨(hs2.2 _ (Ne.symm I.ne)).trans I.obj, hn2, I.ne⟩ hs2)
/-- C(..): the dict at the heap's end, the instance behind it; then its __init__ -/
theorem make_map {R : Result → Shared → Prop} {vs : List Value} {kw : List (Str × Value)} (X : K.In s.heap) (hm : PySem.W.makesIn K C = true)
    (hi : PySem.W.findIn K (.ref C) "__init__" = some (some (.ref f))) (hf : PySem.W.typeIn K (.ref f) = some (.type "function"))
    (h : codeAny (model prog w) (A.under (.builtin "type.__call__" ⟨.ref C :: vs, kw⟩)) (.call (.ref f) ⟨.ref (s.heap.objs.size + 1) :: vs, kw⟩) (PySem.W.InitBack (s.heap.objs.size + 1) R)
      { s with heap := (s.heap.push PySem.W.emptyDict).push (PySem.W.instObj C s.heap.objs.size) }) :
    codeAny (model prog w) A (.call (.ref C) ⟨vs, kw⟩) R s := by
  obtain ⟨hh, g, d, t, os⟩ := s
  exact PySem.W.make_core (PySem.W.makes_of X hm) (PySem.W.looks_findIn X hi) (fun self => PySem.W.bind_fn X self hf) (.inl rfl) h
end
/-! ### the attributes as a list of pairs -/
def putF (f : Str) (v : V) : List (Str × V) → List (Str × V)
  | [] => [(f, v)]
  | (g, x) :: r => if g = f then (g, v) :: r else (g, x) :: putF f v r
theorem lookup_putF (f g : Str) (v : V) : ∀ fs : List (Str × V), (putF f v fs).lookup g = if g = f then some v else fs.lookup g
  | [] => by
    show List.lookup g [(f, v)] = _
    by_cases h : g = f
    · have hb : (g == f) = true := beq_iff_eq.mpr h
      simp only [List.lookup, hb, if_pos h]
    · have hb : (g == f) = false := beq_eq_false_iff_ne.mpr h
      simp only [List.lookup, hb, if_neg h]
  | (k, x) :: r => by
    have ih := lookup_putF f g v r
    rw [show putF f v ((k, x) :: r) = (if k = f then (k, v) :: r else (k, x) :: putF f v r) from rfl]
    by_cases hk : k = f
    · rw [if_pos hk]
      by_cases h : g = k
      · have hb : (g == k) = true := beq_iff_eq.mpr h
        simp only [List.lookup, hb, if_pos (h.trans hk)]
      · have hb : (g == k) = false := beq_eq_false_iff_ne.mpr h
        simp only [List.lookup, hb, if_neg (fun e : g = f => h (e.trans hk.symm))]
    · rw [if_neg hk]
      by_cases h : g = k
      · have hb : (g == k) = true := beq_iff_eq.mpr h
        simp only [List.lookup, hb, if_neg (fun e : g = f => hk (h.symm.trans e))]
      · have hb : (g == k) = false := beq_eq_false_iff_ne.mpr h
        simp only [List.lookup, hb]
        exact ih
theorem keys_putF (f : Str) (v : V) : ∀ fs : List (Str × V), f ∈ (putF f v fs).map (·.1) ∧ ∀ g, g ∈ fs.map (·.1) → g ∈ (putF f v fs).map (·.1)
  | [] => ⟨by simp [putF], fun g h => by simp at h⟩
  | (k, x) :: r => by
    obtain ⟨i1, i2⟩ := keys_putF f v r
    rw [show putF f v ((k, x) :: r) = (if k = f then (k, v) :: r else (k, x) :: putF f v r) from rfl]
    by_cases hk : k = f
    · rw [if_pos hk]
      subst hk
      exact ⟨by simp, fun g h => by simpa using h⟩
    · rw [if_neg hk]
      refine ⟨?_, fun g h => ?_⟩
      · rw [List.map_cons]
        exact List.mem_cons_of_mem _ i1
      · rw [List.map_cons] at h ⊢
        rcases List.mem_cons.mp h with e | e
        · exact List.mem_cons.mpr (.inl e)
        · exact List.mem_cons_of_mem _ (i2 g e)
theorem length_putF (f : Str) (v : V) : ∀ fs : List (Str × V), (putF f v fs).length ≤ fs.length + 1
  | [] => by simp [putF]
  | (k, x) :: r => by
    have ih := length_putF f v r
    rw [show putF f v ((k, x) :: r) = (if k = f then (k, v) :: r else (k, x) :: putF f v r) from rfl]
    by_cases hk : k = f
    · rw [if_pos hk, List.length_cons, List.length_cons]; omega
    · rw [if_neg hk, List.length_cons, List.length_cons]; omega
theorem RelO.some_of {v : V} {o : Option Value} (r : RelO (some v) o) : ∃ u, o = some u ∧ RelV v u := by
  cases o with
  | none => exact (show False from r).elim
  | some u => exact ⟨u, rfl, r⟩
theorem handed_of {v : V} {u : Value} (r : RelV v u) : PySem.W.handedIn u = true := by
  cases v with
  | non => cases (show u = Value.none from r); rfl
  | bl b => cases (show u = Value.bool b from r); rfl
  | int i => obtain ⟨t, e⟩ := (show ∃ t, u = Value.int i t from r); cases e; rfl
  | str x => obtain ⟨t, e⟩ := (show ∃ t, u = Value.str x t from r); cases e; rfl
  | byt b => obtain ⟨t, e⟩ := (show ∃ t, u = Value.bytes b t from r); cases e; rfl
  | flt b => obtain ⟨t, e⟩ := (show ∃ t, u = Value.float b t from r); cases e; rfl
  | ref a => cases (show u = Value.ref a from r); rfl
  | ty n => cases (show u = Value.type n from r); rfl
section
variable {P : Program} {w : World} {H H' : Hp} {h h' : Heap} {a C dx : Addr} {fs fs' : List (Str × V)}
theorem ins_get (hok : HOk P w H h) (e : H a = some (.ins C dx fs)) : ∃ mA, ObjM h a dx C mA ∧ (∀ f, RelO (fs.lookup f) (mA f)) ∧ PySem.Within mA (fs.map (·.1)) ∧ fs.length ≤ 1000 ∧ H dx = some (.own a) := by
  obtain ⟨d, z, ne, ob, mA, n, r, q⟩ := (show ObjOk P w H h a (.ins C dx fs) from hok a _ e)
  exact ⟨mA, ⟨ob, n, ne⟩, r, q, z, d⟩
end
/-! ### what of the text a class must have -/
structure Cls (K : PySem.W.Frag) (C : Addr) : Prop where
  pg : PySem.W.plainGet K C Str.empty = true
  hd : PySem.W.hasDictIn K C = true
  po : PySem.W.plainOver K C = true
  sa : PySem.W.findIn K (.ref C) "__setattr__" = some (some (.builtin "object.__setattr__"))
theorem Cls.get {K : PySem.W.Frag} {C : Addr} (c : Cls K C) (f : Str) : PySem.W.plainGet K C f = true := c.pg
/-- no class of it has the name -/
def NoAttr (K : PySem.W.Frag) (C : Addr) (f : Str) : Prop := PySem.W.findIn K (.ref C) f = some none
theorem NoAttr.taker {K : PySem.W.Frag} {C : Addr} {f : Str} (n : NoAttr K C f) : PySem.W.takerIn K C f = some none := by
  unfold PySem.W.takerIn
  rw [show PySem.W.findIn K (.ref C) f = some none from n]
  rfl
/-- a constant of the class -/
structure Con (K : PySem.W.Frag) (C : Addr) (f : Str) (v : V) (u : Value) : Prop where
  at_ : PySem.W.findIn K (.ref C) f = some (some u)
  rel : RelV v u
  get : PySem.W.specialIn K u "__get__" = some none
  cp : PySem.W.copiedNames.contains f = false
/-- a method: a plain def of the class or of one above it -/
structure Meth (K : PySem.W.Frag) (C : Addr) (m : Str) (f : Addr) : Prop where
  at_ : PySem.W.findIn K (.ref C) m = some (some (.ref f))
  fn : PySem.W.isFn K (.ref f) = true
  kp : PySem.W.keepIn K (.ref f) = true
section
variable {X : Cx} {pins : List (Addr × Obj)} {σ : St} {H : Hp} {s : Shared} {a C dx : Addr} {fs : List (Str × V)} {f : Str} {v : V} {A : Around} {E : Value → Shared → Prop}
theorem getattr_ok {b : Bool} {Q : Value → Shared → Prop} (I : Inv X pins σ H s) (e : H a = some (.ins C dx fs)) (c : Cls X.K C) (n : NoAttr X.K C f) (l : fs.lookup f = some v)
    (h : ∀ u s', Inv X pins σ H s' → RelV v u → Q u s') : wpAny (model X.prog X.w) A (getAttr (.ref a) f b) Q E s := by
  obtain ⟨mA, O, r, _, _, _⟩ := ins_get I.hok e
  obtain ⟨u, hu, ru⟩ := RelO.some_of (v := v) (o := mA f) (by rw [← l]; exact r f)
  exact get_map I.kIn O (c.get f) c.hd n hu (handed_of ru) (h u _ (I.tok _) ru)
theorem setattr_ok {y : V} {u : Value} {Q : Unit → Shared → Prop} (I : Inv X pins σ H s) (e : H a = some (.ins C dx fs)) (c : Cls X.K C) (n : NoAttr X.K C f) (hl : fs.length < 1000) (ry : RelV y u)
    (h : ∀ s', Inv X pins σ (upd H a (.ins C dx (putF f y fs))) s' → Q () s') : wpAny (model X.prog X.w) A (setAttr (.ref a) f u) Q E s := by
  obtain ⟨mA, O, r, wi, _, ho⟩ := ins_get I.hok e
  have hz : (fs.map (·.1)).length ≤ sizeLine := by rw [List.length_map, sizeLine_eq]; omega
  refine set_map I.kIn O c.sa c.po n.taker c.hd wi hz fun h' O' sb => h _ ?_
  have hd : ∃ o, h'.get? dx = some o := let ⟨o, _, _, e', _⟩ := O'.ns; ⟨o, e'⟩
  refine I.write (x := a) (e := dx) (by rw [e]; exact True.intro) (.inr ho) (fun b q hb z => (sb.2 b hb).trans z) hd ?_
  refine ⟨by rw [upd_ne O.ne]; exact ho, ?_, O.ne, O'.obj, _, O'.ns, fun g => ?_, fun g hg => ?_⟩
  · have := length_putF f y fs; omega
  · show RelO ((putF f y fs).lookup g) (if g = f then some u else mA g)
    rw [lookup_putF]
    by_cases q : g = f
    · rw [if_pos q, if_pos q]; exact ry
    · rw [if_neg q, if_neg q]; exact r g
  · by_cases q : g = f
    · rw [q]; exact (keys_putF f y fs).1
    · refine (keys_putF f y fs).2 g (wi g fun z => hg ?_)
      show (if g = f then some u else mA g) = none
      rw [if_neg q]; exact z
/-- a new instance, tracked, without attributes -/
theorem Inv.made (I : Inv X pins σ H s) : Inv X pins σ (upd (upd H s.heap.objs.size (.own (s.heap.objs.size + 1))) (s.heap.objs.size + 1) (.ins C s.heap.objs.size []))
    { s with heap := (s.heap.push PySem.W.emptyDict).push (PySem.W.instObj C s.heap.objs.size) } := by
  have e1 : (s.heap.push PySem.W.emptyDict).get? s.heap.objs.size = some PySem.W.emptyDict := Heap.get?_push_size s.heap rfl
  have e2 : ((s.heap.push PySem.W.emptyDict).push (PySem.W.instObj C s.heap.objs.size)).get? (s.heap.objs.size + 1) = some (PySem.W.instObj C s.heap.objs.size) := by
    have := Heap.get?_push_size (s.heap.push PySem.W.emptyDict) (o := PySem.W.instObj C s.heap.objs.size) rfl
    rwa [Heap.size_push] at this
  have e3 : (s.heap.push PySem.W.emptyDict).Ns s.heap.objs.size (fun _ => none) := ⟨PySem.W.emptyDict, #[], _, e1, rfl, (fun e he => absurd he (by simp)), fun _ => rfl⟩
  have I1 := I.laid (a := s.heap.objs.size) (o := .own (s.heap.objs.size + 1)) (h' := s.heap.push PySem.W.emptyDict) (t' := s.toks) (fun b u q => Heap.get?_push_of_some _ q) (Nat.le_refl _) ⟨_, e1⟩
  refine I1.laid (a := s.heap.objs.size + 1) (o := .ins C s.heap.objs.size []) (t' := s.toks) (fun b u q => Heap.get?_push_of_some _ q) (Nat.le_of_eq (Heap.size_push _ _)) ?_
  have ne : s.heap.objs.size ≠ s.heap.objs.size + 1 := Nat.ne_of_lt (Nat.lt_succ_self _)
  refine ⟨by rw [upd_ne ne, upd_same], Nat.zero_le _, ne, e2, fun _ => none, (Heap.Ns1.of_empty e3).at fun o q => Heap.get?_push_of_some _ q, fun _ => True.intro, fun y hy => absurd rfl hy⟩
/-- e.f where nothing but the object is asked: through attributeBase (super) and the last hold -/
theorem attr_of {prog : Program} {w : World} {env : Env} {e : Expr} {f : Str} {pos : Pos} {s : Shared} {Q : Value → Shared → Prop} (hb : attributeBase e f env (eval e env) = eval e env)
    (h : wpAny (model prog w) A (eval e env) (fun o s₁ => wpAny (model prog w) A (getAttr o f true) Q E s₁) E s) : wpAny (model prog w) A (eval (.Attribute e f pos) env) Q E s :=
  Attribute_any_ h (by rw [arm_eval_Attribute, hb])
end
/-! ### readings and rules -/
/-- e.f, an attribute of the instance -/
def tFld (K : PySem.W.Frag) (ta : TE) (f : Str) : TE := fun σ H Q => ta σ H fun x H1 => ∃ a C dx fs v, x = .ref a ∧ H1 a = some (.ins C dx fs) ∧ Cls K C ∧ NoAttr K C f ∧ fs.lookup f = some v ∧ Q v H1
/-- e.f = value -/
def sFld (K : PySem.W.Frag) (ta tv : TE) (f : Str) : TS := fun D σ H => tv σ H fun y H1 => ta σ H1 fun x H2 => ∃ a C dx fs, x = .ref a ∧ H2 a = some (.ins C dx fs) ∧ Cls K C ∧ NoAttr K C f ∧ fs.length < 1000 ∧
  D.nx σ (upd H2 a (.ins C dx (putF f y fs)))
section
variable {X : Cx} {o e value : Expr} {f : Str} {pos pos' tpos : Pos} {ta tv : TE}
theorem pe_fld (he : PE X e ta) (hb : attributeBase e f X.env (eval e X.env) = eval e X.env) : PE X (.Attribute e f pos) (tFld X.K ta f) := by
  intro pins s σ H Q I h
  refine attr_of hb (thn (he pins s σ H _ I h) fun u s1 ⟨x, H1, I1, rx, a, C, dx, fs, v, ex, ea, c, n, l, q⟩ => ?_)
  subst ex
  obtain rfl : u = Value.ref a := rx
  exact getattr_ok I1 ea c n l fun u' s2 I2 ru => ⟨v, H1, I2, ru, q⟩
theorem ps_fld (ha : PE X o ta) (hv : PE X value tv) (hs : swapsWith value (some (.Attribute o f pos')) pos.line X.env = pure false) : PS X (.Assign [.Attribute o f pos'] value pos) (sFld X.K ta tv f) := by
  intro pins s σ H D I h
  refine plainObj_wpAny_Assign_Attribute (thn (hv pins s σ H _ I h) fun u s1 ⟨y, H1, I1, ry, q⟩ => thn (ha pins s1 σ H1 _ I1 q) fun ov s2 ⟨x, H2, I2, rx, a, C, dx, fs, ex, ea, c, n, l, q2⟩ => ?_) hs
  subst ex
  obtain rfl : ov = Value.ref a := rx
  exact setattr_ok I2 ea c n l ry fun s3 I3 => ⟨σ, _, I3, q2⟩
end
/-! ### isinstance -/
section
variable {X : Cx} {pins : List (Addr × Obj)} {σ : St} {H : Hp} {s : Shared} {A : Around} {E : Value → Shared → Prop} {Q : Value → Shared → Prop} {c : Value} {b : Bool}
/-- the type of a value, as the fragment's deciders take it; for an instance its class -/
inductive TyOf (K : PySem.W.Frag) (H : Hp) : V → Value → Prop where
  | non : TyOf K H .non (.type "NoneType")
  | bl (x : Bool) : TyOf K H (.bl x) (.type "bool")
  | int (i : Int) : TyOf K H (.int i) (.type "int")
  | str (x : Str) : TyOf K H (.str x) (.type "str")
  | flt (x : UInt64) : TyOf K H (.flt x) (.type "float")
  | lst {a : Addr} {xs : List V} (e : H a = some (.lst xs)) : TyOf K H (.ref a) (.type "list")
  | frz {a : Addr} {o : Obj} {xs : List V} (e : H a = some (.frz o (.lst xs))) : TyOf K H (.ref a) (.type "list")
  | tup {a : Addr} {xs : List V} (e : H a = some (.tup xs)) : TyOf K H (.ref a) (.type "tuple")
  | dK {a : Addr} {kvs : List (Key × V)} (e : H a = some (.dK kvs)) : TyOf K H (.ref a) (.type "dict")
  | dT {a : Addr} {kvs : List (List Key × V)} (e : H a = some (.dT kvs)) : TyOf K H (.ref a) (.type "dict")
  | ins {a C dx : Addr} {fs : List (Str × V)} (e : H a = some (.ins C dx fs)) (cl : Cls K C) (ha : PySem.W.findIn K (.ref C) "__class__" = some (some (.builtin "object.__class__")))
      (hn : PySem.W.specialIn K (.builtin "object.__class__") "__get__" = some (some (.builtin "getset_descriptor.__get__"))) (htk : PySem.W.takesIn K (.builtin "object.__class__") = some true)
      (hm : PySem.W.mroIn K C (.type "object") = some true) : TyOf K H (.ref a) (.ref C)
/-- isinstance(x, c) for one class c, a built-in or an own one: kitOne's answer -/
theorem isinst_ok {x : V} {u t : Value} (I : Inv X pins σ H s) (rx : RelV x u) (ty : TyOf X.K H x t) (e : PySem.W.kitOne X.K t c = some b) (h : ∀ tk, Q (.bool b) { s with toks := tk }) :
    wpAny (model X.prog X.w) A (call (.builtin "isinstance") [u, c]) Q E s := by
  cases ty with
  | non => cases (show u = Value.none from rx); exact PySem.W.kia_one PySem.W.kitx_none I.kIn True.intro e (fun z => nomatch z) h
  | bl y => cases (show u = Value.bool y from rx); exact PySem.W.kia_one PySem.W.kitx_bool I.kIn True.intro e (fun z => nomatch z) h
  | int i => obtain ⟨t, q⟩ := (show ∃ t, u = Value.int i t from rx); cases q; exact PySem.W.kia_one PySem.W.kitx_int I.kIn True.intro e (fun z => nomatch z) h
  | str y => obtain ⟨t, q⟩ := (show ∃ t, u = Value.str y t from rx); cases q; exact PySem.W.kia_one PySem.W.kitx_str I.kIn True.intro e (fun z => nomatch z) h
  | flt y => obtain ⟨t, q⟩ := (show ∃ t, u = Value.float y t from rx); cases q; exact PySem.W.kia_one PySem.W.kitx_float I.kIn True.intro e (fun z => nomatch z) h
  | @lst a xs ea =>
    cases (show u = Value.ref a from rx)
    obtain ⟨_, _, n, _, h1⟩ := (show ObjOk X.prog X.w H s.heap a (.lst xs) from I.hok a _ ea)
    exact PySem.W.kia_one PySem.W.kitx_list I.kIn ⟨_, h1, rfl⟩ e (fun z => nomatch z) h
  | @frz a ob xs ea =>
    cases (show u = Value.ref a from rx)
    obtain ⟨_, _, _, n, _, h1⟩ := (show ObjOk X.prog X.w H s.heap a (.frz ob (.lst xs)) from I.hok a _ ea)
    exact PySem.W.kia_one PySem.W.kitx_list I.kIn ⟨_, h1, rfl⟩ e (fun z => nomatch z) h
  | @tup a xs ea =>
    cases (show u = Value.ref a from rx)
    obtain ⟨_, _, _, p⟩ := (show ObjOk X.prog X.w H s.heap a (.tup xs) from I.hok a _ ea)
    obtain ⟨o, h1, h2, _⟩ := p
    exact PySem.W.kia_one PySem.W.kitx_tuple I.kIn ⟨o, h1, h2⟩ e (fun z => nomatch z) h
  | @dK a kvs ea =>
    cases (show u = Value.ref a from rx)
    obtain ⟨_, _, vs, _, p⟩ := (show ObjOk X.prog X.w H s.heap a (.dK kvs) from I.hok a _ ea)
    obtain ⟨o, es, ep, h1, h2, _⟩ := p
    exact PySem.W.kia_one PySem.W.kitx_dict I.kIn ⟨o, h1, h2.1⟩ e (fun z => nomatch z) h
  | @dT a kvs ea =>
    cases (show u = Value.ref a from rx)
    obtain ⟨_, _, xs, _, o, es, ep, h1, h2, _⟩ := (show ObjOk X.prog X.w H s.heap a (.dT kvs) from I.hok a _ ea)
    exact PySem.W.kia_one PySem.W.kitx_dict I.kIn ⟨o, h1, h2.1⟩ e (fun z => nomatch z) h
  | @ins a C dx fs ea cl ha hn htk hm =>
    cases (show u = Value.ref a from rx)
    obtain ⟨mA, O, _⟩ := ins_get I.hok ea
    obtain ⟨od, J, _⟩ := O.look
    exact PySem.W.kia_one (PySem.W.kitx_own (cl.get _) cl.hd ha hn htk hm) I.kIn J e (fun z => nomatch z) h
end
end L2
namespace L2
open PySem PySem.Spec PyProof.Rows
/-! ### room -/
structure Room (k : Nat) (A : Around) : Prop where
  hd : A.handled = none
  dp : A.depth + 3 * k + 5 < recursionLimit
  un : A.units + 16 * k + 200 < cLine
theorem Room.mono {j k : Nat} {A : Around} (r : Room k A) (h : j ≤ k) : Room j A := ⟨r.hd, by have := r.dp; omega, by have := r.un; omega⟩
theorem Room.deeper {k : Nat} {A : Around} (r : Room (k + 1) A) (env : Env) : Room k (A.deeper env) :=
  ⟨r.hd, by have := r.dp; show A.depth + 1 + 3 * k + 5 < _; omega, by have := r.un; show A.units + 3 + 16 * k + 200 < _; omega⟩
theorem Room.in1 {k : Nat} {A : Around} (r : Room (k + 1) A) : Room k A.in1 :=
  ⟨r.hd, by have := r.dp; show A.depth + 3 * k + 5 < _; omega, by have := r.un; show A.units + 1 + 16 * k + 200 < _; omega⟩
theorem make_depth {A : Around} {C : Addr} {us : List Value} {kw : List (Str × Value)} : (A.under (.builtin "type.__call__" ⟨.ref C :: us, kw⟩)).depth = A.depth + 1 := by
  first | rfl | simp [Around.under, Code.weight, Code.isCreation, Code.isGuard, Code.isCaller, Code.frames, Code.isFrame, guardIds]
theorem make_units {A : Around} {C : Addr} {us : List Value} {kw : List (Str × Value)} : (A.under (.builtin "type.__call__" ⟨.ref C :: us, kw⟩)).units = A.units + 1 := by
  first | rfl | simp [Around.under, Code.cUnits, Code.frames, Code.isFrame]
theorem Room.make {k : Nat} {A : Around} (r : Room (k + 1) A) (C : Addr) (us : List Value) (kw : List (Str × Value)) : Room k (A.under (.builtin "type.__call__" ⟨.ref C :: us, kw⟩)) :=
  ⟨r.hd, by have := r.dp; rw [make_depth]; omega, by have := r.un; rw [make_units]; omega⟩
theorem Room.depth {k : Nat} {A : Around} (r : Room k A) : A.depth < recursionLimit := by have := r.dp; omega
theorem Room.units {k : Nat} {A : Around} (r : Room k A) : A.units + 64 < cLine := by have := r.un; omega
/-! ### argument lists and displays -/
def tNil : TA := fun _ H Q => Q [] H
def tCons (ta : TE) (tr : TA) : TA := fun σ H Q => ta σ H fun x H1 => tr σ H1 fun xs H2 => Q (x :: xs) H2
section
variable {X : Cx} {e : Expr} {es : List Expr} {te : TE} {t : TA} {pos : Pos}
theorem pa_nil : PA X [] tNil := fun _ _ _ _ H Q I h => Calls.spliced_nil ⟨[], H, I, .nil, h⟩
theorem pa_cons (ha : PE X e te) (hr : PA X es t) (hs : starEach (e :: es) X.env = (false, eval e X.env) :: starEach es X.env := by rfl) : PA X (e :: es) (tCons te t) := by
  intro pos pins s σ H Q I h
  rw [hs]
  show wpAny _ _ (spliced ((false, eval e X.env) :: backTo pos (starEach es X.env))) _ _ s
  refine Calls.spliced_cons (thn (ha pins s σ H _ I h) fun u s1 ⟨x, H1, I1, r1, q1⟩ => ?_)
  exact thn (hr pos pins s1 σ H1 _ I1 q1) fun us s2 ⟨xs, H2, I2, r2, q2⟩ => ⟨x :: xs, H2, I2, .cons r1 r2, q2⟩
/-- a tuple, a list of written items -/
def tTup (t : TA) : TE := fun σ H Q => t σ H fun xs H1 => xs.length ≤ sizeLine ∧ ∀ p, H1 p = none → Q (.ref p) (upd H1 p (.tup xs))
def tLst (t : TA) : TE := fun σ H Q => t σ H fun xs H1 => xs.length ≤ sizeLine ∧ ∀ p, H1 p = none → Q (.ref p) (upd H1 p (.lst xs))
theorem pe_tup {x1} (h : PA X es t) : PE X (.Tuple es x1 pos) (tTup t) := by
  intro pins s σ H Q I hq
  refine wpAny_Tuple_spliced (thn (h pos pins s σ H _ I hq) fun us s1 ⟨xs, H1, I1, r, z, q⟩ => ⟨by rw [← r.length]; exact z, ?_⟩)
  have hf : H1 s1.heap.objs.size = none := I1.hok.fresh (Nat.le_refl _)
  refine ⟨.ref s1.heap.objs.size, upd H1 s1.heap.objs.size (.tup xs), I1.laid (t' := s1.toks) (fun b u e => Heap.get?_push_of_some _ e) (Nat.le_refl _) ?_, rfl, q _ hf⟩
  exact ⟨z, us, r, ⟨_, Heap.get?_push_size _ rfl, rfl, _, rfl⟩⟩
theorem pe_lst (h : PA X es t) : PE X (.List es pos) (tLst t) := by
  intro pins s σ H Q I hq
  refine wpAny_List_spliced (thn (h pos pins s σ H _ I hq) fun us s1 ⟨xs, H1, I1, r, z, q⟩ => ⟨by rw [← r.length]; exact z, ?_⟩)
  have hf : H1 s1.heap.objs.size = none := I1.hok.fresh (Nat.le_refl _)
  refine ⟨.ref s1.heap.objs.size, upd H1 s1.heap.objs.size (.lst xs), I1.laid (t' := s1.toks) (fun b u e => Heap.get?_push_of_some _ e) (Nat.le_refl _) ?_, rfl, q _ hf⟩
  exact ⟨z, us, 0, r, Heap.get?_push_size _ rfl⟩
end
/-! ### what a def promises -/
/-- a def's promise: the bound arguments in the parameters' order, the heap, the wanted end, the wanted exception -/
abbrev Sp := List V → Hp → VK → XK → Prop
/-- how an exception lies behind a call (file 08 gives it): the callers' frames, abstract heap and state ahead of the call, the wish, the exception, the state -/
abbrev CXT := List Env → Hp → Shared → XK → Value → Shared → Prop
/-- the state at a call -/
structure Env0 (P : Program) (w : World) (K : PySem.W.Frag) (mg : Str → Option Value) (base : Heap) (A : Around) (outer : List Env) (s : Shared) (H : Hp) : Prop where
  frames : A.frames = some outer
  mod : Mod K mg base
  bs : ∀ b o, base.get? b = some o → s.heap.get? b = some o ∧ H b = none
  bsz : base.objs.size ≤ s.heap.objs.size
  funs : s.heap.FunFrames base outer
  frf : ∀ b ∈ frs outer, H b = none
  hok : HOk P w H s.heap
  bare : AllBare s.gens
/-- a call's end -/
def CE (outer : List Env) (P : Program) (w : World) (H : Hp) (s : Shared) (Q : VK) (u : Value) (s' : Shared) : Prop :=
  ∃ v H', s'.os = s.os ∧ AllBare s'.gens ∧ Un (frs outer) [] H H' s.heap s'.heap ∧ HOk P w H' s'.heap ∧ RelV v u ∧ Q v H'
def CR (CX : CXT) (outer : List Env) (P : Program) (w : World) (H : Hp) (s : Shared) (Q : VK) (E : XK) (r : Result) (s' : Shared) : Prop :=
  match r with
  | .ok (.ret u) => CE outer P w H s Q u s'
  | .ok _ => False
  | .error e => CX outer H s E e s'
structure FnOk (P : Program) (w : World) (K : PySem.W.Frag) (mg : Str → Option Value) (base : Heap) (CX : CXT) (k : Nat) (f : Addr) (fd : FuncData) (ps : List Str) (sp : Sp) : Prop where
  len : ∀ vs H Q E, sp vs H Q E → vs.length = ps.length
  run : ∀ (A : Around) (outer : List Env) (s : Shared) (H : Hp) (args : Args) (us : List Value) (vs : List V) (Q : VK) (E : XK), Room k A → Env0 P w K mg base A outer s H → BindsTo s fd args (ps.zip us) → Vals vs us → sp vs H Q E →
    codeAny (model P w) A (.call (.ref f) args) (CR CX outer P w H s Q E) s
theorem FnOk.mono {P : Program} {w : World} {K : PySem.W.Frag} {mg : Str → Option Value} {base : Heap} {CX : CXT} {j k : Nat} {f : Addr} {fd : FuncData} {ps : List Str} {sp : Sp} (F : FnOk P w K mg base CX j f fd ps sp) (h : j ≤ k) :
    FnOk P w K mg base CX k f fd ps sp := ⟨F.len, fun A outer s H args us vs Q E hr => F.run A outer s H args us vs Q E (hr.mono h)⟩
theorem Env0.make {P : Program} {w : World} {K : PySem.W.Frag} {mg : Str → Option Value} {base : Heap} {A : Around} {outer : List Env} {s : Shared} {H : Hp} (e : Env0 P w K mg base A outer s H) (C : Addr) (us : List Value) (kw : List (Str × Value)) :
    Env0 P w K mg base (A.under (.builtin "type.__call__" ⟨.ref C :: us, kw⟩)) outer s H := ⟨by first | exact e.frames | (simpa [Around.under, Code.envs, Code.isFrame, pushEnvs] using e.frames), e.mod, e.bs, e.bsz, e.funs, e.frf, e.hok, e.bare⟩
theorem Env0.in1 {P : Program} {w : World} {K : PySem.W.Frag} {mg : Str → Option Value} {base : Heap} {A : Around} {outer : List Env} {s : Shared} {H : Hp} (e : Env0 P w K mg base A outer s H) :
    Env0 P w K mg base A.in1 outer s H := ⟨e.frames, e.mod, e.bs, e.bsz, e.funs, e.frf, e.hok, e.bare⟩
section
variable {X : Cx} {pins : List (Addr × Obj)} {σ : St} {H : Hp} {s s' : Shared}
/-- from a body: what a callee wants -/
theorem Inv.env0 (I : Inv X pins σ H s) : Env0 X.prog X.w X.K X.mg X.base X.A X.stack s H :=
  ⟨I.ok.frames, I.ok.mod, I.bs, Nat.le_trans I.ok.bsz I.sz, I.stack, I.stkFree, I.hok, I.bare⟩
/-- behind a call -/
theorem Inv.after {Q : VK} {u : Value} (I : Inv X pins σ H s) (h : CE X.stack X.prog X.w H s Q u s') : EP X pins σ Q u s' := by
  obtain ⟨v, H', os, bare, un, hok, r, q⟩ := h
  obtain ⟨hh, g, d, t, os'⟩ := s'
  obtain rfl : os' = s.os := os
  exact ⟨v, H', I.call (h' := hh) (g' := g) (d' := d) (t' := t) (ch := []) un hok bare (fun b z => absurd z (by simp)), r, q⟩
end
/-! ### calls -/
/-- f(..): the written arguments, then the defaults dvs; E: what is wanted of an exception -/
def tCall (sp : Sp) (dvs : List V) (E : XK) (t : TA) : TE := fun σ H Q => t σ H fun vs H1 => sp (vs ++ dvs) H1 Q E
/-- C(..): a new instance and its dict, then __init__ -/
def tMake (C : Addr) (sp : Sp) (dvs : List V) (E : XK) (t : TA) : TE := fun σ H Q => t σ H fun vs H1 => ∀ x dx, H1 x = none → H1 dx = none → dx ≠ x →
  sp (.ref x :: (vs ++ dvs)) (upd (upd H1 dx (.own x)) x (.ins C dx [])) (fun v H2 => v = .non ∧ Q (.ref x) H2) E
/-- how the parameters are bound: us the positional arguments, kw the keywords' values by name, ds the defaults that fill up -/
def Binds (K : PySem.W.Frag) (fd : FuncData) (ps : List Str) (ds : List Value) : Prop :=
  ∀ (s : Shared) (us : List Value), K.In s.heap → (us ++ ds).length = ps.length → BindsTo s fd ⟨us, []⟩ (ps.zip (us ++ ds))
/-- every parameter is given -/
theorem Binds.all {K : PySem.W.Frag} {fd : FuncData} {ps : List Str} (h : ∀ us : List Value, us.length = ps.length → bindArgs fd ⟨us, []⟩ = pure (ps.zip us)) : Binds K fd ps [] := fun s us _ hl => by
  rw [List.append_nil] at hl ⊢
  exact .of_eq (h us hl)
/-- an exception of a callee reaches what this body wants of exceptions -/
def Passes (CX : CXT) (X : Cx) (E : XK) : Prop := ∀ (pins : List (Addr × Obj)) (σ : St) (H : Hp) (s : Shared) (e : Value) (s' : Shared), Inv X pins σ H s → CX X.stack H s E e s' → X.xe e s'
section
variable {X : Cx} {CX : CXT} {k : Nat} {f C : Addr} {fd : FuncData} {ps : List Str} {sp : Sp} {dvs : List V} {ds : List Value} {E : XK} {x m : Str} {p pos apos : Pos} {e o : Expr} {es : List Expr} {ta : TE} {t : TA}
/-- the callee runs -/
theorem run_fn {pins : List (Addr × Obj)} {σ : St} {H : Hp} {s : Shared} {Q : VK} {us : List Value} {vs : List V} (F : FnOk X.prog X.w X.K X.mg X.base CX k f fd ps sp) (hr : Room k X.A) (hb : Binds X.K fd ps ds) (hd : Vals dvs ds) (hx : Passes CX X E)
    (I : Inv X pins σ H s) (r : Vals vs us) (h : sp (vs ++ dvs) H Q E) : wpAny (model X.prog X.w) X.A (call (.ref f) us) (EP X pins σ Q) X.xe s := by
  have r2 : Vals (vs ++ dvs) (us ++ ds) := r.append hd
  have hl : (us ++ ds).length = ps.length := by rw [← r2.length]; exact F.len _ _ _ _ h
  refine wpAny_call (codeAny_mono (F.run X.A X.stack s H ⟨us, []⟩ (us ++ ds) (vs ++ dvs) Q E hr I.env0 (hb s us I.kIn hl) r2 h) fun r s' hq => ?_)
  cases r with
  | error e => exact hx pins σ H s e s' I hq
  | ok fl =>
    cases fl with
    | ret u => exact I.after hq
    | next => exact False.elim hq
    | brk => exact False.elim hq
    | cont => exact False.elim hq
theorem pe_call (F : FnOk X.prog X.w X.K X.mg X.base CX k f fd ps sp) (hr : Room k X.A) (hg : Gl X x) (hm : X.mg x = some (.ref f)) (hk : PySem.W.keepIn X.K (.ref f) = true) (hb : Binds X.K fd ps ds) (hd : Vals dvs ds) (hx : Passes CX X E)
    (ha : PA X (e :: es) t) (hdb : (x == ("__debug__" : Str)) = false := by decide) (he : starEach (e :: es) X.env = (false, eval e X.env) :: starEach es X.env := by rfl) (hpl : (backTo pos (starEach es X.env)).any (·.1) = false := by rfl) :
    PE X (.Call (.Name x p) (e :: es) [] pos) (tCall sp dvs E t) := by
  intro pins s σ H Q I h
  refine wpAny_Call_Name_kw (ld_glob I hg hm ?_ hdb)
  refine PySem.W.callWith_K (h₀ := X.base) I.ok.mod.kin hk (thn (ha pos pins s σ H _ I h) fun us s1 ⟨vs, H1, I1, r, q⟩ => ⟨I1.kIn, ?_⟩) he hpl
  exact run_fn F hr hb hd hx I1 r q
/-- what a class must have to be made -/
structure Mk (K : PySem.W.Frag) (C f : Addr) : Prop where
  makes : PySem.W.makesIn K C = true
  init : PySem.W.findIn K (.ref C) "__init__" = some (some (.ref f))
  fn : PySem.W.isFn K (.ref f) = true
  kp : PySem.W.keepIn K (.ref C) = true
theorem run_make {pins : List (Addr × Obj)} {σ : St} {H : Hp} {s : Shared} {Q : VK} {us : List Value} {vs : List V} (M : Mk X.K C f) (F : FnOk X.prog X.w X.K X.mg X.base CX k f fd ps sp) (hr : Room (k + 1) X.A) (hb : Binds X.K fd ps ds) (hd : Vals dvs ds)
    (hx : Passes CX X E) (I : Inv X pins σ H s) (r : Vals vs us)
    (h : ∀ x dx, H x = none → H dx = none → dx ≠ x → sp (.ref x :: (vs ++ dvs)) (upd (upd H dx (.own x)) x (.ins C dx [])) (fun v H2 => v = .non ∧ Q (.ref x) H2) E) :
    wpAny (model X.prog X.w) X.A (call (.ref C) us) (EP X pins σ Q) X.xe s := by
  have hq := h (s.heap.objs.size + 1) s.heap.objs.size (I.hok.fresh (Nat.le_succ _)) (I.hok.fresh (Nat.le_refl _)) (Nat.ne_of_lt (Nat.lt_succ_self _))
  have I2 := Inv.made (C := C) I
  have r2 : Vals (V.ref (s.heap.objs.size + 1) :: (vs ++ dvs)) (Value.ref (s.heap.objs.size + 1) :: (us ++ ds)) := .cons rfl (r.append hd)
  have hl : (Value.ref (s.heap.objs.size + 1) :: us ++ ds).length = ps.length := by
    have e := r2.length
    rw [F.len _ _ _ _ hq] at e
    exact e.symm
  refine wpAny_call (make_map (f := f) I.kIn M.makes M.init (beq_iff_eq.mp M.fn) (codeAny_mono (F.run _ X.stack _ _ ⟨Value.ref (s.heap.objs.size + 1) :: us, []⟩ (Value.ref (s.heap.objs.size + 1) :: (us ++ ds)) _ _ E (hr.make C us [])
    (I2.env0.make C us []) (hb _ (Value.ref (s.heap.objs.size + 1) :: us) I2.kIn hl) r2 hq) fun r s' hq' => ?_))
  cases r with
  | error e => exact hx pins σ _ _ e s' I2 hq'
  | ok fl =>
    cases fl with
    | ret u =>
      obtain ⟨v, H', I3, rv, ev, q3⟩ := I2.after hq'
      subst ev
      exact ⟨rv, ⟨V.ref (s.heap.objs.size + 1), H', I3, rfl, q3⟩⟩
    | next => exact False.elim hq'
    | brk => exact False.elim hq'
    | cont => exact False.elim hq'
theorem pe_make (M : Mk X.K C f) (F : FnOk X.prog X.w X.K X.mg X.base CX k f fd ps sp) (hr : Room (k + 1) X.A) (hg : Gl X x) (hm : X.mg x = some (.ref C)) (hb : Binds X.K fd ps ds) (hd : Vals dvs ds) (hx : Passes CX X E)
    (ha : PA X (e :: es) t) (hdb : (x == ("__debug__" : Str)) = false := by decide) (he : starEach (e :: es) X.env = (false, eval e X.env) :: starEach es X.env := by rfl) (hpl : (backTo pos (starEach es X.env)).any (·.1) = false := by rfl) :
    PE X (.Call (.Name x p) (e :: es) [] pos) (tMake C sp dvs E t) := by
  intro pins s σ H Q I h
  refine wpAny_Call_Name_kw (ld_glob I hg hm ?_ hdb)
  refine PySem.W.callWith_K (h₀ := X.base) I.ok.mod.kin M.kp (thn (ha pos pins s σ H _ I h) fun us s1 ⟨vs, H1, I1, r, q⟩ => ⟨I1.kIn, ?_⟩) he hpl
  exact run_make M F hr hb hd hx I1 r q
end
/-! ### keywords -/
section
variable {X : Cx} {CX : CXT} {k : Nat} {f C : Addr} {fd : FuncData} {ps ks : List Str} {sp : Sp} {E : XK} {x m : Str} {p pos apos kpos : Pos} {e o : Expr} {es : List Expr} {kws : List Keyword} {te ta : TE} {t tk : TA} {nm : Option Str}
/-- how a call with keywords binds: g puts the positional values us and the keywords' values ws (names ks) in the parameters' order, defaults among them -/
structure KBinds (K : PySem.W.Frag) (fd : FuncData) (ps ks : List Str) (g : List Value → List Value → List Value) (gV : List V → List V → List V) : Prop where
  to : ∀ (s : Shared) (us ws : List Value), K.In s.heap → (g us ws).length = ps.length → BindsTo s fd ⟨us, ks.zip ws⟩ (ps.zip (g us ws))
  rel : ∀ {vs : List V} {us : List Value} {zs : List V} {ws : List Value}, Vals vs us → Vals zs ws → Vals (gV vs zs) (g us ws)
variable {g : List Value → List Value → List Value} {gV : List V → List V → List V}
end
/-! ### a def's body keeps its promise -/
/-- names: the parameters first -/
structure FnScope (N P : List Str) (sc : Scope) : Prop where
  kind : sc.kind = .function
  co : sc.isCoroutine = false
  gen : sc.isGenerator = false
  nd : N.Nodup
  pre : N.take P.length = P
  par : ∀ x ∈ P, sc.names.lookup x = some .local ∨ sc.names.lookup x = some .cell
  nofree : ∀ y ∈ sc.names, y.2 ≠ .free
theorem bindL_out {kindOf : Str → Option NameKind} {x : Str} : ∀ {binds : List (Str × Value)} {m : Str → Option Value}, (∀ v, (x, v) ∉ binds) → bindL kindOf binds m x = m x
  | [], _, _ => rfl
  | (n, v) :: r, m, h => by
    unfold bindL
    rw [bindL_out fun w hw => h w (List.mem_cons_of_mem _ hw)]
    split
    · have : x ≠ n := by rintro rfl; exact h v List.mem_cons_self
      simp [this]
    · rfl
theorem bindC_out {kindOf : Str → Option NameKind} {x : Str} : ∀ {binds : List (Str × Value)} {m : Str → Option Value}, (∀ v, (x, v) ∉ binds) → bindC kindOf binds m x = m x
  | [], _, _ => rfl
  | (n, v) :: r, m, h => by
    unfold bindC
    rw [bindC_out fun w hw => h w (List.mem_cons_of_mem _ hw)]
    split
    · rfl
    · have : x ≠ n := by rintro rfl; exact h v List.mem_cons_self
      simp [this]
theorem bindL_get {kindOf : Str → Option NameKind} {x : Str} {v : Value} : ∀ {P : List Str} {vs : List Value} {i : Nat} {m : Str → Option Value}, P.Nodup → P[i]? = some x → vs[i]? = some v → kindOf x = some .local →
    bindL kindOf (P.zip vs) m x = some v
  | [], _, _, _, _, h, _, _ => by simp at h
  | _ :: _, [], _, _, _, _, h, _ => by simp at h
  | p :: P, w :: vs, 0, m, nd, h1, h2, hk => by
    simp at h1 h2; subst h1; subst h2
    show bindL kindOf ((p, w) :: P.zip vs) m p = _
    unfold bindL
    rw [bindL_out fun v hv => (List.nodup_cons.mp nd).1 (List.of_mem_zip hv).1, if_pos hk]
    simp
  | p :: P, w :: vs, i + 1, m, nd, h1, h2, hk => by
    show bindL kindOf ((p, w) :: P.zip vs) m x = _
    unfold bindL
    exact bindL_get (i := i) (List.nodup_cons.mp nd).2 (by simpa using h1) (by simpa using h2) hk
theorem bindC_get {kindOf : Str → Option NameKind} {x : Str} {v : Value} : ∀ {P : List Str} {vs : List Value} {i : Nat} {m : Str → Option Value}, P.Nodup → P[i]? = some x → vs[i]? = some v → kindOf x ≠ some .local →
    bindC kindOf (P.zip vs) m x = some v
  | [], _, _, _, _, h, _, _ => by simp at h
  | _ :: _, [], _, _, _, _, h, _ => by simp at h
  | p :: P, w :: vs, 0, m, nd, h1, h2, hk => by
    simp at h1 h2; subst h1; subst h2
    show bindC kindOf ((p, w) :: P.zip vs) m p = _
    unfold bindC
    rw [bindC_out fun v hv => (List.nodup_cons.mp nd).1 (List.of_mem_zip hv).1, if_neg hk]
    simp
  | p :: P, w :: vs, i + 1, m, nd, h1, h2, hk => by
    show bindC kindOf ((p, w) :: P.zip vs) m x = _
    unfold bindC
    exact bindC_get (i := i) (List.nodup_cons.mp nd).2 (by simpa using h1) (by simpa using h2) hk
/-- the names' values at the entry -/
def start (N : List Str) (vs : List V) : St := vs.map some ++ List.replicate (N.length - vs.length) none
/-- the context of a def's body, at its entry; an exception leaves the frame, then lies as CX says -/
def cxOf (CX : CXT) (P : Program) (w : World) (K : PySem.W.Frag) (mg : Str → Option Value) (base : Heap) (N : List Str) (qual : Str) (scope : Scope) (f : Addr) (cd : Value) (A : Around) (outer : List Env) (s : Shared) (H : Hp) (E : XK) : Cx where
  prog := P
  w := w
  K := K
  mg := mg
  base := base
  A := A.deeper (envOfC qual scope s.heap.objs.size f cd)
  N := N
  s₀ := s
  H₀ := H
  env := envOfC qual scope s.heap.objs.size f cd
  outer := outer
  stack := envOfC qual scope s.heap.objs.size f cd :: outer
  ex := []
  calm := true
  fn := fun _ => true
  pn := []
  xe := fun e s' => wpAny (model P w) (A.deeper (envOfC qual scope s.heap.objs.size f cd)) (leaving (envOfC qual scope s.heap.objs.size f cd) e) (fun _ s'' => CX outer H s E e s'') (fun e' s'' => CX outer H s E e' s'') s'
theorem cell_has {sc : Scope} {n : Nat} {x : Str} (h : sc.names.lookup x = some .cell) : ∃ c, (cellsFrom n sc.names []).lookup x = some c := by
  have q := PySem.W.cellsFrom_some sc.names n [] (.inl h)
  exact Option.isSome_iff_exists.mp q
theorem inv_start {CX : CXT} {P : Program} {w : World} {K : PySem.W.Frag} {mg : Str → Option Value} {base : Heap} {N ps : List Str} {qual : Str} {scope : Scope} {f : Addr} {cd : Value} {A : Around} {outer : List Env} {s s1 : Shared} {H : Hp} {E : XK} {us : List Value} {vs : List V}
    (S : FnScope N ps scope) (hd : A.handled = none) (e0 : Env0 P w K mg base A outer s H) (hl : vs.length = ps.length) (r : Vals vs us)
    (x : InCallC s s.heap.objs.size (bindL (envOfC qual scope s.heap.objs.size f cd).kindOf (ps.zip us) fun _ => none) (cellsFrom (s.heap.objs.size + 1) scope.names []) (bindC (envOfC qual scope s.heap.objs.size f cd).kindOf (ps.zip us) fun _ => none) s1) :
    Inv (cxOf CX P w K mg base N qual scope f cd A outer s H E) [] (start N vs) H s1 := by
  have hpl : ps.length ≤ N.length := by have := congrArg List.length S.pre; rw [List.length_take] at this; omega
  obtain ⟨h1, tk, rfl, hk⟩ := x.done
  have noA : ∀ b : Addr, b ∉ (cxOf CX P w K mg base N qual scope f cd A outer s H E).ex := fun b z => absurd (show b ∈ ([] : List Addr) from z) (by simp)
  refine ⟨⟨e0.mod, S.kind, rfl, rfl, Nat.le_refl _, fun y z c h1 h2 => ?_, fun y hy => ?_, fun y c _ h => ?_, fun _ => hd, Around.frames_deeper e0.frames, .inr ⟨rfl, rfl⟩, fun b z => absurd z (noA b), e0.bs, e0.bsz, fun b _ _ => noA b, fun b z => absurd z (noA b), e0.funs, e0.frf⟩,
    rfl, e0.bare, Un.kept hk, ⟨_, x.toInCall.ns, fun i y v h1 h2 h3 => ?_⟩, fun y c h => ⟨_, x.cell y c h⟩, e0.hok.fresh (Nat.le_refl _), fun y c h => ?_, fun p hp => absurd (show p ∈ ([] : List (Addr × Obj)) from hp) (by simp), e0.hok.kept hk, ?_⟩
  · exact name_of_addr x.apart (PySem.mem_of_lookup h1) (PySem.mem_of_lookup h2)
  · have hy : scope.names.lookup y = some .cell ∨ scope.names.lookup y = some .free := hy
    rcases hy with hy | hy
    · exact cell_has hy
    · exact absurd rfl (S.nofree _ (PySem.mem_of_lookup hy))
  · exact Nat.le_of_lt (x.above y c (PySem.mem_of_lookup h))
  · have hi : i < vs.length := by
      unfold start at h2
      by_cases hi : i < vs.length
      · exact hi
      · rw [List.getElem?_append_right (by simpa using hi)] at h2
        rw [List.getElem?_replicate] at h2
        split at h2 <;> cases h2
    have ha : vs[i]? = some v := by
      unfold start at h2
      rw [List.getElem?_append_left (by simpa using hi), List.getElem?_map] at h2
      cases e : vs[i]? with
      | none => rw [e] at h2; cases h2
      | some a => rw [e] at h2; cases h2; rfl
    obtain ⟨u, hu, rv⟩ := r.get ha
    have hp : ps[i]? = some y := by
      rw [← S.pre, List.getElem?_take_of_lt (by omega)]; exact h1
    have ndP : ps.Nodup := by rw [← S.pre]; exact S.nd.sublist (List.take_sublist _ _)
    refine ⟨u, rv, ?_⟩
    rcases S.par y (List.mem_of_getElem? hp) with k | k
    · exact .inl ⟨k, bindL_get ndP hp hu k⟩
    · obtain ⟨c, e⟩ := cell_has (n := s.heap.objs.size + 1) k
      refine .inr ⟨.inl k, c, e, ?_⟩
      have q := x.cell y c e
      rw [bindC_get ndP hp hu (by show scope.names.lookup y ≠ _; rw [k]; decide)] at q
      exact q
  · exact e0.hok.fresh (Nat.le_of_lt (x.above y c (PySem.mem_of_lookup h)))
  · unfold start
    show _ = N.length
    rw [List.length_append, List.length_map, List.length_replicate]
    omega
/-- THE RULE: a def (or a method) of the text, by its body. The body's reading t is chosen for each entry; it is run at the parameters' values -/
theorem fn_of {CX : CXT} {P : Program} {w : World} {K : PySem.W.Frag} {mg : Str → Option Value} {base : Heap} {k : Nat} {f : Addr} {name qual : Str} {params : Arguments} {body : List Stmt} {scope : Scope} {dV kV doc pm cdv ct oc : Value} {an od : Option Addr}
    {osl : Array (Option Value)} {N ps : List Str} {sp : Sp} (lk : K.lookup f = some ⟨oc, od, .func (PySem.W.fnOf name qual params body scope dV kV doc pm an cdv ct), osl⟩) (hcd : PySem.W.codeIn K cdv qual = true) (S : FnScope N ps scope)
    (len : ∀ vs H Q E, sp vs H Q E → vs.length = ps.length)
    (hbody : ∀ (A : Around) (outer : List Env) (s : Shared) (H : Hp) (vs : List V) (Q : VK) (E : XK), Room k (A.deeper (envOfC qual scope s.heap.objs.size f cdv)) → sp vs H Q E →
      ∃ t, PSs (cxOf CX P w K mg base N qual scope f cdv A outer s H E) body t ∧ t { nx := fun _ H' => Q .non H', rt := Q } (start N vs) H) :
    FnOk P w K mg base CX (k + 1) f (PySem.W.fnOf name qual params body scope dV kV doc pm an cdv ct) ps sp := by
  refine ⟨len, fun A outer s H args us vs Q E hr e0 hb r hsp => ?_⟩
  have hl := len _ _ _ _ hsp
  have KX : K.In s.heap := e0.mod.kin.keeps fun b o e => (e0.bs b o e).1
  have lim : s.heap.NoLimit := e0.mod.nolimit.keeps fun b o e => (e0.bs b o e).1
  have hkind : ∀ y ∈ ps.zip us, scope.names.lookup y.1 = some .local ∨ (scope.names.lookup y.1 = some .cell ∧ ((cellsFrom (s.heap.objs.size + 1) scope.names []).lookup y.1).isSome = true) := fun ⟨n, v⟩ hy => by
    rcases S.par n (List.of_mem_zip hy).1 with q | q
    · exact .inl q
    · exact .inr ⟨q, PySem.W.cellsFrom_some _ _ _ (.inl q)⟩
  refine codeAny_call_function hr.depth (KX _ _ lk) rfl S.co S.gen rfl (PySem.W.codeRec_of KX hcd) (hb _ _ _ _ ?_)
  refine wpAny_newFunctionEnv_cells S.kind hkind fun env he s1 x => ?_
  subst he
  refine ⟨lim.keeps x.toInCall.keep, codeAny_func ?_⟩
  obtain ⟨t, ht, hq⟩ := hbody A outer s H vs Q E (hr.deeper _) hsp
  have I : Inv (cxOf CX P w K mg base N qual scope f cdv A outer s H E) [] (start N vs) H s1 := inv_start S hr.hd e0 hl r x
  refine wpAny_mono (ht [] s1 (start N vs) H _ I hq) (fun fl s' hs => ?_) fun e s' hs => hs
  have fin : ∀ {σ' : St} {H' : Hp} {v : V} {u : Value}, Inv (cxOf CX P w K mg base N qual scope f cdv A outer s H E) [] σ' H' s' → RelV v u → Q v H' → CE outer P w H s Q u s' :=
    fun {σ' H' v u} J rv q => ⟨v, H', J.os, J.bare, J.base, J.hok, rv, q⟩
  cases fl with
  | ret u =>
    obtain ⟨v, σ', H', J, rv, q⟩ := hs
    exact fin J rv q
  | next =>
    obtain ⟨σ', H', J, q⟩ := hs
    exact fin (v := V.non) (u := Value.none) J rfl q
  | brk =>
    obtain ⟨_, _, _, q⟩ := hs
    exact False.elim q
  | cont =>
    obtain ⟨_, _, _, q⟩ := hs
    exact False.elim q
end L2
namespace L2
open PySem PySem.Spec PyProof.Rows
section
variable {X : Cx} {x : Str} {p pos : Pos} {e : Expr} {es : List Expr} {t : TA} {id T : String} {r : List V → Hp → VK → Prop}
def tCB (r : List V → Hp → VK → Prop) (t : TA) : TE := fun σ H Q => t σ H fun vs H1 => r vs H1 Q
/-- f(e, ..), f a built-in function -/
theorem pe_callB (hc : CallR X (.builtin id) r) (hg : Gl X x) (hm : X.mg x = none) (hv : bootBuiltins x = some (.builtin id)) (ha : PA X (e :: es) t) (hn : x ≠ "__name__" := by decide) (hdb : (x == ("__debug__" : Str)) = false := by decide)
    (he : starEach (e :: es) X.env = (false, eval e X.env) :: starEach es X.env := by rfl) (hpl : (backTo pos (starEach es X.env)).any (·.1) = false := by rfl) : PE X (.Call (.Name x p) (e :: es) [] pos) (tCB r t) := by
  intro pins s σ H Q I h
  refine wpAny_Call_Name_kw (ld_blt I hg hm hv ?_ hn hdb)
  exact PyProof.Rows.callWith_builtin1 (thn (ha pos pins s σ H _ I h) fun us s1 ⟨vs, H1, I1, r1, q1⟩ => hc pins s1 σ H1 vs us Q I1 r1 q1) he hpl
/-- T(e, ..), T a built-in type -/
theorem pe_callTy (hc : CallR X (.type T) r) (hg : Gl X x) (hm : X.mg x = none) (hv : bootBuiltins x = some (.type T)) (ha : PA X (e :: es) t) (hn : x ≠ "__name__" := by decide) (hdb : (x == ("__debug__" : Str)) = false := by decide)
    (he : starEach (e :: es) X.env = (false, eval e X.env) :: starEach es X.env := by rfl) (hpl : (backTo pos (starEach es X.env)).any (·.1) = false := by rfl) : PE X (.Call (.Name x p) (e :: es) [] pos) (tCB r t) := by
  intro pins s σ H Q I h
  refine wpAny_Call_Name_kw (ld_blt I hg hm hv ?_ hn hdb)
  exact PyProof.Rows.callWith_type1 (thn (ha pos pins s σ H _ I h) fun us s1 ⟨vs, H1, I1, r1, q1⟩ => hc pins s1 σ H1 vs us Q I1 r1 q1) he hpl
end
end L2
namespace HT
open PySem PyProof.Rows
section
open PySem.SeqAt
open PySem.AutoSeq1 (wpAny_loadPart')
open PySem.MeetsSeq PySem.MeetsSeq2 PySem.MeetsSeq3
end
section
variable {prog : Program} {w : World} {A : Around} {E : Value → Shared → Prop} {s : Shared}
/-! ### t[a:b], not the whole -/
/-- a slice's bound as a place among n (d where it is left out) -/
def sIx (n d : Nat) : Option Int → Nat
  | none => d
  | some v => if v < 0 then (v + (n : Int)).toNat else min v.toNat n
end
end HT
namespace L2
open PySem PySem.Spec PyProof.Rows
/-! ### the parts of a slice -/
abbrev TO := St → Hp → (Option Int → Hp → Prop) → Prop
/-- a slice's part (left out, or an int) -/
def PO (X : Cx) (e : Option Expr) (t : TO) : Prop :=
  ∀ (pins : List (Addr × Obj)) (s : Shared) (σ : St) (H : Hp) (Q : Option Int → Hp → Prop), Inv X pins σ H s → t σ H Q →
    wpAny (model X.prog X.w) X.A (evalPart e X.env) (fun u s' => ∃ o H', Inv X pins σ H' s' ∧ IsPart u o ∧ Q o H') X.xe s
def tNoPart : TO := fun _ H Q => Q none H
def tPart (t : TE) : TO := fun σ H Q => t σ H fun x H1 => ∃ i, x = .int i ∧ Q (some i) H1
theorem intsAre_of {ns : List Int} : ∀ {us : List Value}, Vals (ns.map V.int) us → IntsAre us ns := by
  induction ns with
  | nil => intro us r; rw [List.map_nil] at r; cases r; exact .nil
  | cons n ns ih =>
    intro us r
    rw [List.map_cons] at r
    cases r with
    | cons r1 r2 =>
      obtain ⟨t, e⟩ := r1
      subst e
      exact .cons n t (ih r2)
section
variable {X : Cx} {e : Expr} {te : TE} {lo hi : Option Expr} {tl th : TO} {pos p2 : Pos}
theorem po_none : PO X none tNoPart := by
  intro pins s σ H Q I h
  rw [evalPart_none]
  exact wpAny_pure ⟨none, H, I, .none, h⟩
theorem po_some (h : PE X e te) : PO X (some e) (tPart te) := by
  intro pins s σ H Q I hw
  rw [evalPart_some]
  refine thn (h pins s σ H _ I hw) fun u s1 ⟨x, H1, I1, r1, q1⟩ => ?_
  obtain ⟨i, rfl, q⟩ := q1
  obtain ⟨t, rfl⟩ := r1
  exact ⟨some i, H1, I1, .int i t, q⟩
/-- what a slice of a value is, by values: the slice object stands at sl -/
def SlR (X : Cx) (r : V → Option Int → Option Int → Hp → VK → Prop) : Prop :=
  ∀ (pins : List (Addr × Obj)) (s : Shared) (σ : St) (H : Hp) (x : V) (v vl vu : Value) (lo hi : Option Int) (sl : Addr) (Q : VK), Inv X pins σ H s → RelV x v → s.heap.IsSliceOf sl vl vu .none → IsPart vl lo → IsPart vu hi → r x lo hi H Q →
    ∃ T id, typeLookup (.type T) "__getitem__" = pure (some (.builtin id)) ∧ s.TypeIs v T ∧ wpAny (model X.prog X.w) X.A (getItem v (.ref sl)) (EP X pins σ Q) X.xe s
theorem SlR.or {r r' : V → Option Int → Option Int → Hp → VK → Prop} (h : SlR X r) (h' : SlR X r') : SlR X (fun x lo hi H Q => r x lo hi H Q ∨ r' x lo hi H Q) := by
  intro pins s σ H x v vl vu lo hi sl Q I rx hs pl pu q
  rcases q with q | q
  · exact h pins s σ H x v vl vu lo hi sl Q I rx hs pl pu q
  · exact h' pins s σ H x v vl vu lo hi sl Q I rx hs pl pu q
def tSl (r : V → Option Int → Option Int → Hp → VK → Prop) (te : TE) (tl th : TO) : TE := fun σ H Q => te σ H fun x H1 => tl σ H1 fun l H2 => th σ H2 fun u H3 => r x l u H3 Q
/-- a[lo:hi], any a -/
theorem pe_slice {r : V → Option Int → Option Int → Hp → VK → Prop} (hr : SlR X r) (he : PE X e te) (hl : PO X lo tl) (hu : PO X hi th) : PE X (.Subscript e (.Slice lo hi none p2) pos) (tSl r te tl th) := by
  intro pins s σ H Q I h
  refine Subscript_ (thn (he pins s σ H _ I h) fun v s1 ⟨x, H1, I1, r1, q1⟩ => ?_)
  refine wpAny_Slice (thn (hl pins s1 σ H1 _ I1 q1) fun vl s2 ⟨l, H2, I2, pl, q2⟩ => thn (hu pins s2 σ H2 _ I2 q2) fun vu s3 ⟨u, H3, I3, pu, q3⟩ => ?_)
  rw [evalPart_none]
  refine wpAny_pure ?_
  have I4 : Inv X pins σ H3 { s3 with heap := s3.heap.push { cls := .type "slice", data := .fields #[vl, vu, .none] } } := I3.kept (t' := s3.toks) fun b ob q => Heap.get?_push_of_some _ q
  obtain ⟨T, id, hT, ht, hg⟩ := hr pins { s3 with heap := s3.heap.push { cls := .type "slice", data := .fields #[vl, vu, .none] } } σ H3 x v vl vu l u s3.heap.objs.size Q I4 r1 (Heap.IsSliceOf.new ..) pl pu q3
  show wpAny (model X.prog X.w) X.A (subscriptTail e (.Slice lo hi none p2) v (.ref s3.heap.objs.size)) (EP X pins σ Q) X.xe { s3 with heap := s3.heap.push { cls := .type "slice", data := .fields #[vl, vu, .none] } }
  exact tail_any (ops := [.ref s3.heap.objs.size, v]) ht hT hg (by with_unfolding_all rfl)
/-- the items of xs[lo:hi] -/
def cutV (xs : List V) (lo hi : Option Int) : List V := (xs.drop (HT.sIx xs.length 0 lo)).take (HT.sIx xs.length xs.length hi - HT.sIx xs.length 0 lo)
theorem cutV_length (xs : List V) (lo hi : Option Int) : (cutV xs lo hi).length ≤ xs.length := by
  unfold cutV
  rw [List.length_take, List.length_drop]
  omega
/-! ### t < u, t + u -/
end
end L2
namespace L2
open PySem PySem.Spec PyProof.Rows
/-! ### places -/
/-- the place that an index of any sign means -/
def ixN (n : Nat) (i : Int) : Option Nat := if 0 ≤ i then (if i < n then some i.toNat else none) else if -(n : Int) ≤ i then some (i + n).toNat else none
def atI {α : Type} (xs : List α) (i : Int) : Option α := (ixN xs.length i).bind fun j => xs[j]?
theorem ixN_seq {n : Nat} {i : Int} {j : Nat} (h : ixN n i = some j) : seqIndex? i n = some j ∧ j < n ∧ -(n : Int) ≤ i ∧ i < n := by
  unfold ixN at h
  by_cases h0 : 0 ≤ i
  · rw [if_pos h0] at h
    by_cases h1 : i < n
    · rw [if_pos h1] at h
      have e : i.toNat = j := Option.some.inj h
      exact ⟨by rw [seqIndex_of h0 h1, e], by omega, by omega, h1⟩
    · rw [if_neg h1] at h; cases h
  · rw [if_neg h0] at h
    by_cases h1 : -(n : Int) ≤ i
    · rw [if_pos h1] at h
      have e : (i + n).toNat = j := Option.some.inj h
      exact ⟨by rw [seqIndex_neg (by omega) h1, e], by omega, h1, by omega⟩
    · rw [if_neg h1] at h; cases h
theorem atI_get {α : Type} {xs : List α} {i : Int} {v : α} (h : atI xs i = some v) : ∃ j, seqIndex? i xs.length = some j ∧ xs[j]? = some v ∧ j < xs.length ∧ -(xs.length : Int) ≤ i ∧ i < xs.length := by
  unfold atI at h
  cases e : ixN xs.length i with
  | none => rw [e] at h; cases h
  | some j =>
    rw [e] at h
    obtain ⟨h1, h2, h3, h4⟩ := ixN_seq e
    exact ⟨j, h1, h, h2, h3, h4⟩
theorem atI_nat {α : Type} {xs : List α} {j : Nat} {v : α} (h : xs[j]? = some v) : atI xs (j : Int) = some v := by
  have hj : j < xs.length := (List.getElem?_eq_some_iff.mp h).1
  have e : ixN xs.length (j : Int) = some j := by
    unfold ixN
    rw [if_pos (by omega), if_pos (by omega)]; simp
  unfold atI; rw [e]; exact h
/-! ### what may be subscripted -/
/-- what stands as an index of a plain subscript -/
def PlainIx (b : Expr) : Prop := ∀ o i, subscripted b false o i = operate [o, i] (getItem o i)
/-- a subscript by values -/
def IxR (X : Cx) (r : R2) : Prop :=
  ∀ (value slice : Expr) (pins : List (Addr × Obj)) (s : Shared) (σ : St) (H : Hp) (x y : V) (v u : Value) (Q : VK), Inv X pins σ H s → RelV x v → RelV y u → r x y H Q →
    subscripted slice false v u = operate [v, u] (getItem v u) → wpAny (model X.prog X.w) X.A (subscriptTail value slice v u) (EP X pins σ Q) X.xe s
/-- a call of a builtin's method by values: the receiver, the arguments -/
def MtR (X : Cx) (id : String) (r : V → List V → Hp → VK → Prop) : Prop :=
  ∀ (pins : List (Addr × Obj)) (s : Shared) (σ : St) (H : Hp) (x : V) (xs : List V) (v : Value) (us : List Value) (Q : VK), Inv X pins σ H s → RelV x v → Vals xs us → r x xs H Q →
    wpAny (model X.prog X.w) X.A (call (.builtin id) (v :: us)) (EP X pins σ Q) X.xe s
section
variable {X : Cx} {a b : Expr} {ta tb : TE} {pos : Pos}
theorem IxR.or {r r' : R2} (h : IxR X r) (h' : IxR X r') : IxR X (fun x y H Q => r x y H Q ∨ r' x y H Q) := by
  intro value slice pins s σ H x y v u Q I rx ry q hs
  rcases q with q | q
  · exact h value slice pins s σ H x y v u Q I rx ry q hs
  · exact h' value slice pins s σ H x y v u Q I rx ry q hs
theorem MtR.or {id : String} {r r' : V → List V → Hp → VK → Prop} (h : MtR X id r) (h' : MtR X id r') : MtR X id (fun x xs H Q => r x xs H Q ∨ r' x xs H Q) := by
  intro pins s σ H x xs v us Q I rx rs q
  rcases q with q | q
  · exact h pins s σ H x xs v us Q I rx rs q
  · exact h' pins s σ H x xs v us Q I rx rs q
/-- a[b] -/
theorem pe_ix {r : R2} (hr : IxR X r) (ha : PE X a ta) (hb : PE X b tb) (hs : PlainIx b) : PE X (.Subscript a b pos) (tOp r ta tb) := by
  intro pins s σ H Q I h
  exact Subscript_ (binT ha hb I h fun v u s2 x y H2 I2 rx ry q => hr a b pins s2 σ H2 x y v u Q I2 rx ry q (hs _ _))
def rIxL (K : PySem.W.Frag) : R2 := fun x y H Q => ∃ p xs i v, x = .ref p ∧ y = .int i ∧ SqL K H p xs ∧ atI xs i = some v ∧ Q v H
def rIxT (K : PySem.W.Frag) : R2 := fun x y H Q => ∃ p xs i v, x = .ref p ∧ y = .int i ∧ SqT K H p xs ∧ atI xs i = some v ∧ Q v H
def rIxS : R2 := fun x y H Q => ∃ z i c, x = .str z ∧ y = .int i ∧ z.length ≤ sizeLine ∧ atI z.cps.toList i = some c ∧ Q (.str ⟨#[c]⟩) H
theorem ix_list : IxR X (rIxL X.K) := by
  intro value slice pins s σ H x y v u Q I rx ry h hs
  obtain ⟨p, xs, i, z, rfl, rfl, hq, he, q⟩ := h
  cases rx
  obtain ⟨t, rfl⟩ := ry
  obtain ⟨its, r, pl, hz⟩ := I.list hq
  obtain ⟨j, h1, h2, h3, h4, h5⟩ := atI_get he
  obtain ⟨w, ew, rw'⟩ := r.get h2
  have hl := r.length
  have hn := line63
  have fin : EP X pins σ Q w s := ⟨z, H, I, rw', q⟩
  by_cases h0 : 0 ≤ i
  · have hj : i.toNat = j := by
      rw [seqIndex_of h0 h5] at h1
      exact Option.some.inj h1
    exact item_listR pl.isList h0 (by omega) (by rw [hj]; simpa using ew) fin hs
  · have hj : (i + (its.toArray.size : Int)).toNat = j := by
      rw [seqIndex_neg (by omega) h4] at h1
      rw [List.size_toArray, ← hl]
      exact Option.some.inj h1
    exact subscriptTail_builtinR (x := w) pl.isList.typeIs slot_list_getitem.lookup
      (wpAny_getItem_list_neg (Q := fun r s' => r = w ∧ EP X pins σ Q r s') pl.isList (by omega) (by rw [List.size_toArray] <;> omega) (by omega) (by rw [hj]; simpa using ew) ⟨rfl, fin⟩) hs
theorem ix_tup : IxR X (rIxT X.K) := by
  intro value slice pins s σ H x y v u Q I rx ry h hs
  obtain ⟨p, xs, i, z, rfl, rfl, hq, he, q⟩ := h
  cases rx
  obtain ⟨t, rfl⟩ := ry
  obtain ⟨its, r, pl, hz⟩ := I.tuple hq
  obtain ⟨j, h1, h2, h3, h4, h5⟩ := atI_get he
  obtain ⟨w, ew, rw'⟩ := r.get h2
  have hl := r.length
  have hn := line63
  have fin : EP X pins σ Q w s := ⟨z, H, I, rw', q⟩
  exact subscriptTail_builtinR (x := w) pl.typeIs slot_tuple_getitem.lookup
    (getItem_tuple (j := j) (Q := fun r s' => r = w ∧ EP X pins σ Q r s') pl (by omega) (by omega) (by rw [List.size_toArray, ← hl]; exact h1) (by simpa using ew) ⟨rfl, fin⟩) hs
theorem ix_str : IxR X rIxS := by
  intro value slice pins s σ H x y v u Q I rx ry h hs
  obtain ⟨z, i, c, rfl, rfl, hz, he, q⟩ := h
  obtain ⟨t, rfl⟩ := rx
  obtain ⟨t', rfl⟩ := ry
  obtain ⟨j, h1, h2, h3, h4, h5⟩ := atI_get he
  have hl : z.cps.toList.length = z.length := by simp [Str.length]
  rw [hl] at h1 h4 h5
  have hn := line63
  exact tail_any (typeIs_str s z t) slot_str_getitem.lookup (getItem_str (c := c) (by
    have e1 : decide (i < -(2 ^ 63 : Int)) = false := decide_eq_false (by omega)
    have e2 : decide (i ≥ 2 ^ 63) = false := decide_eq_false (by omega)
    rw [e1, e2, Bool.or_false]) (by rw [h1]; simpa using h2) ⟨.str ⟨#[c]⟩, H, I.tok _, ⟨_, rfl⟩, q⟩) hs
/-! ### xs[i] = v, any sign -/
/-- the list's object behind a store -/
theorem mapSeq_set (its : List Value) (n j : Nat) (u : Value) : Obj.mapSeq (·.setIfInBounds j u) { cls := .type "list", data := .seq its.toArray n } = { cls := .type "list", data := .seq (its.set j u).toArray n } := by
  simp [Obj.mapSeq]
theorem Inv.lst {pins : List (Addr × Obj)} {σ : St} {H : Hp} {s : Shared} {p : Addr} {xs : List V} (I : Inv X pins σ H s) (h : H p = some (.lst xs)) :
    ∃ (its : List Value) (n : Nat), Vals xs its ∧ s.heap.get? p = some { cls := .type "list", data := .seq its.toArray n } ∧ xs.length ≤ sizeLine := by
  obtain ⟨z, its, n, r, e⟩ := I.hok p _ h
  exact ⟨its, n, r, e, z⟩
/-- the list at p is written by an update of its object -/
theorem Inv.lstUpd {pins : List (Addr × Obj)} {σ : St} {H : Hp} {s : Shared} {p : Addr} {xs ys : List V} {its its' : List Value} {n n' : Nat} {f : Obj → Obj} (I : Inv X pins σ H s) (h : H p = some (.lst xs))
    (ho : s.heap.get? p = some { cls := .type "list", data := .seq its.toArray n }) (hf : f { cls := .type "list", data := .seq its.toArray n } = { cls := .type "list", data := .seq its'.toArray n' }) (r : Vals ys its') (hz : ys.length ≤ sizeLine) (t : Nat) :
    Inv X pins σ (upd H p (.lst ys)) { s with heap := s.heap.update p f, toks := t } := by
  have e : (s.heap.update p f).get? p = some { cls := .type "list", data := .seq its'.toArray n' } := by
    rw [Heap.get?_update_self f ho (by rw [hf] <;> rfl), hf]
  refine I.write (x := p) (e := p) (by rw [h]; trivial) (.inl rfl) (fun b u hb q => (Heap.get?_update_other _ _ (Ne.symm hb)).trans q) ⟨_, e⟩ ?_
  exact ⟨hz, its', n', r, e⟩
def rSetL : V → V → V → Hp → (Hp → Prop) → Prop := fun o i v H Q => ∃ p xs k j, o = .ref p ∧ i = .int k ∧ H p = some (.lst xs) ∧ ixN xs.length k = some j ∧ Q (upd H p (.lst (xs.set j v)))
theorem set_list : PSet X rSetL := by
  intro pins s σ H o i v ov iv u Q I ro ri rv h
  obtain ⟨p, xs, k, j, rfl, rfl, hp, hj, q⟩ := h
  cases ro
  obtain ⟨t, rfl⟩ := ri
  obtain ⟨its, n, r, ho, hz⟩ := I.lst hp
  obtain ⟨h1, h2, h3, h4⟩ := ixN_seq hj
  have hl := r.length
  have hn := line63
  have I' : Inv X pins σ (upd H p (.lst (xs.set j v))) { s with heap := s.heap.update p (Obj.mapSeq (·.setIfInBounds j u)) } :=
    I.lstUpd hp ho (mapSeq_set its n j u) (r.set rv j) (by rw [List.length_set]; exact hz) s.toks
  by_cases h0 : 0 ≤ k
  · have hk : k.toNat = j := by
      rw [seqIndex_of h0 h4] at h1
      exact Option.some.inj h1
    exact PySem.W.ki_setAt ho h0 (by omega) (by rw [List.size_toArray, ← hl]; exact h4) (by rw [hk]; exact ⟨_, I', q⟩)
  · have hk : (k + (its.toArray.size : Int)).toNat = j := by
      rw [seqIndex_neg (by omega) h3] at h1
      rw [List.size_toArray, ← hl]
      exact Option.some.inj h1
    exact PySem.W.ki_setBack ho (by omega) (by rw [List.size_toArray, ← hl]; exact h3) (by omega) (by rw [hk]; exact ⟨_, I', q⟩)
/-! ### slices -/
theorem slice_bounds (lo hi : Option Int) (n : Nat) : (sliceBounds lo hi none n).1 = ((HT.sIx n 0 lo : Nat) : Int) ∧ (sliceBounds lo hi none n).2.1 = ((HT.sIx n n hi : Nat) : Int) ∧ (sliceBounds lo hi none n).2.2 = 1 := by
  refine ⟨?_, ?_, rfl⟩
  · cases lo with
    | none => simp [sliceBounds, HT.sIx]
    | some i =>
      simp only [sliceBounds, HT.sIx, Option.getD_none, show (1 : Int) > 0 by decide, if_true]
      by_cases h : i < 0
      · simp only [h, if_true] <;> omega
      · simp only [h, if_false] <;> omega
  · cases hi with
    | none => simp [sliceBounds, HT.sIx]
    | some i =>
      simp only [sliceBounds, HT.sIx, Option.getD_none, show (1 : Int) > 0 by decide, if_true]
      by_cases h : i < 0
      · simp only [h, if_true] <;> omega
      · simp only [h, if_false] <;> omega
theorem slicePick_cut (its : List Value) (lo hi : Option Int) : slicePick its.toArray lo hi none = ((its.drop (HT.sIx its.length 0 lo)).take (HT.sIx its.length its.length hi - HT.sIx its.length 0 lo)).toArray := by
  obtain ⟨h1, h2, h3⟩ := slice_bounds lo hi its.toArray.size
  unfold slicePick
  rw [h1, h2, h3]
  simp only [sliceRange_one, pick_run, List.size_toArray] <;> rfl
/-- xs[lo:hi] of a list: a new list -/
def rSlL (K : PySem.W.Frag) : V → Option Int → Option Int → Hp → VK → Prop := fun x lo hi H Q => ∃ a xs, x = .ref a ∧ SqL K H a xs ∧ ∀ p, H p = none → Q (.ref p) (upd H p (.lst (cutV xs lo hi)))
theorem sl_list : SlR X (rSlL X.K) := by
  intro pins s σ H x v vl vu lo hi sl Q I rx hs pl pu h
  obtain ⟨a, xs, rfl, hx, q⟩ := h
  cases rx
  obtain ⟨its, r, ht, hz⟩ := I.list hx
  have hlen := r.length
  refine ⟨"list", _, slot_list_getitem.lookup, ht.isList.typeIs, ?_⟩
  refine wpAny_getItem_list_slice ht.isList hs pl pu .none (by simp) ?_ (by rw [List.size_toArray] <;> omega)
  rw [slicePick_cut, ← hlen]
  refine ⟨.ref s.heap.objs.size, _, I.laid (t' := s.toks) (o := .lst (cutV xs lo hi)) (fun b ob q => Heap.get?_push_of_some _ q) (Nat.le_refl _) ?_, rfl, q _ (I.hok.fresh (Nat.le_refl _))⟩
  exact ⟨Nat.le_trans (cutV_length xs lo hi) hz, _, 0, (r.drop (HT.sIx xs.length 0 lo)).take (HT.sIx xs.length xs.length hi - HT.sIx xs.length 0 lo), Heap.get?_push_size _ rfl⟩
/-! ### in, not in: flat items -/
/-! ### len, list(x), tuple(x) of any list or tuple that is read -/
theorem call_len_str : CallR X (.builtin "len") (fun xs H Q => ∃ z, xs = [.str z] ∧ z.length ≤ sizeLine ∧ Q (.int z.length) H) := by
  intro pins s σ H xs us Q I r h
  obtain ⟨z, rfl, hz, q⟩ := h
  obtain ⟨u, rfl, t, rfl⟩ := vals1 r
  have hn := line63
  exact len_str (by omega) ⟨.int z.length, H, I.tok _, ⟨_, rfl⟩, q⟩
theorem CallR.or {f : Value} {r r' : List V → Hp → VK → Prop} (h : CallR X f r) (h' : CallR X f r') : CallR X f (fun xs H Q => r xs H Q ∨ r' xs H Q) := by
  intro pins s σ H xs us Q I rs q
  rcases q with q | q
  · exact h pins s σ H xs us Q I rs q
  · exact h' pins s σ H xs us Q I rs q
/-! ### the call of a builtin's method: o.m(..) -/
/-- the value is of that builtin type -/
def tyV (K : PySem.W.Frag) (T : String) (x : V) (H : Hp) : Prop := match x with
  | .str _ => T = "str"
  | .int _ => T = "int"
  | .ref p => (T = "list" ∧ ∃ xs, SqL K H p xs) ∨ (T = "tuple" ∧ ∃ o, K.lookup p = some o ∧ o.cls = .type "tuple" ∧ o.dict = none) ∨
      (T = "dict" ∧ ((∃ kvs, H p = some (.dK kvs)) ∨ ∃ kvs, H p = some (.dT kvs))) ∨ (T = "set" ∧ ∃ S n, H p = some (.set S n))
  | _ => False
theorem tyV_is {pins : List (Addr × Obj)} {σ : St} {H : Hp} {s : Shared} {T : String} {x : V} {v : Value} (I : Inv X pins σ H s) (r : RelV x v) (ty : tyV X.K T x H) :
    s.TypeIs v T ∧ ∀ a, v = .ref a → ∃ ob, s.heap.get? a = some ob ∧ ob.dict = none := by
  cases x with
  | str z =>
    obtain ⟨t, rfl⟩ := r
    cases (show T = "str" from ty)
    exact ⟨typeIs_str s z t, fun _ e => nomatch e⟩
  | int i =>
    obtain ⟨t, rfl⟩ := r
    cases (show T = "int" from ty)
    exact ⟨typeIs_int s i t, fun _ e => nomatch e⟩
  | ref p =>
    cases r
    rcases ty with ⟨rfl, xs, hq⟩ | ⟨rfl, o, hk, hc, hd⟩ | ⟨rfl, hk⟩ | ⟨rfl, S, n, hk⟩
    · obtain ⟨its, _, pl, _⟩ := I.list hq
      refine ⟨pl.isList.typeIs, fun a e => ?_⟩
      cases e
      obtain ⟨o, n, e, c, hd, _⟩ := pl
      exact ⟨o, e, hd⟩
    · refine ⟨⟨o, I.kIn p o hk, hc⟩, fun a e => ?_⟩
      cases e
      exact ⟨o, I.kIn _ o hk, hd⟩
    · have z : ∃ o, s.heap.get? p = some o ∧ o.ExactDict := by
        rcases hk with ⟨kvs, hk⟩ | ⟨kvs, hk⟩
        · obtain ⟨_, _, _, _, o, _, _, e, ex, _⟩ := I.hok p _ hk
          exact ⟨o, e, ex⟩
        · obtain ⟨_, _, _, _, o, _, _, e, ex, _⟩ := I.hok p _ hk
          exact ⟨o, e, ex⟩
      obtain ⟨o, e, ex⟩ := z
      refine ⟨⟨o, e, ex.1⟩, fun a e2 => ?_⟩
      cases e2
      exact ⟨o, e, ex.2.1⟩
    · obtain ⟨o, _, _, _, e, ex, _⟩ := I.hok p _ hk
      refine ⟨⟨o, e, ex.1⟩, fun a e2 => ?_⟩
      cases e2
      exact ⟨o, e, ex.2.1⟩
  | _ => exact False.elim ty
def tBM0 (K : PySem.W.Frag) (T : String) (r : V → List V → Hp → VK → Prop) (to : TE) : TE := fun σ H Q => to σ H fun x H1 => tyV K T x H1 ∧ r x [] H1 Q
def tBM (K : PySem.W.Frag) (T : String) (r : V → List V → Hp → VK → Prop) (to : TE) (t : TA) : TE := fun σ H Q => to σ H fun x H1 => tyV K T x H1 ∧ t σ H1 fun xs H2 => r x xs H2 Q
variable {o e : Expr} {es : List Expr} {to : TE} {t : TA} {name : Str} {apos cpos : Pos} {T id : String} {r : V → List V → Hp → VK → Prop}
theorem pe_bm0 (pa : PlainAttrs T) (slot : Slot T name id) (hty : typeOf (.builtin id) = pure (.type "method_descriptor")) (hm : MtR X id r) (ho : PE X o to)
    (hbase : attributeBase o name X.env (eval o X.env) = eval o X.env := by rfl) (hline : (apos.endLine == cpos.line) = true := by rfl) : PE X (.Call (.Attribute o name apos) [] [] cpos) (tBM0 X.K T r to) := by
  intro pins s σ H Q I h
  refine wpAny_Call_method0_late hbase hline (thn (ho pins s σ H _ I h) fun v s1 ⟨x, H1, I1, r1, ty, q1⟩ => ?_)
  obtain ⟨h1, h2⟩ := tyV_is I1 r1 ty
  exact ⟨T, id, pa, slot, hty, h1, h2, Calls.callWith_builtin rfl (PySem.evalArgs_none (hm pins s1 σ H1 x [] v [] Q I1 r1 .nil q1))⟩
theorem pe_bm (pa : PlainAttrs T) (slot : Slot T name id) (hty : typeOf (.builtin id) = pure (.type "method_descriptor")) (hm : MtR X id r) (ho : PE X o to) (ha : PA X (e :: es) t)
    (hbase : attributeBase o name X.env (eval o X.env) = eval o X.env := by rfl)
    (hfew : ((backTo cpos (starEach (e :: es) X.env)).all (fun x => !x.1) && (backToKw cpos (keywordEach [] X.env)).all (fun x => x.1.isSome)
      && decide ((e :: es).length + ([] : List Keyword).length + (if ([] : List Keyword).isEmpty then 0 else 1) < 30)) = true := by rfl)
    (hline : (apos.endLine == cpos.line) = true := by rfl) (hs : starEach (e :: es) X.env = (false, eval e X.env) :: starEach es X.env := by rfl) (hplain : (backTo cpos (starEach es X.env)).any (·.1) = false := by rfl) :
    PE X (.Call (.Attribute o name apos) (e :: es) [] cpos) (tBM X.K T r to t) := by
  intro pins s σ H Q I h
  refine wpAny_Call_method_late hbase hfew hline rfl (thn (ho pins s σ H _ I h) fun v s1 ⟨x, H1, I1, r1, ty, q1⟩ => ?_)
  obtain ⟨h1, h2⟩ := tyV_is I1 r1 ty
  refine ⟨T, id, pa, slot, hty, h1, h2, ?_⟩
  have hA := ha cpos pins s1 σ H1 _ I1 q1
  rw [hs] at hA ⊢
  refine Calls.callWith_builtin (by show (false || (backTo cpos (starEach es X.env)).any (·.1)) = false; rw [hplain] <;> rfl) (Calls.evalArgs_plain ?_)
  exact thn hA fun us s2 ⟨vs, H2, I2, r2, q2⟩ => hm pins s2 σ H2 x vs v us Q I2 r1 r2 q2
/- xs.append(e), list.index on a module's tuple .. are MtR facts of 06m -/
end
end L2
namespace L2
open PySem PySem.Spec PyProof.Rows
def MtM (X : Cx) (id : String) (r : V → List V → Hp → VK → Prop) : Prop :=
  ∀ (pins : List (Addr × Obj)) (s : Shared) (σ : St) (H : Hp) (x : V) (xs : List V) (v : Value) (us : List Value) (Q : VK), Inv X pins σ H s → RelV x v → Vals xs us → r x xs H Q →
    wpAny (model X.prog X.w) X.A (call (.builtin id) (v :: us)) (EP X pins σ Q) X.xe s
/-! ### lists of values -/
theorem Vals.one : ∀ {x : V} {us : List Value}, Vals [x] us → ∃ u, us = [u] ∧ RelV x u
  | _, _, .cons r .nil => ⟨_, rfl, r⟩
theorem Vals.two : ∀ {x y : V} {us : List Value}, Vals [x, y] us → ∃ u v, us = [u, v] ∧ RelV x u ∧ RelV y v
  | _, _, _, .cons r (.cons q .nil) => ⟨_, _, rfl, r, q⟩
theorem Vals.zero : ∀ {us : List Value}, Vals [] us → us = []
  | _, .nil => rfl
theorem Vals.rep {xs : List V} {us : List Value} (h : Vals xs us) : ∀ k : Nat, Vals (List.replicate k xs).flatten (List.replicate k us).flatten
  | 0 => .nil
  | k + 1 => by
    rw [List.replicate_succ, List.replicate_succ, List.flatten_cons, List.flatten_cons]
    exact Vals.append h (Vals.rep h k)
theorem foldl_rep (its : List Value) : ∀ (k : Nat) (acc : List Value),
    List.foldl (fun x1 x2 => x1 ++ x2) acc.toArray (List.replicate k its.toArray) = (acc ++ (List.replicate k its).flatten).toArray
  | 0, acc => by simp
  | k + 1, acc => by
    have e : acc.toArray ++ its.toArray = (acc ++ its).toArray := by simp
    have e2 : (acc ++ its) ++ (List.replicate k its).flatten = acc ++ (List.replicate (k + 1) its).flatten := by
      rw [List.replicate_succ, List.flatten_cons, List.append_assoc]
    rw [← e2, ← foldl_rep its k (acc ++ its), ← e, List.replicate_succ, List.foldl_cons]
section
variable {X : Cx} {pins : List (Addr × Obj)} {σ : St} {H : Hp} {s : Shared} {l b : Addr} {xs ys zs : List V}
/-! ### the two steps: a tracked list is rewritten, a new list is laid -/
theorem Inv.lset {its its' : List Value} {n : Nat} {f : Array Value → Array Value} {t' : Nat} (I : Inv X pins σ H s) (hH : H l = some (.lst xs))
    (e : s.heap.get? l = some { cls := .type "list", data := .seq its.toArray n }) (hf : f its.toArray = its'.toArray) (hv : Vals ys its') (hz : ys.length ≤ sizeLine) :
    Inv X pins σ (upd H l (.lst ys)) { s with heap := s.heap.update l (Obj.mapSeq f), toks := t' } := by
  have q := PySem.IsL.update e f
  rw [hf] at q
  refine I.write (x := l) (e := l) (by rw [hH]; exact trivial) (.inl rfl) (fun b' u hb hu => (Heap.get?_update_other s.heap (Obj.mapSeq f) (Ne.symm hb)).trans hu) ⟨_, q⟩ ?_
  exact ⟨hz, its', _, hv, q⟩
theorem Inv.lnew {its : List Value} {t' : Nat} (I : Inv X pins σ H s) (hv : Vals ys its) (hz : ys.length ≤ sizeLine) :
    Inv X pins σ (upd H s.heap.objs.size (.lst ys)) { s with heap := s.heap.push { cls := .type "list", data := .seq its.toArray }, toks := t' } :=
  I.laid (fun _ _ q => Heap.get?_push_of_some _ q) (Nat.le_refl _) ⟨hz, its, 0, hv, Heap.get?_push_size _ rfl⟩
theorem Inv.fresh (I : Inv X pins σ H s) : H s.heap.objs.size = none := I.hok.fresh (Nat.le_refl _)
theorem Inv.lstM (I : Inv X pins σ H s) (hH : H l = some (.lst xs)) : xs.length ≤ sizeLine ∧ ∃ (its : List Value) (n : Nat), Vals xs its ∧ xs.length = its.length ∧ s.heap.get? l = some { cls := .type "list", data := .seq its.toArray n } := by
  obtain ⟨z, its, n, r, e⟩ := I.hok l _ hH
  exact ⟨z, its, n, r, r.length, e⟩
theorem notLongL {n : Nat} (h : n ≤ sizeLine) : Builtin.List.listTooLong n = false := by
  unfold Builtin.List.listTooLong
  exact decide_eq_false (by omega)
end
section
variable {X : Cx}
/-! ### methods -/
def rAppend : V → List V → Hp → VK → Prop := fun x vs H Q => ∃ l xs y, x = .ref l ∧ vs = [y] ∧ H l = some (.lst xs) ∧ xs.length < sizeLine ∧ Q .non (upd H l (.lst (xs ++ [y])))
theorem mt_append : MtM X "list.append" rAppend := by
  intro pins s σ H x vs v us Q I rx rv h
  obtain ⟨l, xs, y, rfl, rfl, hH, hz, q⟩ := h
  cases rx
  obtain ⟨u, rfl, ru⟩ := rv.one
  obtain ⟨z, its, n, r, hl, e⟩ := I.lstM hH
  refine call_meets F.slot_list_append ⟨_, e, rfl⟩ F.entry_list_append (F.args_list_append_2 _ _) (PySem.list_append l its.toArray n u (by rw [List.size_toArray]; omega)) ⟨e, ?_⟩
  refine ⟨.non, _, I.lset (its' := its ++ [u]) hH e (by simp) (r.append (.cons ru .nil)) ?_, rfl, q⟩
  rw [List.length_append, List.length_singleton]
  omega
def rClear : V → List V → Hp → VK → Prop := fun x vs H Q => ∃ l xs, x = .ref l ∧ vs = [] ∧ H l = some (.lst xs) ∧ Q .non (upd H l (.lst []))
theorem mt_clear : MtM X "list.clear" rClear := by
  intro pins s σ H x vs v us Q I rx rv h
  obtain ⟨l, xs, rfl, rfl, hH, q⟩ := h
  cases rx
  have hus := rv.zero
  subst hus
  obtain ⟨z, its, n, r, hl, e⟩ := I.lstM hH
  refine call_meets F.slot_list_clear ⟨_, e, rfl⟩ F.entry_list_clear (F.args_list_clear_1 _) (AutoSeq1.list_clear_list_0 l its.toArray n (by rw [List.size_toArray]; omega)) ⟨e, ?_⟩
  exact ⟨.non, _, I.lset (its' := []) (ys := []) hH e rfl .nil (Nat.zero_le _), rfl, q⟩
/-! ### list + list, list += list, list * int -/
def rCat : R2 := fun x y H Q => ∃ l b xs zs, x = .ref l ∧ y = .ref b ∧ H l = some (.lst xs) ∧ H b = some (.lst zs) ∧ xs.length + zs.length ≤ sizeLine ∧ ∀ p, H p = none → Q (.ref p) (upd H p (.lst (xs ++ zs)))
theorem op_cat : OpR X (binaryOp .Add) rCat := by
  intro pins s σ H x y v u Q I rx ry h
  obtain ⟨l, b, xs, zs, rfl, rfl, hH, hB, hz, q⟩ := h
  cases rx
  cases ry
  obtain ⟨z, its, n, r, hl, e⟩ := I.lstM hH
  obtain ⟨z2, its2, n2, r2, hl2, e2⟩ := I.lstM hB
  refine PySem.P.add_list e e2 ?_ (by rw [List.size_toArray, List.size_toArray]; omega)
  have ea : its.toArray ++ its2.toArray = (its ++ its2).toArray := by simp
  rw [ea]
  exact ⟨.ref _, _, I.lnew (t' := s.toks) (r.append r2) (by rw [List.length_append]; omega), rfl, q _ I.fresh⟩
/-- a list times an int (a negative one is nothing) -/
def rRep : R2 := fun x y H Q => ∃ l k xs, x = .ref l ∧ y = .int k ∧ H l = some (.lst xs) ∧ -(2 ^ 63) ≤ k ∧ k < 2 ^ 63 ∧ xs.length * k.toNat ≤ sizeLine ∧
  ∀ p, H p = none → Q (.ref p) (upd H p (.lst (List.replicate k.toNat xs).flatten))
theorem len_rep {α : Type} (xs : List α) (k : Nat) : (List.replicate k xs).flatten.length = k * xs.length := by
  induction k with
  | zero => simp
  | succ k ih => rw [List.replicate_succ, List.flatten_cons, List.length_append, ih, Nat.succ_mul, Nat.add_comm]
theorem op_rep : OpR X (binaryOp .Mult) rRep := by
  intro pins s σ H x y v u Q I rx ry h
  obtain ⟨l, k, xs, rfl, rfl, hH, h1, h2, hz, q⟩ := h
  cases rx
  obtain ⟨t, rfl⟩ := ry
  obtain ⟨z, its, n, r, hl, e⟩ := I.lstM hH
  have hlen : its.toArray.size * k.toNat ≤ sizeLine := by rw [List.size_toArray, ← hl]; exact hz
  have hcap : ¬ its.toArray.size * k.toNat > (2 ^ 63 - 1) / 8 := by
    have : (sizeLine : Nat) ≤ (2 ^ 63 - 1) / 8 := by decide
    omega
  have hfit : ¬ (!Builtin.List.listFitsIndex k) = true := by
    rw [fitsIndex_both h1 h2]
    exact Bool.false_ne_true
  have hlong : ¬ Builtin.List.listTooLong (its.toArray.size * k.toNat) = true := by
    rw [notLongL hlen]
    exact Bool.false_ne_true
  have hnew : List.foldl (fun x1 x2 => x1 ++ x2) #[] (List.replicate (if its.toArray.isEmpty = true then 0 else k.toNat) its.toArray) = (List.replicate k.toNat its).flatten.toArray := by
    have f0 : ∀ m : Nat, List.foldl (fun x1 x2 => x1 ++ x2) #[] (List.replicate m its.toArray) = (List.replicate m its).flatten.toArray := fun m => by
      have := foldl_rep its m []
      rw [List.nil_append] at this
      exact this
    rw [f0]
    cases its with
    | nil => simp
    | cons a r' => rw [if_neg (by simp)]
  refine wpAny_binaryOp_repeat_ref (T := "list") (U := "int") (by decide) ⟨_, e, rfl⟩ (fun s' => typeIs_int s' k t) noFill_list_mul F.fills_int_mul F.slot_int_rmul repeat_list F.slot_int_index.lookup
    (call_meets F.slot_int_rmul (typeIs_int s k t) F.entry_int_rmul (F.args_int_rmul_2 _ _) (int___rmul___int_list k t l its.toArray n)
      ⟨e, rfl, ⟨_, e, rfl⟩, call_meets F.slot_list_mul ⟨_, e, rfl⟩ F.entry_list_mul (F.args_list_mul_2 _ _) (AutoListH.list___mul___list_int_3 l its.toArray n k t hfit hcap hlong) ⟨e, ?_⟩⟩)
  rw [hnew]
  exact ⟨.ref _, _, I.lnew (t' := s.toks) (r.rep k.toNat) (by rw [len_rep, Nat.mul_comm]; exact hz), rfl, q _ I.fresh⟩
/-! ### del xs[i] -/
end
/-! ### xs[a:b] = ys -/
section
variable {prog : Program} {w : World} {A : Around} {E : Value → Shared → Prop} {s : Shared}
end
section
variable {X : Cx}
end
end L2
namespace Att
open PySem PySem.W PySem.Calls PyProof.Rows
/-! ### the script -/
theorem ints_of_wellAll {P : Params} {h : Heap} : ∀ (ns : List Int) (vs : List Value), WellAll P h vs (ns.map WData.int) → IntsAre vs ns := by
  intro ns
  induction ns with
  | nil =>
    intro vs w
    rw [List.map_nil] at w
    cases w
    exact .nil
  | cons n ns ih =>
    intro vs w
    rw [List.map_cons] at w
    cases w with
    | cons a b =>
      cases a
      exact .cons _ _ (ih _ b)
theorem script_of {l : OpenLaw} {n : Nat} (hn : l.most = some n) {P : Params} {h : Heap} {args : List WData} {vals : List Value}
    (hpre : l.row.toRowW.claim.pre args = true) (hwl : WellAll P h vals args) :
    ∃ a vs ns, vals = [Value.ref a] ∧ args = [WData.list (ns.map WData.int)] ∧ h.get? a = some { cls := .type "list", data := .seq vs.toArray } ∧ IntsAre vs ns ∧ ns.length ≤ n := by
  have hsh : WShape.hasAll [] args [.list .int] = true := (pre_splitW hpre).1
  have hc : l.pre.holds [] { args := args } = true := (pre_splitW hpre).2
  obtain ⟨d, r, rfl, h1, h2⟩ := hasAllW_cons hsh
  obtain rfl := hasAllW_nil h2
  obtain ⟨xs, rfl, h3⟩ := hasW_list h1
  obtain ⟨ns, rfl⟩ := items_int h3
  have hlen : ns.length ≤ n := by
    unfold OpenLaw.pre at hc
    have h4 : (WTm.not (.lt (.lit (.int (n : Int))) (.len (.arg 0)))).holds [] { args := [.list (ns.map .int)] } = true := by
      have h4 := (holds_andW hc).1
      rw [hn] at h4
      exact h4
    have h5 := condW_of h4 (w_not (w_lt w_lit (w_len_list (w_arg rfl))))
    rw [List.length_map] at h5
    refine Nat.le_of_not_lt fun q => ?_
    have q' : (n : Int) < ((ns.length : Nat) : Int) := by omega
    first
      | (rw [decide_eq_true q'] at h5; exact absurd h5 (by decide))
      | (simp at h5; omega)
  cases hwl with
  | cons w1 w2 =>
    cases w2
    cases w1 with
    | list ho hall => exact ⟨_, _, ns, rfl, rfl, ho, ints_of_wellAll ns _ hall, hlen⟩
theorem post_true (l : OpenLaw) (args : List WData) : l.row.toRowW.claim.post args (.bool true) args = true :=
  postW_of (r := l.row.toRowW) (X := (true == true))
    (show WShape.has [] (.bool true) .bool = true by first | rfl | decide | simp [WShape.has, WShape.arms, WShape.armsAll])
    (show (WTm.eq .res (.lit (.bool true))).value [] { args := args, res := some (.bool true), after := args } = some (.bool (true == true)) from w_eq_bool (w_res rfl) w_lit) rfl
/-! ### the attachment: holds_open's last premise (the goal 'hc' behind k_head) from a wpAny of the law's body -/
/-- the same from a codeAny of the CALL (for a layer whose function contracts speak of calls) -/
theorem attach_call {l : OpenLaw} {n : Nat} {q : Program} {loose : List Str} {XP : (Str → Option Value) → Heap → Prop} {YP : World → Heap → Prop} {d : DefRec}
    (hn : l.most = some n) (hdf : d.params.defaults = [])
    (call : ∀ (w : World) (s₀ s₁ : Shared) (mg mb : Str → Option Value) (fa : Addr) (o : Obj) (pm cd doc : Value) (a : Addr) (vs : List Value) (ns : List Int),
      Ground q loose [] XP w s₀ mg mb s₁.heap → YP w s₁.heap →
      s₁.heap.get? fa = some o → o.data = .func (docDef d.name d.params d.body d.scope pm cd doc) → s₁.heap.CodeRec cd d.name → mg d.name = some (.ref fa) →
      s₁.heap.get? a = some { cls := .type "list", data := .seq vs.toArray } → IntsAre vs ns → ns.length ≤ n → s₁.gens = #[] →
      codeAny (model l.prog w) callerA (.call (.ref fa) ⟨[.ref a], []⟩) (fun r s' => r = .ok (.ret (.bool true)) ∧ OldK s₁.heap s'.heap ∧ s'.os = s₁.os ∧ AllBare s'.gens) s₁) :
    WalkO q loose XP YP l.row.toRowW d [] (fun f vs => PySem.call f vs) := by
  intro w s₀ s₁ mg mb G Y fa o pm cd doc dV kV ho hd hcd hD hmg hg args vals as hpre hlay hrd hwl hlo
  obtain rfl : dV = .none := Dflts.none hD hdf
  obtain rfl : kV = .none := Dflts.noKw hD
  obtain ⟨a, vs, ns, rfl, rfl, hobj, hints, hlen⟩ := script_of hn hpre hwl
  refine enter_call (codeAny_mono (call w s₀ s₁ mg mb fa o pm cd doc a vs ns G Y ho (fd_plain hd) hcd hmg hobj hints hlen hg) fun r s' hq => ?_)
  obtain ⟨rfl, h2, h3, h4⟩ := hq
  exact ⟨.inl ⟨.bool true, .bool true, [], rfl, fun _ => rfl, .bool true, post_true l _, fun _ => ⟨List.Pairwise.nil, fun _ hm => (nomatch hm)⟩⟩, h2, h3, h4⟩
/-! ### rules over ANY heap (no ledger) from facts about the written part K: the library's own take a ledger (News) for what they write -/
section
variable {prog : Program} {w : World} {A : Around} {E : Value → Shared → Prop} {s : Shared} {K : Frag}
/-! the whole heap as the ledger: makes every rule that writes through a ledger a rule over any heap -/
def ledger (h : Heap) (L d : Addr) : List (Addr × Obj) := (List.range h.objs.size).filterMap fun a => if a = L ∨ a = d then none else (h.get? a).map fun o => (a, o)
end
end Att
namespace L2
open PySem PySem.Spec PyProof.Rows
theorem vals_ints : ∀ {vs : List Value} {ns : List Int}, IntsAre vs ns → Vals (ns.map V.int) vs
  | _, _, .nil => .nil
  | _, _, .cons n t h => .cons ⟨t, rfl⟩ (vals_ints h)
/-- nothing is tracked but the script, known to the object (or it is an object of the module) -/
def Only (H : Hp) : Prop := ∀ b, H b = none ∨ ∃ o xs, H b = some (.frz o (.lst xs))
/-- THE HEAD: the law's promise, at the heap behind the top. F, the promise of the law's def, may use that base is part of the heap (so K.In base, base.Ns mainGlobals mg stand in Mod) -/
theorem law_call {P : Program} {w : World} {K : PySem.W.Frag} {mg mb : Str → Option Value} {CX : CXT} {k : Nat} {fa a : Addr} {fd : FuncData} {x : Str} {sp : Sp} {s₁ : Shared} {vs : List Value} {ns : List Int}
    (KX : K.In s₁.heap) (hns : s₁.heap.Ns mainGlobals mg) (hb : s₁.heap.Ns builtinsNs mb) (hbb : ∀ x : Str, x ≠ "__name__" → mb x = bootBuiltins x) (hlim : s₁.heap.NoLimit) (hg : s₁.gens = #[])
    (ha : s₁.heap.get? a = some { cls := .type "list", data := .seq vs.toArray }) (hi : IntsAre vs ns) (hl : ns.length ≤ sizeLine) (hr : Room k callerA)
    (F : ∀ base : Heap, K.In base → base.Ns mainGlobals mg → FnOk P w K mg base CX k fa fd [x] sp) (hbind : ∀ (s : Shared) (u : Value), BindsTo s fd ⟨[u], []⟩ [(x, u)])
    (hsp : ∀ H : Hp, Only H → SqL K H a (ns.map V.int) → sp [.ref a] H (fun v _ => v = .bl true) fun _ _ _ => False)
    (hCX : ∀ H e s', CX [] H s₁ (fun _ _ _ => False) e s' → False) :
    codeAny (model P w) callerA (.call (.ref fa) ⟨[.ref a], []⟩) (fun r s' => r = .ok (.ret (.bool true)) ∧ OldK s₁.heap s'.heap ∧ s'.os = s₁.os ∧ AllBare s'.gens) s₁ := by
  have rv := vals_ints hi
  have lenV := hi.length
  -- from an abstract heap in which nothing but the script may be tracked
  have core : ∀ H : Hp, Only H → SqL K H a (ns.map V.int) → HOk P w H s₁.heap → (∀ b, H b ≠ none → b = a) → (H a ≠ none → K.lookup a = none) →
      codeAny (model P w) callerA (.call (.ref fa) ⟨[.ref a], []⟩) (fun r s' => r = .ok (.ret (.bool true)) ∧ OldK s₁.heap s'.heap ∧ s'.os = s₁.os ∧ AllBare s'.gens) s₁ := by
    intro H hO hS hok hA hK
    have base_of : ∀ {b : Addr} {o : Obj}, s₁.heap.get? b = some o → H b = none → (hidT s₁.heap H).get? b = some o := fun e n => hidT_get e n
    have noA : ∀ {b : Addr} {o : Obj} {es : Array DictEntry} {ep : Nat}, s₁.heap.get? b = some o → o.data = .dict es ep → H b = none := fun {b o es ep} e d => by
      cases q : H b with
      | none => rfl
      | some u =>
        have e' : b = a := hA b (by rw [q]; simp)
        subst e'
        rw [ha] at e; cases e
        have d' : Data.seq vs.toArray _ = Data.dict es ep := d
        cases d'
    have nsK : ∀ {b : Addr} {m : Str → Option Value}, s₁.heap.Ns b m → (hidT s₁.heap H).Ns b m := fun {b m} ⟨o, es, ep, e, d, r⟩ => ⟨o, es, ep, base_of e (noA e d), d, r⟩
    have hKb : K.In (hidT s₁.heap H) := fun b o e => base_of (KX b o e) (by
      cases q : H b with
      | none => rfl
      | some u =>
        have e' : b = a := hA b (by rw [q]; simp)
        subst e'
        rw [hK (by rw [q]; simp)] at e; cases e)
    have hM : Mod K mg (hidT s₁.heap H) := ⟨hKb, nsK hns, ⟨mb, nsK hb, hbb⟩, let ⟨mc, h1, h2⟩ := hlim; ⟨mc, nsK h1, h2⟩⟩
    have e0 : Env0 P w K mg (hidT s₁.heap H) callerA [] s₁ H := ⟨rfl, hM, fun b o e => of_hidT e, Nat.le_of_eq (hidT_size _ _), trivial, fun b hb => absurd (show b ∈ ([] : List Addr) from hb) (by simp), hok, .of_eq hg⟩
    refine codeAny_mono ((F _ hKb (nsK hns)).run callerA [] s₁ H ⟨[.ref a], []⟩ [.ref a] [.ref a] _ _ hr e0 (hbind s₁ (.ref a)) (.cons rfl .nil) (hsp H hO hS)) fun r s' h => ?_
    cases r with
    | error e => exact (hCX H e s' h).elim
    | ok fl =>
      cases fl with
      | next => exact False.elim h
      | brk => exact False.elim h
      | cont => exact False.elim h
      | ret u =>
        obtain ⟨v, H', os, bare, un, hok', r', q⟩ := h
        have q' : v = .bl true := q
        subst q'
        obtain rfl : u = Value.bool true := r'
        refine ⟨rfl, OldK.of_keep fun b o e => ?_, os, bare⟩
        cases q : H b with
        | none => exact un.keep b o e q (by intro z; exact absurd (show b ∈ ([] : List Addr) from z) (by simp)) (by simp)
        | some u =>
          rcases hO b with z | ⟨ob, xs, z⟩
          · rw [q] at z; cases z
          · have z2 := un.frzs b ob _ z
            obtain ⟨e1, _⟩ := hok b _ z
            obtain ⟨e2, _⟩ := hok' b _ z2
            rw [e] at e1; cases e1
            exact e2
  cases hk : K.lookup a with
  | some o =>
    -- the script is one of the module's own objects
    have e := KX a o hk
    rw [ha] at e
    cases e
    refine core (fun _ => none) (fun _ => .inl rfl) (.inr ⟨_, vs.toArray, _, hk, rfl, rfl, rfl, by rw [List.size_toArray, lenV]; exact hl, by simpa using rv⟩) (fun b u z => by have z' : (none : Option HO) = some u := z; cases z') (fun b z => absurd rfl z) fun z => absurd rfl z
  | none =>
    refine core (fun b => if b = a then some (.frz { cls := .type "list", data := .seq vs.toArray } (.lst (ns.map V.int))) else none) (fun b => ?_) (.inl (.inr ⟨{ cls := .type "list", data := .seq vs.toArray }, if_pos rfl⟩)) (fun b u z => ?_) (fun b z => ?_) fun _ => hk
    · by_cases hb : b = a
      · exact .inr ⟨_, _, if_pos hb⟩
      · exact .inl (if_neg hb)
    · by_cases hb : b = a
      · have z' := (if_pos hb).symm.trans z
        cases z'
        subst hb
        exact ⟨ha, by rw [List.length_map]; exact hl, vs, _, rv, ha⟩
      · have z' := (if_neg hb).symm.trans z
        cases z'
    · by_cases hb : b = a
      · exact hb
      · exact absurd (if_neg hb) z
end L2
namespace L2
open PySem PySem.Spec PyProof.Rows
/-- the goal that k_head leaves (case hc), from the law's promise. F gives the function object fd (K's own) once, then the promise over every base -/
theorem walk_of {l : PySem.W.OpenLaw} {n k : Nat} {q : Program} {loose : List Str} {XP : (Str → Option Value) → Heap → Prop} {YP : World → Heap → Prop} {d : DefRec} {K : Params → PySem.W.Frag} {CX : World → CXT} {sp : World → Sp} {x : Str}
    (hn : l.most = some n) (hn2 : n ≤ sizeLine) (hdf : d.params.defaults = []) (hr : Room k callerA)
    (hY : ∀ (w : World) (h : Heap), YP w h → (K w.params).In h)
    (F : ∀ (w : World) (mg : Str → Option Value) (fa : Addr) (h : Heap), (K w.params).In h → h.Ns mainGlobals mg → mg d.name = some (.ref fa) →
      ∃ fd : FuncData, (∀ (s : Shared) (u : Value), BindsTo s fd ⟨[u], []⟩ [(x, u)]) ∧
        ∀ base : Heap, (K w.params).In base → base.Ns mainGlobals mg → FnOk l.prog w (K w.params) mg base (CX w) k fa fd [x] (sp w))
    (hsp : ∀ (w : World) (H : Hp) (a : Addr) (ns : List Int), ns.length ≤ n → Only H → SqL (K w.params) H a (ns.map V.int) → sp w [.ref a] H (fun v _ => v = .bl true) fun _ _ _ => False)
    (hCX : ∀ (w : World) (H : Hp) (s : Shared) (e : Value) (s' : Shared), CX w [] H s (fun _ _ _ => False) e s' → False) :
    PySem.W.WalkO q loose XP YP l.row.toRowW d [] (fun f vs => PySem.call f vs) := by
  refine Att.attach_call hn hdf fun w s₀ s₁ mg mb fa o pm cd doc a vs ns G Y ho hd hcd hmg hobj hints hlen hg => ?_
  have KX := hY w _ Y
  obtain ⟨fd, hb, hF⟩ := F w mg fa _ KX G.T.g hmg
  exact law_call KX G.T.g G.T.b G.T.builtins G.T.nolimit hg hobj hints (Nat.le_trans hlen hn2) hr hF hb (fun H hO hS => hsp w H a ns hlen hO hS) fun H e s' => hCX w H s₁ e s'
end L2
/-! SHORT WORDS over the layer: a def of the text, its body, what a loop and a test want. -/
namespace L2
open PySem PySem.Spec PyProof.Rows
/-! ### the text by places -/
/-- the j-th statement of a class's body -/
def inClass (s : Stmt) (j : Nat) : Stmt := match s with
  | .ClassDef _ _ _ body _ _ _ _ _ _ _ => body.getD j (.Pass ⟨0, 0, 0, 0⟩)
  | _ => .Pass ⟨0, 0, 0, 0⟩
def defArgs (s : Stmt) : Arguments := match s with
  | .FunctionDef _ a _ _ _ _ _ _ _ _ => a
  | _ => { posonlyargs := [], args := [], vararg := none, kwonlyargs := [], kw_defaults := [], kwarg := none, defaults := [] }
def defBody (s : Stmt) : List Stmt := match s with
  | .FunctionDef _ _ b _ _ _ _ _ _ _ => b
  | _ => []
def defScope (s : Stmt) : Scope := match s with
  | .FunctionDef _ _ _ _ _ _ sc _ _ _ => sc
  | _ => { kind := .function, names := [], isGenerator := false, isCoroutine := false }
/-! ### no exception leaves a def -/
abbrev CX0 : CXT := fun _ _ _ _ _ _ => False
abbrev E0 : XK := fun _ _ _ => False
/-! ### a def (or method) of the text as it stands behind the top -/
structure Fun (K : PySem.W.Frag) (x qual : Str) (st : Stmt) (f : Addr) (fd : FuncData) : Prop where
  ex : ∃ (oc : Value) (od : Option Addr) (kV doc pm : Value) (an : Option Addr) (cdv ct : Value) (osl : Array (Option Value)),
    fd = PySem.W.fnOf x qual (defArgs st) (defBody st) (defScope st) .none kV doc pm an cdv ct ∧ K.lookup f = some ⟨oc, od, .func fd, osl⟩ ∧ PySem.W.codeIn K cdv qual = true
  kp : PySem.W.keepIn K (.ref f) = true
section
variable {P : Program} {w : World} {K : PySem.W.Frag} {mg : Str → Option Value} {base : Heap}
/-- THE RULE for a def: its body as a term of rules, and the reading of that term -/
theorem Fun.ok {x qual : Str} {st : Stmt} {f : Addr} {fd : FuncData} {N ps : List Str} {k : Nat} {sp : Sp} (F : Fun K x qual st f fd) (S : FnScope N ps (defScope st)) (len : ∀ vs H Q E, sp vs H Q E → vs.length = ps.length)
    (hbody : ∀ (cdv : Value) (A : Around) (outer : List Env) (s : Shared) (H : Hp) (vs : List V) (Q : VK) (E : XK), Room k (A.deeper (envOfC qual (defScope st) s.heap.objs.size f cdv)) → sp vs H Q E →
      ∃ t, PSs (cxOf CX0 P w K mg base N qual (defScope st) f cdv A outer s H E).nox (defBody st) t ∧ t { nx := fun _ H' => Q .non H', rt := Q } (start N vs) H) : FnOk P w K mg base CX0 (k + 1) f fd ps sp := by
  obtain ⟨oc, od, kV, doc, pm, an, cdv, ct, osl, rfl, lk, hcd⟩ := F.ex
  refine fn_of lk hcd S len fun A outer s H vs Q E hr hsp => ?_
  obtain ⟨t, h, q⟩ := hbody cdv A outer s H vs Q E hr hsp
  exact ⟨t, h.nox, q⟩
/-- how its arguments bind (no defaults): h is «fun _ _ _ _ _ _ us hl => match us, hl with | [_, _], _ => rfl», one _ a parameter -/
theorem Fun.binds {x qual : Str} {st : Stmt} {f : Addr} {fd : FuncData} {ps : List Str} (F : Fun K x qual st f fd)
    (h : ∀ (kV doc pm : Value) (an : Option Addr) (cdv ct : Value) (us : List Value), us.length = ps.length → bindArgs (PySem.W.fnOf x qual (defArgs st) (defBody st) (defScope st) .none kV doc pm an cdv ct) ⟨us, []⟩ = pure (ps.zip us)) : Binds K fd ps [] := by
  obtain ⟨oc, od, kV, doc, pm, an, cdv, ct, osl, rfl, lk, hcd⟩ := F.ex
  exact .all (h kV doc pm an cdv ct)
theorem fun_mk {x qual : Str} {st : Stmt} {f : Addr} {oc : Value} {od an : Option Addr} {osl : Array (Option Value)} {kV doc pm cdv ct : Value} (l : K.lookup f = some ⟨oc, od, .func (PySem.W.fnOf x qual (defArgs st) (defBody st) (defScope st) .none kV doc pm an cdv ct), osl⟩)
    (c : PySem.W.codeIn K cdv qual = true) (k : PySem.W.keepIn K (.ref f) = true) : Fun K x qual st f (PySem.W.fnOf x qual (defArgs st) (defBody st) (defScope st) .none kV doc pm an cdv ct) := ⟨⟨oc, od, kV, doc, pm, an, cdv, ct, osl, rfl, l, c⟩, k⟩
end
theorem small1000 {n : Nat} (h : n ≤ 1000) : n < sizeLine := Nat.lt_of_le_of_lt h (by decide)
/-! ### expressions in short: the name that stands in the i-th slot -/
section
variable {X : Cx}
theorem pv (i : Nat) {x : Str} {pos : Pos} (hN : X.N[i]? = some x := by rfl) (hv : Vis X.env.scope x := by first | exact Or.inl rfl | exact Or.inr (Or.inl rfl) | exact Or.inr (Or.inr rfl)) (hd : (x == ("__debug__" : Str)) = false := by decide)
    (hcd : (x == ("__classdict__" : Str)) = false := by decide) : PE X (.Name x pos) (tVar i) := pe_var hN hv hd hcd
end
/-! ### tests -/
/-! ### heaps -/
/-- all that was tracked is as it was -/
def Same (H H' : Hp) : Prop := ∀ b o, H b = some o → H' b = some o
theorem Same.refl (H : Hp) : Same H H := fun _ _ h => h
theorem Same.trans {H H1 H2 : Hp} (a : Same H H1) (b : Same H1 H2) : Same H H2 := fun c o h => b c o (a c o h)
theorem Same.free {H H' : Hp} (e : Same H H') {l : Addr} (h : H' l = Option.none) : H l = Option.none := by
  cases q : H l with
  | none => rfl
  | some o =>
    rw [e l o q] at h
    cases h
theorem Same.seq {K : PySem.W.Frag} {H H' : Hp} {a : Addr} {xs : List V} (e : Same H H') (h : SqL K H a xs) : SqL K H' a xs := by
  rcases h with (h | ⟨o, h⟩) | h
  · exact .inl (.inl (e _ _ h))
  · exact .inl (.inr ⟨o, e _ _ h⟩)
  · exact .inr h
end L2
set_option Elab.async false
set_option linter.all false
set_option maxRecDepth 100000
namespace Bw
open PySem PySem.Spec PyProof.Rows L2
/-! ### more rules -/
section
variable {X : Cx}
def CDivL (i j : Int) : Prop := 0 < j ∧ j < 2 ^ 62
theorem op_fdivL : OpR X (binaryOp .FloorDiv) (rI CDivL fun i j => .int (i / j)) := opI fun i j _ _ _ _ _ hc q => by
  have h1 : (0 : Int) < j := hc.1
  have h2 : j < 2 ^ 62 := hc.2
  refine floordiv_int (by omega) (by rw [Int.fdiv_eq_ediv_of_nonneg i (by omega)]; exact q) (.inl (PyProof.noPylong_of_log2 ?_))
  have h0 : j.natAbs ≠ 0 := by omega
  have : j.natAbs.log2 < 62 := (Nat.log2_lt h0).mpr (by omega)
  omega
/-- what isinstance may be asked of here -/
def okV (H : Hp) : V → Prop
  | .non => True
  | .bl _ => True
  | .int _ => True
  | .str _ => True
  | .ref a => (∃ xs, H a = some (.lst xs)) ∨ ∃ xs, H a = some (.tup xs)
  | _ => False
def isIntV : V → Bool
  | .int _ => true
  | .bl _ => true
  | _ => false
def isBoolV : V → Bool
  | .bl _ => true
  | _ => false
def isTupV (H : Hp) : V → Bool
  | .ref a => match H a with
    | some (.tup _) => true
    | _ => false
  | _ => false
theorem okV.ty {K : PySem.W.Frag} {H : Hp} {x : V} (h : okV H x) : ∃ T, TyOf K H x (.type T) ∧ PySem.W.kitOne K (.type T) (.type "int") = some (isIntV x) ∧ PySem.W.kitOne K (.type T) (.type "bool") = some (isBoolV x) ∧ PySem.W.kitOne K (.type T) (.type "tuple") = some (isTupV H x) := by
  cases x with
  | non => exact ⟨_, .non, by kernel_rfl, by kernel_rfl, by kernel_rfl⟩
  | bl b => exact ⟨_, .bl b, by kernel_rfl, by kernel_rfl, by kernel_rfl⟩
  | int i => exact ⟨_, .int i, by kernel_rfl, by kernel_rfl, by kernel_rfl⟩
  | str i => exact ⟨_, .str i, by kernel_rfl, by kernel_rfl, by kernel_rfl⟩
  | ref a =>
    rcases h with ⟨xs, e⟩ | ⟨xs, e⟩
    · have q : isTupV H (.ref a) = false := by simp [isTupV, e]
      rw [q]
      exact ⟨_, .lst e, by kernel_rfl, by kernel_rfl, by kernel_rfl⟩
    · have q : isTupV H (.ref a) = true := by simp [isTupV, e]
      rw [q]
      exact ⟨_, .tup e, by kernel_rfl, by kernel_rfl, by kernel_rfl⟩
  | _ => exact h.elim
theorem isi_gen {pins : List (Addr × Obj)} {σ : L2.St} {H : Hp} {s : Shared} {x : V} {c T : String} {b : Bool} {us : List Value} {Q : VK} (I : Inv X pins σ H s) (r : Vals [x, .ty c] us) (ty : TyOf X.K H x (.type T)) (e : PySem.W.kitOne X.K (.type T) (.type c) = some b) (q : Q (.bl b) H) :
    wpAny (model X.prog X.w) X.A (call (.builtin "isinstance") us) (EP X pins σ Q) X.xe s := by
  obtain ⟨u, w', rfl, rx, rc⟩ := vals2 r
  cases (show w' = Value.type c from rc)
  exact isinst_ok I rx ty e fun tk => ⟨.bl b, H, I.tok _, rfl, q⟩
theorem call_isi_int : CallR X (.builtin "isinstance") (fun xs H Q => ∃ x, xs = [x, .ty "int"] ∧ okV H x ∧ Q (.bl (isIntV x)) H) := by
  intro pins s σ H xs us Q I r h
  obtain ⟨x, rfl, ok, q⟩ := h
  obtain ⟨T, ty, e1, e2, e3⟩ := ok.ty (K := X.K)
  exact isi_gen I r ty e1 q
theorem call_isi_bool : CallR X (.builtin "isinstance") (fun xs H Q => ∃ x, xs = [x, .ty "bool"] ∧ okV H x ∧ Q (.bl (isBoolV x)) H) := by
  intro pins s σ H xs us Q I r h
  obtain ⟨x, rfl, ok, q⟩ := h
  obtain ⟨T, ty, e1, e2, e3⟩ := ok.ty (K := X.K)
  exact isi_gen I r ty e2 q
theorem call_isi_tuple : CallR X (.builtin "isinstance") (fun xs H Q => ∃ x, xs = [x, .ty "tuple"] ∧ okV H x ∧ Q (.bl (isTupV H x)) H) := by
  intro pins s σ H xs us Q I r h
  obtain ⟨x, rfl, ok, q⟩ := h
  obtain ⟨T, ty, e1, e2, e3⟩ := ok.ty (K := X.K)
  exact isi_gen I r ty e3 q
/-! ### == of two tuples of ints -/
end
/-! ### a def that may be called -/
structure Cal (P : Program) (w : World) (K : PySem.W.Frag) (mg : Str → Option Value) (base : Heap) (x : Str) (ps : List Str) (k : Nat) (sp : Sp) : Prop where
  ex : ∃ f fd, FnOk P w K mg base CX0 k f fd ps sp ∧ Binds K fd ps [] ∧ PySem.W.keepIn K (.ref f) = true ∧ mg x = some (.ref f)
/-! ### heaps -/
theorem same_new {H : Hp} {p : Addr} (h : H p = none) (o : HO) : Same H (upd H p o) := fun b u q => by rw [upd_ne (ne_of_none q h)]; exact q
/-- all but w is as it was -/
def But (w : Addr) (H H' : Hp) : Prop := ∀ b o, b ≠ w → H b = some o → H' b = some o
theorem But.refl (w : Addr) (H : Hp) : But w H H := fun _ _ _ h => h
theorem But.trans {w : Addr} {H H1 H2 : Hp} (a : But w H H1) (b : But w H1 H2) : But w H H2 := fun c o n h => b c o n (a c o n h)
theorem But.upd {w : Addr} {H : Hp} (o : HO) : But w H (upd H w o) := fun b u n h => by rw [upd_ne n]; exact h
theorem Same.but {w : Addr} {H H' : Hp} (h : Same H H') : But w H H' := fun b o _ e => h b o e
/-- a well: four whole numbers in a list -/
def Well (H : Hp) (w : Addr) : Prop := ∃ a b c d : Int, H w = some (.lst [.int a, .int b, .int c, .int d])
theorem Well.same {H H' : Hp} {w : Addr} (W : Well H w) (s : Same H H') : Well H' w := by
  obtain ⟨a, b, c, d, h⟩ := W
  exact ⟨a, b, c, d, s _ _ h⟩
theorem Well.ne {H : Hp} {w p : Addr} (W : Well H w) (h : H p = none) : p ≠ w := by
  obtain ⟨a, b, c, d, e⟩ := W
  exact (ne_of_none e h).symm
theorem Well.neL {H : Hp} {w p : Addr} {xs : List V} (W : Well H w) (h : H p = some (.tup xs)) : p ≠ w := by
  obtain ⟨a, b, c, d, e⟩ := W
  exact (ne_of e h (by intro z; cases z)).symm
theorem at_mem {ns : List Int} {i : Int} (h0 : 0 ≤ i) (h : i < ns.length) : ∃ z ∈ ns, atI (ns.map V.int) i = some (.int z) := by
  have hk : i.toNat < ns.length := by omega
  have ek : i = ((i.toNat : Nat) : Int) := by omega
  refine ⟨ns[i.toNat], List.getElem_mem hk, ?_⟩
  have q : atI (ns.map V.int) ((i.toNat : Nat) : Int) = some (.int ns[i.toNat]) := atI_nat (by rw [List.getElem?_map, List.getElem?_eq_getElem hk] <;> rfl)
  rwa [← ek] at q
/-- the numbers of ns[lo:hi] -/
def cutL (ns : List Int) (lo hi : Int) : List Int := (ns.drop (HT.sIx ns.length 0 (some lo))).take (HT.sIx ns.length ns.length (some hi) - HT.sIx ns.length 0 (some lo))
theorem cutI (ns : List Int) (lo hi : Int) : cutV (ns.map V.int) (some lo) (some hi) = (cutL ns lo hi).map V.int := by
  unfold cutV cutL
  rw [List.length_map, ← List.map_drop, ← List.map_take]
theorem cutI_len (ns : List Int) (lo hi : Int) : (cutL ns lo hi).length ≤ ns.length := by
  unfold cutL
  rw [List.length_take, List.length_drop]
  omega
theorem int_at {ns : List Int} {i : Nat} {x : V} (h : (ns.map V.int)[i]? = some x) : ∃ c, x = .int c := by
  rw [List.getElem?_map] at h
  cases e : ns[i]? with
  | none => rw [e] at h; cases h
  | some c => rw [e] at h; exact ⟨c, (Option.some.inj h).symm⟩
theorem sz8 {n : Nat} (h : n ≤ 1000) : n ≤ sizeLine := Nat.le_of_lt (small1000 h)
/-! ### the readings, one step at a time (each lemma speaks of a fully applied reading) -/
section
variable {K : PySem.W.Frag} {ta tb tc te : TE} {tA tB' : TT} {t u : TS} {tr : TA} {D : Ends} {σ : L2.St} {H : Hp} {Q : VK} {QB : Bool → Hp → Prop} {QA : List V → Hp → Prop} {v x y z : V} {i j : Nat} {g : TG} {QS : L2.St → Hp → Prop}
theorem w_seq : tSeq t u D σ H = t { D with nx := u D } σ H := rfl
theorem w_next : tNext D σ H = D.nx σ H := rfl
theorem w_ifS : tIfS tA t u D σ H = tA σ H (fun b H1 => if b = true then t D σ H1 else u D σ H1) := rfl
theorem w_ret : tRet te D σ H = te σ H D.rt := rfl
theorem w_retN : tRetN D σ H = D.rt .non H := rfl
theorem w_drop : tDrop te D σ H = te σ H (fun _ H1 => D.nx σ H1) := rfl
theorem w_asg : tAsg te g D σ H = te σ H (fun x H1 => g x σ H1 D.nx) := rfl
theorem w_gName : gName i v σ H QS = QS (σ.set i (some v)) H := rfl
theorem w_gSub {ts : TSet} : gSub ta tb ts v σ H QS = ta σ H (fun o H1 => tb σ H1 (fun i H2 => ts o i v H2 (fun H3 => QS σ H3))) := rfl
theorem w_var : tVar i σ H Q = ∃ v, σ[i]? = some (some v) ∧ Q v H := rfl
theorem w_c : tC v σ H Q = Q v H := rfl
theorem w_op {r : R2} : tOp r ta tb σ H Q = ta σ H (fun x H1 => tb σ H1 (fun y H2 => r x y H2 Q)) := rfl
theorem w_un {r : V → Hp → VK → Prop} : tUn r ta σ H Q = ta σ H (fun x H1 => r x H1 Q) := rfl
theorem w_rU {f : Int → V} : rU f x H Q = ∃ i, x = .int i ∧ Q (f i) H := rfl
theorem w_rI0 {f : Int → Int → V} : rI0 f x y H Q = ∃ i j, x = .int i ∧ y = .int j ∧ Q (f i j) H := rfl
theorem w_rI {C : Int → Int → Prop} {f : Int → Int → V} : rI C f x y H Q = ∃ i j, x = .int i ∧ y = .int j ∧ C i j ∧ Q (f i j) H := rfl
theorem w_test : tTest te σ H QB = te σ H (fun x H' => ∃ k, x = .bl k ∧ QB k H') := rfl
theorem w_b : L2.tB te σ H QB = te σ H (fun x H1 => ∃ c, x = .bl c ∧ QB c H1) := rfl
theorem w_and : tAnd tA tB' σ H QB = tA σ H (fun c H1 => if c = true then tB' σ H1 QB else QB false H1) := rfl
theorem w_or : tOr tA tB' σ H QB = tA σ H (fun c H1 => if c = true then QB true H1 else tB' σ H1 QB) := rfl
theorem w_not : tNot tA σ H QB = tA σ H (fun c H1 => QB (!c) H1) := rfl
theorem w_andV : tAndV ta tb σ H Q = ta σ H (fun x H1 => ∃ c, x = .bl c ∧ if c = true then tb σ H1 Q else Q (.bl false) H1) := rfl
theorem w_orV : tOrV ta tb σ H Q = ta σ H (fun x H1 => ∃ c, x = .bl c ∧ if c = true then Q (.bl true) H1 else tb σ H1 Q) := rfl
theorem w_notV : tNotV ta σ H Q = ta σ H (fun x H1 => ∃ c, x = .bl c ∧ Q (.bl (!c)) H1) := rfl
theorem w_if : tIf tA ta tb σ H Q = tA σ H (fun c H1 => if c = true then ta σ H1 Q else tb σ H1 Q) := rfl
theorem w_cons : tCons ta tr σ H QA = ta σ H (fun x H1 => tr σ H1 (fun xs H2 => QA (x :: xs) H2)) := rfl
theorem w_nil : tNil σ H QA = QA [] H := rfl
theorem w_tup : tTup tr σ H Q = tr σ H (fun xs H1 => xs.length ≤ sizeLine ∧ ∀ p, H1 p = none → Q (.ref p) (L2.upd H1 p (.tup xs))) := rfl
theorem w_lst : tLst tr σ H Q = tr σ H (fun xs H1 => xs.length ≤ sizeLine ∧ ∀ p, H1 p = none → Q (.ref p) (L2.upd H1 p (.lst xs))) := rfl
theorem w_call {sp : Sp} {dvs : List V} {E : XK} : tCall sp dvs E tr σ H Q = tr σ H (fun vs H1 => sp (vs ++ dvs) H1 Q E) := rfl
theorem w_cB {r : List V → Hp → VK → Prop} : tCB r tr σ H Q = tr σ H (fun vs H1 => r vs H1 Q) := rfl
theorem w_eq : rEq x y H Q = (scal x y = true ∧ Q (.bl (decide (x = y))) H) := rfl
theorem w_ne : rNe x y H Q = (scal x y = true ∧ Q (.bl (!decide (x = y))) H) := rfl
theorem w_s1 {a b : Int} : scal (.int a) (.int b) = true := rfl
theorem w_s2 {a b : Bool} : scal (.bl a) (.bl b) = true := rfl
theorem w_s3 {a b : Str} : scal (.str a) (.str b) = true := rfl
theorem w_s4 {a : Int} : scal (.int a) .non = true := rfl
theorem w_s5 {a : Bool} : scal (.bl a) .non = true := rfl
theorem w_isN : tIsN ta σ H Q = ta σ H (fun x H1 => Q (.bl (decide (x = .non))) H1) := rfl
theorem w_notN : tNotN ta σ H Q = ta σ H (fun x H1 => Q (.bl (!decide (x = .non))) H1) := rfl
theorem w_chain {r r' : R2} : tChain r r' ta tb tc σ H Q = ta σ H (fun x H1 => tb σ H1 (fun y H2 => r x y H2 (fun z H3 => ∃ k, z = .bl k ∧ (if k = true then tc σ H3 (fun w' H4 => r' y w' H4 Q) else Q (.bl false) H3)))) := rfl
theorem w_sl {r : V → Option Int → Option Int → Hp → VK → Prop} {tl th : TO} : tSl r te tl th σ H Q = te σ H (fun x H1 => tl σ H1 (fun l H2 => th σ H2 (fun u H3 => r x l u H3 Q))) := rfl
theorem w_part {QO : Option Int → Hp → Prop} : tPart te σ H QO = te σ H (fun x H1 => ∃ i, x = .int i ∧ QO (some i) H1) := rfl
theorem w_noPart {QO : Option Int → Hp → Prop} : tNoPart σ H QO = QO none H := rfl
theorem w_K {CX : CXT} {P : Program} {w : World} {mg : Str → Option Value} {base : Heap} {N : List Str} {qual : Str} {sc : Scope} {f : Addr} {cd : Value} {A : Around} {outer : List Env} {s : Shared} {H : Hp} {E : XK} : (cxOf CX P w K mg base N qual sc f cd A outer s H E).K = K := rfl
/-- the loops, closed -/
def ForL (K : PySem.W.Frag) (a : Addr) (g : TG) (tb : TS) (D : Ends) (σ : L2.St) (H : Hp) : Prop := ∃ W : Nat → Nat → L2.St → Hp → Prop, (∃ m, W 0 m σ H) ∧ ∀ i m σ H, W i m σ H →
  ((Itl K a).stop i H ∧ D.nx σ H) ∨ ((Itl K a).go i H ∧ ∃ N : L2.St → Hp → Prop, (∀ σ' H', N σ' H' → ∃ m', m' < m ∧ W (i + 1) m' σ' H') ∧ ∀ x H', (Itl K a).yld i H x H' → g x σ H' fun σ2 H2 => tb { D with nx := N, ct := N, bk := D.nx } σ2 H2)
def ForR (lo : Int) (n : Nat) (g : TG) (tb : TS) (D : Ends) (σ : L2.St) (H : Hp) : Prop := ∃ W : Nat → Nat → L2.St → Hp → Prop, (∃ m, W 0 m σ H) ∧ ∀ i m σ H, W i m σ H →
  ((Itr lo n).stop i H ∧ D.nx σ H) ∨ ((Itr lo n).go i H ∧ ∃ N : L2.St → Hp → Prop, (∀ σ' H', N σ' H' → ∃ m', m' < m ∧ W (i + 1) m' σ' H') ∧ ∀ x H', (Itr lo n).yld i H x H' → g x σ H' fun σ2 H2 => tb { D with nx := N, ct := N, bk := D.nx } σ2 H2)
theorem w_forL : tFor (iList K ta) g t D σ H = ta σ H (fun x H1 => ∃ a, x = .ref a ∧ (∃ xs, SqL K H1 a xs) ∧ ForL K a g t D σ H1) := rfl
theorem w_for1 : tFor (iRng1 tr) g t D σ H = tr σ H (fun vs H1 => ∃ j : Int, vs = [.int j] ∧ -(2 ^ 62) ≤ j ∧ j < 2 ^ 62 ∧ ForR 0 j.toNat g t D σ H1) := rfl
theorem w_for2 : tFor (iRng2 tr) g t D σ H = tr σ H (fun vs H1 => ∃ i j : Int, vs = [.int i, .int j] ∧ (-(2 ^ 62) ≤ i ∧ i < 2 ^ 62 ∧ -(2 ^ 62) ≤ j ∧ j < 2 ^ 62) ∧ ForR i (j - i).toNat g t D σ H1) := rfl
theorem ForL.by {a : Addr} {xs : List V} (Pv : Nat → L2.St → Hp → Prop) (h0 : Pv 0 σ H) (hl : ∀ i σ H, i ≤ xs.length → Pv i σ H → SqL K H a xs)
    (hs : ∀ i x σ H, xs[i]? = some x → Pv i σ H → g x σ H fun σ2 H2 => t { D with nx := Pv (i + 1), ct := Pv (i + 1), bk := D.nx } σ2 H2) (hd : ∀ σ H, Pv xs.length σ H → D.nx σ H) : ForL K a g t D σ H := for_list Pv h0 hl hs hd
theorem ForR.by {lo : Int} {n : Nat} (Pv : Nat → L2.St → Hp → Prop) (h0 : Pv 0 σ H)
    (hs : ∀ i σ H, i < n → Pv i σ H → g (.int (lo + i)) σ H fun σ2 H2 => t { D with nx := Pv (i + 1), ct := Pv (i + 1), bk := D.nx } σ2 H2) (hd : ∀ σ H, Pv n σ H → D.nx σ H) : ForR lo n g t D σ H := for_range Pv h0 hs hd
/-- while, by a word and a measure -/
theorem whl (Pv : L2.St → Hp → Prop) (μ : L2.St → Hp → Nat) (h0 : Pv σ H)
    (hs : ∀ σ H, Pv σ H → tA σ H fun b H1 => if b = true then ∃ N : L2.St → Hp → Prop, (∀ σ' H', N σ' H' → ∃ m', m' < μ σ H ∧ (m' = μ σ' H' ∧ Pv σ' H')) ∧ t { D with nx := N, ct := N, bk := D.nx } σ H1 else D.nx σ H1) : tWhile tA t D σ H := by
  refine ⟨fun m σ H => m = μ σ H ∧ Pv σ H, ⟨_, rfl, h0⟩, ?_⟩
  rintro m σ H ⟨rfl, p⟩
  exact hs σ H p
theorem ixl {p : Addr} {xs : List V} {k : Int} (hS : SqL K H p xs) (hv : atI xs k = some v) (q : Q v H) : rIxL K (.ref p) (.int k) H Q := ⟨p, xs, k, v, rfl, rfl, hS, hv, q⟩
theorem ixt {p : Addr} {xs : List V} {k : Int} (hS : SqT K H p xs) (hv : atI xs k = some v) (q : Q v H) : rIxT K (.ref p) (.int k) H Q := ⟨p, xs, k, v, rfl, rfl, hS, hv, q⟩
theorem setl {p : Addr} {xs : List V} {k : Int} {QH : Hp → Prop} (h : H p = some (.lst xs)) (hj : ixN xs.length k = some j) (q : QH (L2.upd H p (.lst (xs.set j v)))) : rSetL (.ref p) (.int k) v H QH := ⟨p, xs, k, j, rfl, rfl, h, hj, q⟩
end
end Bw
set_option Elab.async false
set_option linter.all false
set_option maxRecDepth 100000
namespace Bw
open PySem PySem.Spec PyProof.Rows L2
/-! ### is not, of two truths -/
def rIsNotB : R2 := fun x y H Q => ∃ c d : Bool, x = .bl c ∧ y = .bl d ∧ Q (.bl (c != d)) H
theorem w_isnotB {x y : V} {H : Hp} {Q : VK} : rIsNotB x y H Q = ∃ c d : Bool, x = .bl c ∧ y = .bl d ∧ Q (.bl (c != d)) H := rfl
/-! ### range with a step -/
def Itr3 (lo c : Int) (n : Nat) : It := ⟨fun i _ => i < n, fun i H x H' => H' = H ∧ x = .int (lo + i * c), fun i _ => n ≤ i⟩
/-- how many turns -/
def rngN (i j c : Int) : Nat := if i < j then ((j - i - 1) / c + 1).toNat else 0
def iRng3 (ta : TA) : TI := fun σ H R => ta σ H fun vs H1 => ∃ i j c : Int, vs = [.int i, .int j, .int c] ∧ (-(2 ^ 60) ≤ i ∧ i < 2 ^ 60 ∧ -(2 ^ 60) ≤ j ∧ j < 2 ^ 60 ∧ 0 < c ∧ c < 2 ^ 30) ∧ R (Itr3 i c (rngN i j c)) H1
def ForR3 (lo c : Int) (n : Nat) (g : TG) (tb : TS) (D : Ends) (σ : L2.St) (H : Hp) : Prop := ∃ W : Nat → Nat → L2.St → Hp → Prop, (∃ m, W 0 m σ H) ∧ ∀ i m σ H, W i m σ H →
  ((Itr3 lo c n).stop i H ∧ D.nx σ H) ∨ ((Itr3 lo c n).go i H ∧ ∃ N : L2.St → Hp → Prop, (∀ σ' H', N σ' H' → ∃ m', m' < m ∧ W (i + 1) m' σ' H') ∧ ∀ x H', (Itr3 lo c n).yld i H x H' → g x σ H' fun σ2 H2 => tb { D with nx := N, ct := N, bk := D.nx } σ2 H2)
theorem w_for3 {tr : TA} {g : TG} {t : TS} {D : Ends} {σ : L2.St} {H : Hp} : tFor (iRng3 tr) g t D σ H = tr σ H (fun vs H1 => ∃ i j c : Int, vs = [.int i, .int j, .int c] ∧ (-(2 ^ 60) ≤ i ∧ i < 2 ^ 60 ∧ -(2 ^ 60) ≤ j ∧ j < 2 ^ 60 ∧ 0 < c ∧ c < 2 ^ 30) ∧ ForR3 i c (rngN i j c) g t D σ H1) := rfl
theorem ForR3.by {lo c : Int} {n : Nat} {g : TG} {t : TS} {D : Ends} {σ : L2.St} {H : Hp} (Pv : Nat → L2.St → Hp → Prop) (h0 : Pv 0 σ H)
    (hs : ∀ i σ H, i < n → Pv i σ H → g (.int (lo + i * c)) σ H fun σ2 H2 => t { D with nx := Pv (i + 1), ct := Pv (i + 1), bk := D.nx } σ2 H2) (hd : ∀ σ H, Pv n σ H → D.nx σ H) : ForR3 lo c n g t D σ H := by
  refine ⟨fun i m σ H => m = n - i ∧ i ≤ n ∧ Pv i σ H, ⟨n, by simp, Nat.zero_le _, h0⟩, ?_⟩
  rintro i m σ H ⟨rfl, hi, p⟩
  by_cases hlt : i < n
  · refine .inr ⟨hlt, Pv (i + 1), fun σ' H' p' => ⟨n - (i + 1), by omega, rfl, hlt, p'⟩, fun x H' y => ?_⟩
    obtain ⟨e, y⟩ := y
    subst e y
    exact hs i σ _ hlt p
  · have e : i = n := by omega
    subst e
    exact .inl ⟨Nat.le_refl _, hd σ H p⟩
/-! ### quiet hours -/
def quietB (s e t : Int) : Bool := if s < e then decide (s ≤ t) && decide (t < e) else decide (s ≤ t) || decide (t < e)
structure QOk (H : Hp) (p : Addr) (s e : Int) : Prop where
  at_ : H p = some (.tup [.int s, .int e])
  s0 : 0 ≤ s
  s1 : s ≤ 1439
  e0 : 0 ≤ e
  e1 : e ≤ 1439
  ne : s ≠ e
theorem QOk.same {H H' : Hp} {p : Addr} {s e : Int} (q : QOk H p s e) (h : Same H H') : QOk H' p s e := ⟨h _ _ q.at_, q.s0, q.s1, q.e0, q.e1, q.ne⟩
theorem QOk.but {H H' : Hp} {w p : Addr} {s e : Int} (q : QOk H p s e) (W : Well H w) (h : But w H H') : QOk H' p s e := ⟨h _ _ (W.neL q.at_) q.at_, q.s0, q.s1, q.e0, q.e1, q.ne⟩
theorem quietB_len {s e t : Int} (s0 : 0 ≤ s) (s1 : s ≤ 1439) (e0 : 0 ≤ e) (e1 : e ≤ 1439) (ne : s ≠ e) (t0 : 0 ≤ t) (t1 : t < 1440) : quietB s e t = decide ((t - s) % 1440 < (e - s) % 1440) := by
  unfold quietB
  rw [Bool.eq_iff_iff]
  by_cases h : s < e
  · rw [if_pos h]
    simp only [Bool.and_eq_true, decide_eq_true_eq]
    omega
  · rw [if_neg h]
    simp only [Bool.or_eq_true, decide_eq_true_eq]
    omega
/-- the marks behind k steps; f: what a mark is -/
def marksK (f : Bool → V) (s k : Int) : List V := (List.range 1440).map fun (t : Nat) => f (decide (((t : Int) - s) % 1440 < k))
theorem marksK_length (f : Bool → V) (s k : Int) : (marksK f s k).length = 1440 := by unfold marksK; rw [List.length_map, List.length_range]
theorem marksK_zero (f : Bool → V) (s : Int) : marksK f s 0 = List.replicate 1440 (f false) := by
  unfold marksK
  have e : (fun (t : Nat) => f (decide (((t : Int) - s) % 1440 < 0))) = fun _ => f false := by
    funext t
    rw [decide_eq_false (by omega)]
  rw [e, List.map_const', List.length_range]
theorem marksK_step (f : Bool → V) {s k : Int} (k0 : 0 ≤ k) (k1 : k < 1440) : (marksK f s k).set ((s + k) % 1440).toNat (f true) = marksK f s (k + 1) := by
  apply List.ext_getElem?
  intro i
  unfold marksK
  rw [List.getElem?_set, List.getElem?_map, List.getElem?_map, List.length_map, List.length_range]
  by_cases h : ((s + k) % 1440).toNat = i
  · rw [if_pos h, if_pos (by omega), List.getElem?_range (by omega)]
    simp only [Option.map_some, Option.some.injEq]
    rw [decide_eq_true (show ((i : Int) - s) % 1440 < k + 1 by omega)]
  · rw [if_neg h]
    by_cases hi : i < 1440
    · rw [List.getElem?_range hi]
      simp only [Option.map_some, Option.some.injEq]
      congr 1
      rw [decide_eq_decide]
      omega
    · rw [List.getElem?_eq_none (by rw [List.length_range]; omega)]
      rfl
theorem marksK_at (f : Bool → V) {s e t : Int} (s0 : 0 ≤ s) (s1 : s ≤ 1439) (e0 : 0 ≤ e) (e1 : e ≤ 1439) (ne : s ≠ e) (t0 : 0 ≤ t) (t1 : t < 1440) : atI (marksK f s ((e - s) % 1440)) t = some (f (quietB s e t)) := by
  have ek : t = ((t.toNat : Nat) : Int) := by omega
  have q : atI (marksK f s ((e - s) % 1440)) ((t.toNat : Nat) : Int) = some (f (quietB s e t)) := by
    refine atI_nat ?_
    unfold marksK
    rw [List.getElem?_map, List.getElem?_range (by omega), Option.map_some, quietB_len s0 s1 e0 e1 ne t0 t1, ← ek]
  rwa [← ek] at q
theorem flat_one {α : Type} (x : α) : ∀ n : Nat, (List.replicate n [x]).flatten = List.replicate n x
  | 0 => rfl
  | n + 1 => by rw [List.replicate_succ, List.flatten_cons, flat_one x n, List.replicate_succ, List.singleton_append]
theorem ixN_of {n : Nat} {i : Int} (h0 : 0 ≤ i) (h1 : i < n) : ixN n i = some i.toNat := by
  unfold ixN
  rw [if_pos h0, if_pos h1]
theorem sq_but {K : PySem.W.Frag} {H H1 H2 : Hp} {a w : Addr} {xs : List V} (hS : SqL K H a xs) (hw : H w = none) (s : Same H H1) (b : But w H1 H2) : SqL K H2 a xs := by
  rcases hS with (h | ⟨o, h⟩) | h
  · exact .inl (.inl (b _ _ (ne_of_none h hw) (s _ _ h)))
  · exact .inl (.inr ⟨o, b _ _ (ne_of_none h hw) (s _ _ h)⟩)
  · exact .inr h
end Bw
set_option Elab.async false
set_option linter.all false
set_option maxRecDepth 100000
namespace Bw
open PySem PySem.Spec PyProof.Rows L2
/-! ### refusals: how one flies -/
/-- behind a call a refusal flies: its class, the abstract heap; all that matters stands in B and stays -/
def CXF (P : Program) (w : World) : CXT := fun outer H s E e s' =>
  ∃ (x : Addr) (cls a0 : Value) (H' : Hp) (B : Heap), e = .ref x ∧ s'.os = s.os ∧ AllBare s'.gens ∧ Un (frs outer) [] H H' s.heap s'.heap ∧ HOk P w H' s'.heap ∧ Heap.FlyingW B outer x cls a0 s'.heap ∧
    (∀ b u, H' b = some u → ∃ o, B.get? b = some o) ∧ (∀ b o, s.heap.get? b = some o → H b = none → b ∉ frs outer → B.get? b = some o) ∧ (∀ b o, s.heap.get? b = some o → b ∉ frs outer → ∃ o', B.get? b = some o') ∧ E cls none H'
section
variable {X : Cx} {pins : List (Addr × Obj)} {σ : L2.St} {H H' : Hp} {s : Shared} {h2 B : Heap}
end
/-- the context of a body that may refuse -/
abbrev cxX (P : Program) (w : World) (K : PySem.W.Frag) (mg : Str → Option Value) (base : Heap) (N : List Str) (qual : Str) (sc : Scope) (f : Addr) (cdv : Value) (A : Around) (outer : List Env) (s : Shared) (H : Hp) (E : XK) : Cx :=
  cxOf (CXF P w) P w K mg base N qual sc f cdv A outer s H E
section
variable {P : Program} {w : World} {K : PySem.W.Frag} {mg : Str → Option Value} {base : Heap} {N : List Str} {qual : Str} {sc : Scope} {f : Addr} {cdv : Value} {A : Around} {outer : List Env} {s : Shared} {H : Hp} {E : XK}
theorem pass00 {X : Cx} : Passes (CXF P w) X E0 := fun pins σ H1 s1 e s' I hx => by
  obtain ⟨_, _, _, _, _, _, _, _, _, _, _, _, _, _, hE⟩ := hx
  exact hE.elim
theorem FnOk.up {k : Nat} {fd : FuncData} {ps : List Str} {sp : Sp} {CX : CXT} (F : FnOk P w K mg base CX0 k f fd ps sp) : FnOk P w K mg base CX k f fd ps sp :=
  ⟨F.len, fun A outer s H args us vs Q E hr he hb hv hs => codeAny_mono (F.run A outer s H args us vs Q E hr he hb hv hs) fun r s' q => by
    cases r with
    | ok fl => cases fl <;> exact q
    | error e => exact (show False from q).elim⟩
end
/-! ### raise C("..") -/
def tRaise (R : Hp → Prop) : TS := fun _ _ H => R H
/-! ### try: f(..) except C as n: .. -/
section
variable {X : Cx} {pins : List (Addr × Obj)} {σ : L2.St} {H H' : Hp} {s : Shared}
/-- a refusal that was caught: its class -/
def excAt (x : Addr) (cls : Value) (h : Heap) : Prop := ∃ ob, h.get? x = some ob ∧ ob.cls = cls
def hoExc (x : Addr) (cls : Value) : HO := .ext (excAt x cls)
def tTry (K : PySem.W.Frag) (CB : Addr) (i : Nat) (sp : Sp) (t : TA) (ts : TS) : TS := fun D σ H => t σ H fun vs H1 => sp vs H1 (fun _ H2 => D.nx σ H2) fun cls _ H2 => PySem.W.exmOne K cls (.ref CB) = some true ∧
  ∀ x, H2 x = none → ts { nx := fun σ' H3 => D.nx (σ'.set i none) H3, rt := D.rt, bk := fun σ' H3 => D.bk (σ'.set i none) H3, ct := fun σ' H3 => D.ct (σ'.set i none) H3 } (σ.set i (some (.ref x))) (L2.upd H2 x (hoExc x cls))
end
end Bw
set_option Elab.async false
set_option linter.all false
set_option maxRecDepth 100000
set_option maxHeartbeats 400000
namespace Bw
open PySem PySem.Spec PyProof.Rows L2
/-! ### the class of a refusal that was caught, as isinstance asks it -/
section
variable {prog : Program} {w : World} {A : Around} {E : Value → Shared → Prop} {K : PySem.W.Frag} {h : Heap} {g : Array GenState} {d : Drawn} {t : Nat} {os : OsState} {x C : Addr}
structure ExcK (K : PySem.W.Frag) (C : Addr) : Prop where
  ga : PySem.W.findIn K (.ref C) "__getattribute__" = some (some (.builtin "BaseException.__getattribute__"))
  gt : PySem.W.findIn K (.ref C) "__getattr__" = some none
  cl : PySem.W.findIn K (.ref C) "__class__" = some (some (.builtin "object.__class__"))
  mB : PySem.W.mroIn K C (.type "BaseException") = some true
  mO : PySem.W.mroIn K C (.type "object") = some true
  cls : (PySem.W.clsIn K C).isSome = true
end
/-! isinstance of a caught refusal: one class; a tuple of classes -/
section
variable {X : Cx}
end
/-! ### calls where refusals may fly -/
structure CalX (P : Program) (w : World) (K : PySem.W.Frag) (mg : Str → Option Value) (base : Heap) (x : Str) (ps : List Str) (k : Nat) (sp : Sp) : Prop where
  ex : ∃ f fd, FnOk P w K mg base (CXF P w) k f fd ps sp ∧ Binds K fd ps [] ∧ PySem.W.keepIn K (.ref f) = true ∧ mg x = some (.ref f)
/-- in a body that no refusal leaves -/
theorem pe_calN {X : Cx} {x : Str} {ps : List Str} {k : Nat} {sp : Sp} {e : Expr} {es : List Expr} {t : TA} {p pos : Pos} (C : CalX X.prog X.w X.K X.mg X.base x ps k sp) (hr : Room k X.A) (hg : Gl X x) (ha : PA X (e :: es) t)
    (hdb : (x == ("__debug__" : Str)) = false := by decide) (he : starEach (e :: es) X.env = (false, eval e X.env) :: starEach es X.env := by rfl) (hpl : (backTo pos (starEach es X.env)).any (·.1) = false := by rfl) :
    PE X (.Call (.Name x p) (e :: es) [] pos) (tCall sp [] E0 t) := by
  obtain ⟨f, fd, F, b, kp, m⟩ := C.ex
  exact pe_call F hr hg m kp b .nil pass00 ha hdb he hpl
theorem w_raise {R : Hp → Prop} {D : Ends} {σ : L2.St} {H : Hp} : tRaise R D σ H = R H := rfl
theorem w_try {K : PySem.W.Frag} {CB : Addr} {i : Nat} {sp : Sp} {t : TA} {ts : TS} {D : Ends} {σ : L2.St} {H : Hp} : tTry K CB i sp t ts D σ H = t σ H (fun vs H1 => sp vs H1 (fun _ H2 => D.nx σ H2) fun cls _ H2 => PySem.W.exmOne K cls (.ref CB) = some true ∧
  ∀ x, H2 x = none → ts { nx := fun σ' H3 => D.nx (σ'.set i none) H3, rt := D.rt, bk := fun σ' H3 => D.bk (σ'.set i none) H3, ct := fun σ' H3 => D.ct (σ'.set i none) H3 } (σ.set i (some (.ref x))) (L2.upd H2 x (hoExc x cls))) := rfl
theorem w_KX {K : PySem.W.Frag} {P : Program} {w : World} {mg : Str → Option Value} {base : Heap} {N : List Str} {qual : Str} {sc : Scope} {f : Addr} {cd : Value} {A : Around} {outer : List Env} {s : Shared} {H : Hp} {E : XK} : (cxX P w K mg base N qual sc f cd A outer s H E).K = K := rfl
theorem at_memV {xs : List V} {i : Int} (h0 : 0 ≤ i) (h : i < xs.length) : ∃ z ∈ xs, atI xs i = some z := by
  have hk : i.toNat < xs.length := by omega
  have ek : i = ((i.toNat : Nat) : Int) := by omega
  refine ⟨xs[i.toNat], List.getElem_mem hk, ?_⟩
  have q : atI xs ((i.toNat : Nat) : Int) = some xs[i.toNat] := atI_nat (List.getElem?_eq_getElem hk)
  rwa [← ek] at q
end Bw
set_option Elab.async false
set_option linter.all false
set_option maxRecDepth 100000
set_option maxHeartbeats 1000000
namespace Bw
open PySem PySem.Spec PyProof.Rows L2
/-! ### try: one statement, a call or a making in it; except C as n -/
section
variable {X : Cx}
def tBMake (C : Addr) (sp : Sp) (dvs : List V) (t : TA) : XK → TE := fun E σ H Q => t σ H fun vs H1 => ∀ x dx, H1 x = none → H1 dx = none → dx ≠ x →
  sp (.ref x :: (vs ++ dvs)) (upd (upd H1 dx (.own x)) x (.ins C dx [])) (fun v H2 => v = .non ∧ Q (.ref x) H2) E
def tTryB (K : PySem.W.Frag) (CB : Addr) (i : Nat) (tb : XK → TS) (ts : TS) : TS := fun D σ H => tb (fun cls _ H2 => PySem.W.exmOne K cls (.ref CB) = some true ∧
  ∀ x, H2 x = none → ts { nx := fun σ' H3 => D.nx (σ'.set i none) H3, rt := D.rt, bk := fun σ' H3 => D.bk (σ'.set i none) H3, ct := fun σ' H3 => D.ct (σ'.set i none) H3 } (σ.set i (some (.ref x))) (L2.upd H2 x (hoExc x cls))) D σ H
end
end Bw
set_option Elab.async false
set_option linter.all false
set_option maxRecDepth 100000
set_option maxHeartbeats 1000000
namespace Bw
open PySem PySem.Spec PyProof.Rows L2
/-! ### list comprehensions: one clause, at most one test, no refusal within -/
theorem lookup_mem {α : Type} {x : Str} {c : α} : ∀ {l : List (Str × α)}, l.lookup x = some c → (x, c) ∈ l
  | [], h => by simp at h
  | (n, k) :: r, h => by
    rw [List.lookup_cons] at h
    cases hx : x == n with
    | true =>
      rw [hx] at h
      have e : x = n := by simpa using hx
      have e2 : k = c := by simpa using h
      subst e e2
      exact List.mem_cons_self
    | false =>
      rw [hx] at h
      exact List.mem_cons_of_mem _ (lookup_mem h)
theorem mem_lookup {α : Type} {x : Str} {c : α} : ∀ {l : List (Str × α)}, (x, c) ∈ l → ∃ c', l.lookup x = some c'
  | [], h => by cases h
  | (n, k) :: r, h => by
    rw [List.lookup_cons]
    cases hx : x == n with
    | true => exact ⟨k, rfl⟩
    | false =>
      rcases List.mem_cons.mp h with e | e
      · cases e
        simp at hx
      · exact mem_lookup e
theorem closure_run {env : Env} : ∀ (names : List (Str × NameKind)) (acc : List (Str × Addr)), (∀ y ∈ names, y.2 = .free → ∃ c, env.cells.lookup y.1 = some c) →
    ∃ cl : List (Str × Addr), (forIn (m := Sem) names acc fun (x : Str × NameKind) r =>
        if (x.2 == NameKind.free) = true then do let a ← cellOf env x.1; pure (ForInStep.yield ((x.1, a) :: r)) else pure (ForInStep.yield r)) = pure cl ∧
      (∀ p ∈ cl, p ∈ acc ∨ env.cells.lookup p.1 = some p.2) ∧ (∀ p ∈ acc, p ∈ cl) ∧ ∀ x, (x, NameKind.free) ∈ names → ∃ c, (x, c) ∈ cl
  | [], acc, _ => ⟨acc, rfl, fun p hp => .inl hp, fun p hp => hp, fun x hx => by cases hx⟩
  | (n, k) :: r, acc, h => by
    by_cases hk : k = .free
    · subst hk
      obtain ⟨c, hc⟩ := h (n, .free) List.mem_cons_self rfl
      obtain ⟨cl, e, h1, h2, h3⟩ := closure_run r ((n, c) :: acc) fun y hy => h y (List.mem_cons_of_mem _ hy)
      have hc' : cellOf env n = pure c := by unfold cellOf; rw [hc]
      refine ⟨cl, ?_, fun p hp => ?_, fun p hp => h2 p (List.mem_cons_of_mem _ hp), fun x hx => ?_⟩
      · rw [List.forIn_cons]
        simp only [beq_self_eq_true, if_true, hc', pure_bind]
        exact e
      · rcases h1 p hp with z | z
        · rcases List.mem_cons.mp z with rfl | z
          · exact .inr hc
          · exact .inl z
        · exact .inr z
      · rcases List.mem_cons.mp hx with z | z
        · cases z
          exact ⟨c, h2 _ List.mem_cons_self⟩
        · exact h3 x z
    · obtain ⟨cl, e, h1, h2, h3⟩ := closure_run r acc fun y hy => h y (List.mem_cons_of_mem _ hy)
      have hb : (k == NameKind.free) = false := by simpa using hk
      refine ⟨cl, ?_, h1, h2, fun x hx => ?_⟩
      · rw [List.forIn_cons]
        simp only [hb, Bool.false_eq_true, if_false, pure_bind]
        exact e
      · rcases List.mem_cons.mp hx with z | z
        · cases z
          exact absurd rfl hk
        · exact h3 x z
theorem closure_of {env : Env} {scope : Scope} (h : ∀ y ∈ scope.names, y.2 = .free → ∃ c, env.cells.lookup y.1 = some c) :
    ∃ cl, closureFor scope env = pure cl ∧ (∀ x c, cl.lookup x = some c → env.cells.lookup x = some c) ∧ ∀ x, (x, NameKind.free) ∈ scope.names → ∃ c, cl.lookup x = some c := by
  obtain ⟨cl, e, h1, h2, h3⟩ := closure_run (env := env) scope.names [] h
  refine ⟨cl, ?_, fun x c hx => ?_, fun x hx => ?_⟩
  · unfold closureFor
    simp only [bind_pure]
    exact e
  · rcases h1 _ (lookup_mem hx) with z | z
    · cases z
    · exact z
  · obtain ⟨c, hc⟩ := h3 x hx
    exact mem_lookup hc
/-- what the names are within -/
theorem relabel_mem {scope : Scope} {env : Env} {x : Str} {k : NameKind} (h : (relabel scope env).names.lookup x = some k) : (x, k) ∈ scope.names ∨ (k = .cell ∧ (x, NameKind.free) ∈ scope.names) := by
  obtain ⟨⟨n, k'⟩, hm, e⟩ := List.mem_map.mp (lookup_mem h)
  dsimp only at e
  split at e
  · rename_i hc
    simp only [Bool.and_eq_true, beq_iff_eq] at hc
    obtain ⟨⟨rfl, _⟩, _⟩ := hc
    cases e
    exact .inr ⟨rfl, hm⟩
  · cases e
    exact .inl hm
/-- the block's context -/
abbrev blk (X : Cx) (N : List Str) (scope : Scope) (cl : List (Str × Addr)) (C : Addr) (s : Shared) (H : Hp) (fp : List Addr) : Cx :=
  { prog := X.prog, w := X.w, K := X.K, mg := X.mg, base := X.base, A := X.A, N := N, s₀ := s, H₀ := H, env := compEnvC scope cl C X.env, outer := X.stack, stack := X.stack, ex := fp, fn := fun _ => false, calm := X.calm, pn := [], xe := fun _ _ => False }
def pick (ix : List (Option Nat)) (σ : L2.St) : L2.St := ix.map fun o => o.bind fun j => (σ[j]?).getD none
def PTs (X : Cx) (ifs : List Expr) (t : TT) : Prop :=
  ∀ (pins : List (Addr × Obj)) (s : Shared) (σ : L2.St) (H : Hp) (Q : Bool → Hp → Prop), Inv X pins σ H s → t σ H Q →
    wpAny (model X.prog X.w) X.A (forIn ifs true fun c r => if r = true then do let ok ← isTrue c X.env (eval c X.env); pure (ForInStep.yield ok) else pure (ForInStep.yield r)) (TP X pins σ Q) X.xe s
def tYes : TT := fun _ H Q => Q true H
theorem pts_nil {X : Cx} : PTs X [] tYes := fun pins s σ H Q I h => wpAny_tests_nil ⟨H, I, h⟩
theorem pts_one {X : Cx} {c : Expr} {t : TT} (h : PT X c t) : PTs X [c] t := fun pins s σ H Q I q => wpAny_tests_one (h pins s σ H Q I q)
def tComp (wi : TI) (ix : List (Option Nat)) (g : TG) (tt : TT) (te : TE) : TE := fun σ H Q => wi σ H fun J H1 => ∃ W : Nat → Nat → List V → L2.St → Hp → Prop, (∃ m, W 0 m [] (pick ix σ) H1) ∧ ∀ i m acc σ H, W i m acc σ H →
  (J.stop i H ∧ ∀ D, H D = none → Q (.ref D) (upd H D (.lst acc))) ∨
  (J.go i H ∧ acc.length < sizeLine ∧ ∃ N : List V → L2.St → Hp → Prop, (∀ acc' σ' H', N acc' σ' H' → ∃ m', m' < m ∧ W (i + 1) m' acc' σ' H') ∧
    ∀ x H', J.yld i H x H' → g x σ H' fun σ2 H2 => tt σ2 H2 fun b H3 => if b = true then te σ2 H3 fun y H4 => N (acc ++ [y]) σ2 H4 else N acc σ2 H3)
section
variable {prog : Program} {w : World} {A : Around} {R : Result → Shared → Prop} {s : Shared}
theorem codeAny_compLoopT {elt target iter : Expr} {ifs : List Expr} {scope : Scope} {pos : Pos} {it acc : Value} {env : Env} (I : Nat → Shared → Prop)
    (turn : ∀ n s, I n s → wpAny (model prog w) A (pyNext it) (fun r s₁ => match r with
      | none => R (.ok .next) s₁
      | some v => wpAny (model prog w) A (letOwnedTupleGo target it v) (fun _ s₁ => wpAny (model prog w) A (assign target env v) (fun _ s₂ =>
          wpAny (model prog w) A (forIn ifs true fun c r => if r = true then do let ok ← isTrue c env (eval c env); pure (ForInStep.yield ok) else pure (ForInStep.yield r)) (fun ok s₃ =>
            if ok = true then wpAny (model prog w) A (eval elt env) (fun x s₄ =>
              wpAny (model prog w) A (call (.builtin "list.append") [acc, x]) (fun _ s₅ => ∃ m, m < n ∧ I m s₅) (fun _ _ => False) s₄) (fun _ _ => False) s₃
            else ∃ m, m < n ∧ I m s₃) (fun _ _ => False) s₂) (fun _ _ => False) s₁) (fun _ _ => False) s₁) (fun _ _ => False) s)
    (n : Nat) (h : I n s) :
    codeAny (model prog w) A (.compLoop (.ListComp elt [⟨target, iter, ifs, 0⟩] scope pos) 0 it acc env) R s := by
  refine codeAny_loop rfl I (fun n s hI => ?_) n h
  show wpAny _ A ((compTurn (.ListComp elt [⟨target, iter, ifs, 0⟩] scope pos) 0 it acc env).onRaise (fun x => do noteFrame x env; theTreesLotGoes x)) _ _ s
  refine wpAny_noted ?_
  rw [compTurn_list]
  refine wpAny_bind (wpAny_standAt (wpAny_bind (wpAny_mono (turn n s hI) (fun r s₁ h₁ => ?_) fun _ _ h' => h'.elim)))
  cases r with
  | none => exact wpAny_pure h₁
  | some v =>
    refine wpAny_bind (wpAny_mono h₁ (fun _ s₁ h₁ => ?_) fun _ _ h' => h'.elim)
    refine wpAny_bind (wpAny_mono h₁ (fun _ s₂ h₂ => wpAny_bind (wpAny_mono h₂ (fun ok s₃ h₃ => ?_) fun _ _ h' => h'.elim)) fun _ _ h' => h'.elim)
    cases ok with
    | false => exact wpAny_pure ⟨rfl, h₃⟩
    | true =>
      exact wpAny_bind (wpAny_bind (wpAny_mono h₃ (fun x s₄ h₄ => wpAny_bind (wpAny_mono h₄ (fun _ s₅ h₅ => wpAny_pure (wpAny_pure ⟨rfl, h₅⟩)) fun _ _ h' => h'.elim)) fun _ _ h' => h'.elim))
end
section
variable {X : Cx} {pins : List (Addr × Obj)} {σ : L2.St} {H : Hp} {s : Shared} {N : List Str} {scope : Scope} {cl : List (Str × Addr)} {C : Addr} {fp : List Addr}
theorem blk_ok (I : Inv X pins σ H s) (hkind : scope.kind = .function) (hcell : ∀ y ∈ scope.names, y.2 ≠ .cell) (h1 : ∀ x c, cl.lookup x = some c → X.env.cells.lookup x = some c)
    (h2 : ∀ x, (x, NameKind.free) ∈ scope.names → ∃ c, cl.lookup x = some c) (hC : s.heap.objs.size ≤ C) (hf : ∀ b ∈ fp, FpOk X pins H b) (hb : ∀ b ∈ fp, b < s.heap.objs.size) : (blk X N scope cl C s H fp).Ok where
  mod := I.ok.mod
  kind := hkind
  glob := I.ok.glob
  blt := I.ok.blt
  above := hC
  inj := fun x y c a b => I.ok.inj x y c (h1 x c a) (h1 y c b)
  has := fun x hx => by
    have : (x, NameKind.free) ∈ scope.names := by
      rcases hx with z | z
      · rcases relabel_mem z with q | ⟨_, q⟩
        · exact absurd rfl (hcell _ q)
        · exact q
      · rcases relabel_mem z with q | ⟨e, q⟩
        · exact q
        · cases e
    exact h2 x this
  cab := fun x c hx => by cases hx
  hd := I.ok.hd
  frames := I.ok.frames
  stk := .inl rfl
  exf := fun b hm => ⟨Nat.ne_of_lt (Nat.lt_of_lt_of_le (hb b hm) hC), fun x c e => (hf b hm).2.2.2.2.1 x c (h1 x c e)⟩
  bs := I.bs
  bsz := Nat.le_trans I.ok.bsz I.sz
  noex := fun b o e hm => by
    rcases (hf b hm).2.2.2.1 with z | z
    · exact I.ok.noex b o e z
    · exact absurd (Nat.lt_of_lt_of_le (Heap.lt_size e) (Nat.le_trans I.ok.bsz z)) (Nat.lt_irrefl _)
  exfs := fun b hm hs => (List.mem_cons.mp (I.stkSub b hs)).elim (hf b hm).2.1 (hf b hm).2.2.1
  funs := I.stack
  frf := I.stkFree
end
theorem lookup_relabel_free {env : Env} : ∀ {names : List (Str × NameKind)} {x : Str}, names.lookup x = some .free →
    (names.map fun (n, k) => if (k == NameKind.free && env.scope.kind == .function && env.kindOf n == some .cell) then (n, NameKind.cell) else (n, k)).lookup x = some .cell ∨
    (names.map fun (n, k) => if (k == NameKind.free && env.scope.kind == .function && env.kindOf n == some .cell) then (n, NameKind.cell) else (n, k)).lookup x = some .free
  | [], _, h => by simp at h
  | (n, k) :: r, x, h => by
    have ih := @lookup_relabel_free env r x
    rw [List.map_cons]
    cases hx : x == n with
    | true =>
      simp only [List.lookup_cons, hx] at h
      cases h
      by_cases hc : (NameKind.free == NameKind.free && env.scope.kind == .function && env.kindOf n == some .cell) = true
      · left; simp only [hc, if_true, List.lookup_cons, hx]
      · right; simp only [Bool.not_eq_true] at hc; simp only [hc, Bool.false_eq_true, if_false, List.lookup_cons, hx]
    | false =>
      simp only [List.lookup_cons, hx] at h
      by_cases hc : (k == NameKind.free && env.scope.kind == .function && env.kindOf n == some .cell) = true
      · simp only [hc, if_true, List.lookup_cons, hx]; exact ih h
      · simp only [Bool.not_eq_true] at hc; simp only [hc, Bool.false_eq_true, if_false, List.lookup_cons, hx]; exact ih h
section
variable {X : Cx}
/-- the block's own frame behind it: nobody's -/
structure Gone (X : Cx) (pins : List (Addr × Obj)) (H : Hp) (C : Addr) : Prop where
  n : H C = none
  l : C ≠ X.env.locals
  y : X.s₀.heap.objs.size ≤ C
  c : ∀ x c, X.env.cells.lookup x = some c → c ≠ C
  p : ∀ p ∈ X.pn ++ pins, p.1 ≠ C
theorem Gone.inv {pins : List (Addr × Obj)} {σ : L2.St} {H : Hp} {s : Shared} {C : Addr} {h' : Heap} (G : Gone X pins H C) (I : Inv X pins σ H s) (hs : Heap.SameBut C s.heap h') : Inv X pins σ H { s with heap := h' } :=
  I.turned (t' := s.toks) (fun b o hb e => (hs.2 b hb).trans e) G.n G.l (.inr G.y) G.c G.p
theorem comp_run {elt iter tg : Expr} {ifs : List Expr} {scope : Scope} {pos ppos : Pos} {wi : TI} {g : TG} {tt : TT} {te : TE} {use : Option (Value → Sem Unit)} {Q' : Value → Shared → Prop} {pins : List (Addr × Obj)} {s : Shared} {σ : L2.St} {H : Hp} {Q : VK} (N : List Str) (ix : List (Option Nat)) (hc : X.calm = true) (hkind : scope.kind = .function) (hcell : ∀ y ∈ scope.names, y.2 ≠ .cell)
    (hnames : ∀ y ∈ scope.names, y.2 = .local → scope.names.lookup y.1 = some .local) (hfree : ∀ y ∈ scope.names, y.2 = .free → X.env.kindOf y.1 = some .cell ∨ X.env.kindOf y.1 = some .free)
    (hlen : ix.length = N.length) (hcap : ∀ (i j : Nat) (x : Str), ix[i]? = some (some j) → N[i]? = some x → X.N[j]? = some x ∧ scope.names.lookup x = some .free) (hi : PI X tg iter wi)
    (hb : ∀ cl C s H fp, PG (blk X N scope cl C s H fp) tg g ∧ PTs (blk X N scope cl C s H fp) ifs tt ∧ PE (blk X N scope cl C s H fp) elt te)
    (hs : ∀ x, foldedSetIterable iter X.env x = pure x) (I : Inv X pins σ H s) (h : tComp wi ix g tt te σ H Q)
    (hend : ∀ (D C : Addr) (H' : Hp) (s4 : Shared) (mC : Str → Option Value), Inv X pins σ H' s4 → s4.heap.Ns C mC → Gone X pins H' C → Q (.ref D) H' → compPost (model X.prog X.w) X.A X.xe use Q' (.ref D) C (.ok .next) s4) :
    wpAny (model X.prog X.w) X.A (comprehension (.ListComp elt [⟨tg, iter, ifs, 0⟩] scope pos) scope X.env ppos (newList []) false (eval iter X.env) use) Q' X.xe s := by
  obtain ⟨cl, hclos, hcl1, hcl2⟩ := closure_of (env := X.env) (scope := scope) fun y hy e => I.ok.has _ (hfree y hy e)
  refine wpAny_comprehension_free rfl hs hclos hkind hnames (thn (hi pins s σ H _ I h) fun v s1 h1 => thn h1 fun itv s2 h2 => ?_)
  obtain ⟨it, fp, tn, J, H2, e, I2, T, st2, f2, W, ⟨m0, w0⟩, turn⟩ := h2
  subst e
  refine wpAny_newObj_type (wpAny_newFunctionEnv hcell (by intro y hy; simp at hy) (fun h₁ hns₁ hsb₁ => ?_) hkind)
  dsimp only at hns₁ hsb₁ ⊢
  generalize hH2 : s2.heap.push { cls := .type "list", dict := none, data := .seq ([] : List Value).toArray } = HH at hns₁ hsb₁ ⊢
  have hC : HH.objs.size = s2.heap.objs.size + 1 := by rw [← hH2, Heap.size_push]
  have hDC : s2.heap.objs.size ≠ HH.objs.size := by rw [hC]; exact Nat.ne_of_lt (Nat.lt_succ_self _)
  have hCle : s2.heap.objs.size ≤ HH.objs.size := by rw [hC]; exact Nat.le_succ _
  have below : ∀ b, b < s2.heap.objs.size → b ≠ HH.objs.size ∧ b ≠ s2.heap.objs.size := fun b hb => ⟨by rw [hC]; exact Nat.ne_of_lt (Nat.lt_succ_of_lt hb), Nat.ne_of_lt hb⟩
  have hfp : ∀ b ∈ fp, b < s2.heap.objs.size := fun b hm => by
    obtain ⟨o, e, _⟩ := T.obj _ _ st2 b hm
    exact Heap.lt_size e
  have old : ∀ b o, s2.heap.get? b = some o → h₁.get? b = some o := fun b o e => hsb₁.extBut b o (below b (Heap.lt_size e)).1 (Heap.get?_push_of_some _ (hH2 ▸ Heap.get?_push_of_some _ e))
  have hacc : h₁.get? s2.heap.objs.size = some { cls := .type "list", data := .seq ([] : List Value).toArray } := hsb₁.extBut _ _ hDC (Heap.get?_push_of_some _ (hH2 ▸ Heap.get?_push_size _ rfl))
  generalize hD : s2.heap.objs.size = D at hDC hCle hacc ⊢
  generalize hCC : HH.objs.size = C at hns₁ hsb₁ hDC hCle ⊢
  have hDle : s2.heap.objs.size ≤ D := by rw [hD]; exact Nat.le_refl _
  have hCle' : s2.heap.objs.size ≤ C := by rw [hD]; exact hCle
  obtain ⟨bg, bt, be⟩ := hb cl C s2 H2 fp
  have ok := blk_ok (N := N) I2 hkind hcell hcl1 hcl2 hCle' f2 hfp
  have notY : ∀ b, s2.heap.objs.size ≤ b → b ∉ frs X.stack := fun b hle hm => by
    rcases List.mem_cons.mp (I2.stkSub b hm) with z | z
    · exact absurd (Nat.lt_of_lt_of_le I2.lt (z ▸ hle)) (Nat.lt_irrefl _)
    · exact I2.nofs hle z
  -- the block's invariant at its entry
  have I4 : Inv (blk X N scope cl C s2 H2 fp) [(D, { cls := .type "list", data := .seq ([] : List Value).toArray })] (pick ix σ) H2 { s2 with heap := h₁, toks := s2.toks + ([] : List (Str × Value)).length } := by
    refine ⟨ok, rfl, I2.bare, Un.kept old, ⟨_, hns₁, fun i x v e1 e2 e3 => ?_⟩, fun x c e => ?_, I2.hok.fresh hCle', fun x c e => I2.freeC x c (hcl1 x c e), fun p hp => ?_, I2.hok.kept old, ?_⟩
    · have q : ∃ j, ix[i]? = some (some j) ∧ σ[j]? = some (some v) := by
        unfold pick at e2
        rw [List.getElem?_map] at e2
        cases z : ix[i]? with
        | none => rw [z] at e2; cases e2
        | some o =>
          rw [z] at e2
          cases o with
          | none => cases e2
          | some j =>
            refine ⟨j, rfl, ?_⟩
            have e2' : (σ[j]?).getD none = some v := Option.some.inj e2
            cases z2 : σ[j]? with
            | none => rw [z2] at e2'; cases e2'
            | some w' => rw [z2] at e2'; exact congrArg some e2'
      obtain ⟨j, q1, q2⟩ := q
      obtain ⟨n1, n2⟩ := hcap i j x q1 e1
      obtain ⟨m, hn, hl⟩ := I2.loc
      have hmem := lookup_mem n2
      have hkx := hfree _ hmem rfl
      have hvis : Vis X.env.scope x := by
        rcases hkx with z | z
        · exact .inr (.inl z)
        · exact .inr (.inr z)
      obtain ⟨u, ru, lk⟩ := hl j x v n1 q2 hvis
      refine ⟨u, ru, .inr ⟨lookup_relabel_free n2, ?_⟩⟩
      obtain ⟨c, hcc⟩ := hcl2 x hmem
      rcases lk with ⟨k, _⟩ | ⟨_, c', e', z⟩
      · rcases hkx with z | z <;> · rw [k] at z; cases z
      · rw [hcl1 x c hcc] at e'
        cases e'
        obtain ⟨o, ho, hd⟩ := z
        exact ⟨c, hcc, o, old _ _ ho, hd⟩
    · obtain ⟨v, o, ho, hd⟩ := I2.cell x c (hcl1 x c e)
      exact ⟨v, o, old _ _ ho, hd⟩
    · have e : p = (D, { cls := .type "list", data := .seq ([] : List Value).toArray }) := by simpa using hp
      subst e
      exact ⟨hacc, I2.hok.fresh hDle, hDC, notY D hDle, fun v z => by cases z⟩
    · unfold pick
      rw [List.length_map]
      exact hlen
  have stat : ∀ {pl : List (Addr × Obj)} {H' : Hp}, (∀ p ∈ pl, p.1 ∉ fp) → (∀ b ∈ fp, H' b = none) → ∀ b ∈ fp, FpOk (blk X N scope cl C s2 H2 fp) pl H' b := fun {pl H'} hpl hn b hm =>
    ⟨hn b hm, (ok.exf b hm).1, ok.exfs b hm, .inl hm, (ok.exf b hm).2, fun p hp e => hpl p (by simpa using hp) (e ▸ hm)⟩
  have nfp : D ∉ fp := fun hm => absurd (Nat.lt_of_lt_of_le (hfp D hm) hDle) (Nat.lt_irrefl _)
  have nfpP : ∀ (o : Obj), ∀ p ∈ [(D, o)], p.1 ∉ fp := fun o p hp => by
    have e : p = (D, o) := by simpa using hp
    subst e
    exact nfp
  have loop : ∀ s3 : Shared, s3 = { s2 with heap := h₁, toks := s2.toks + ([] : List (Str × Value)).length } →
      codeAny (model X.prog X.w) X.A (.compLoop (.ListComp elt [⟨tg, iter, ifs, 0⟩] scope pos) 0 (.ref it) (.ref D) (compEnvC scope cl C X.env)) (compPost (model X.prog X.w) X.A X.xe use Q' (.ref D) C) s3 := by
    rintro s3 rfl
    refine codeAny_compLoopT (fun n s' => ∃ i σ' H' acc its nn, Inv (blk X N scope cl C s2 H2 fp) [(D, { cls := .type "list", data := .seq its nn })] σ' H' s' ∧ Vals acc its.toList ∧ tn i s'.heap ∧ (∀ b ∈ fp, H' b = none) ∧ acc.length ≤ sizeLine ∧ W i n acc σ' H') ?_ m0
      ⟨0, pick ix σ, H2, [], #[], 0, I4, .nil, T.keep _ _ _ st2 fun b _ o e => old b o e, fun b hm => (f2 b hm).1, Nat.zero_le _, w0⟩
    rintro n s3 ⟨i, σ3, H3, acc, its, nn, I3, rv, st3, fr3, hz, w3⟩
    rcases turn i n acc σ3 H3 w3 with ⟨stop, qn⟩ | ⟨go, hlt, NN, hN, step⟩
    · refine thn (T.done (blk X N scope cl C s2 H2 fp) rfl rfl rfl hc i _ s3 σ3 H3 (fun _ _ => False) I3 (stat (nfpP _) fr3) st3 stop) fun r s4 ⟨hr, I5⟩ => ?_
      subst hr
      obtain ⟨eD, nD, _⟩ := I5.pin (D, { cls := .type "list", data := .seq its nn }) (by simp)
      obtain ⟨mC, hnC, _⟩ := I5.loc
      -- back in the def's own frame
      have hne : ∀ b u, H3 b = some u → b ≠ D := fun b u q z => by rw [z, nD] at q; cases q
      have un : Un (frs X.stack) fp H2 (upd H3 D (.lst acc)) s2.heap s4.heap := by
        have b := I5.base
        have neD : ∀ b o, s2.heap.get? b = some o → b ≠ D := fun b o e => Nat.ne_of_lt (Nat.lt_of_lt_of_le (Heap.lt_size e) hDle)
        refine ⟨b.keep, b.slot, fun b' o q n' hx => ?_, b.there, fun b' xs q => ?_, fun b' o u q => ?_, fun b' ps q => ?_⟩
        · rw [upd_ne (neD b' o q)]
          exact b.free b' o q n' hx
        · have q' := b.tups b' xs q
          rw [upd_ne (hne _ _ q')]
          exact q'
        · have q' := b.frzs b' o u q
          rw [upd_ne (hne _ _ q')]
          exact q'
        · obtain ⟨more, q'⟩ := b.tbls b' ps q
          exact ⟨more, by rw [upd_ne (hne _ _ q')]; exact q'⟩
      have hokD : HOk X.prog X.w (upd H3 D (.lst acc)) s4.heap := fun b u e => by
        by_cases hbD : b = D
        · subst hbD
          rw [upd_same] at e
          cases e
          exact ⟨hz, its.toList, nn, rv, by simpa using eD⟩
        · rw [upd_ne hbD] at e
          refine (I5.hok b u e).stay (fun _ _ _ q => q) (fun c r => ?_) fun c xs r => ?_
          · rw [upd_ne (fun z => by rw [z, nD] at r; cases r)]; exact r
          · rw [upd_ne (fun z => by rw [z, nD] at r; cases r)]; exact r
      have IX : Inv X pins σ (upd H3 D (.lst acc)) s4 := I2.call' I5.os un hokD I5.bare fun b hm => ⟨(f2 b hm).2.2.2.1, (f2 b hm).2.1, (f2 b hm).2.2.2.2.1, (f2 b hm).2.2.2.2.2⟩
      refine hend D C _ s4 mC IX hnC ⟨?_, Nat.ne_of_gt (Nat.lt_of_lt_of_le I2.lt hCle'), Nat.le_trans I2.sz hCle', fun x c e z => ?_, fun p hp z => ?_⟩ (qn D nD)
      · rw [upd_ne (Ne.symm hDC)]
        exact I5.free
      · obtain ⟨v, o, ho, _⟩ := I2.cell x c e
        exact absurd (Nat.lt_of_lt_of_le (Heap.lt_size ho) (z ▸ hCle')) (Nat.lt_irrefl _)
      · exact absurd (Nat.lt_of_lt_of_le (Heap.lt_size (I2.pin p hp).1) (z ▸ hCle')) (Nat.lt_irrefl _)
    · refine thn (T.item (blk X N scope cl C s2 H2 fp) rfl rfl rfl hc i _ s3 σ3 H3 (fun _ _ => False) I3 (stat (nfpP _) fr3) st3 go) fun r s4 ⟨u, hr, h4⟩ => ?_
      subst hr
      refine thn h4 fun _ s5 ⟨x, H5, I5, r5, y5, st5, fr5⟩ => ?_
      have I5' := I5.pinned (stat (nfpP _) fr5) (T.obj _ _ st5)
      refine thn (bg _ s5 σ3 H5 x u _ I5' r5 (step x H5 y5)) fun _ s6 ⟨σ6, H6, I6, q6⟩ => ?_
      refine thn (bt _ s6 σ6 H6 _ I6 q6) fun b s7 ⟨H7, I7, q7⟩ => ?_
      have after : ∀ {o : Obj} {σ8 : L2.St} {H8 : Hp} {s8 : Shared}, Inv (blk X N scope cl C s2 H2 fp) ([(D, o)] ++ pinsAt fp s5.heap) σ8 H8 s8 → tn (i + 1) s8.heap ∧ ∀ b ∈ fp, H8 b = none := fun {o σ8 H8 s8} I8 => by
        refine ⟨T.keep _ _ _ st5 fun b hb o e => (I8.pin (b, o) (List.mem_append_right _ (List.mem_append_right _ (mem_pinsAt hb e)))).1, fun b hb => ?_⟩
        obtain ⟨o, e, d⟩ := T.obj _ _ st5 b hb
        exact (I8.pin (b, o) (List.mem_append_right _ (List.mem_append_right _ (mem_pinsAt hb e)))).2.1
      cases b with
      | false =>
        simp only [Bool.false_eq_true, if_false] at q7 ⊢
        obtain ⟨m', hm, w7⟩ := hN acc σ6 H7 q7
        exact ⟨m', hm, i + 1, σ6, H7, acc, its, nn, I7.unpinned, rv, (after I7).1, (after I7).2, hz, w7⟩
      | true =>
        simp only [if_true] at q7 ⊢
        refine thn (be _ s7 σ6 H7 _ I7 q7) fun yv s8 ⟨y, H8, I8, r8, q8⟩ => ?_
        obtain ⟨eD, nD, _⟩ := I8.pin (D, { cls := .type "list", data := .seq its nn }) (by simp)
        have hl : acc.length = its.size := by have := rv.length; simpa using this
        refine wpAny_list_append_plain (hsz := by omega) ⟨nn, eD⟩ fun h9 ⟨n9, e9⟩ hs9 => ?_
        obtain ⟨m', hm, w9⟩ := hN _ _ _ q8
        have J1 : Inv (blk X N scope cl C s2 H2 fp) (pinsAt fp s5.heap) σ6 H8 s8 := I8.pins_of fun p hp => I8.pin p (List.mem_append_right _ (List.mem_append_right _ hp))
        have nc : ∀ x c, cl.lookup x = some c → c ≠ D := fun x c e z => by
          obtain ⟨v, o, ho, _⟩ := I2.cell x c (hcl1 x c e)
          exact absurd (Nat.lt_of_lt_of_le (Heap.lt_size ho) (z ▸ hDle)) (Nat.lt_irrefl _)
        have J2 : Inv (blk X N scope cl C s2 H2 fp) (pinsAt fp s5.heap) σ6 H8 { s8 with heap := h9 } := J1.turned (t' := s8.toks) (fun b o hb e => hs9.extBut b o hb e) nD hDC (.inr hDle) nc fun p hp z => by
          have hp' : p ∈ pinsAt fp s5.heap := by simpa using hp
          exact nfp (z ▸ (of_pinsAt hp').1)
        have J3 : Inv (blk X N scope cl C s2 H2 fp) ([(D, { cls := .type "list", data := .seq (its.push yv) n9 })] ++ pinsAt fp s5.heap) σ6 H8 { s8 with heap := h9 } := J2.pins_of fun p hp => by
          rcases List.mem_append.mp hp with hp | hp
          · have e : p = (D, { cls := .type "list", data := .seq (its.push yv) n9 }) := by simpa using hp
            subst e
            exact ⟨e9, nD, hDC, notY D hDle, fun v z => by cases z⟩
          · exact J2.pin p (List.mem_append_right _ hp)
        refine ⟨m', hm, i + 1, σ6, H8, acc ++ [y], its.push yv, n9, J3.unpinned, ?_, (after J3).1, (after J3).2, by rw [List.length_append, List.length_singleton]; omega, w9⟩
        rw [Array.toList_push]
        exact rv.append (.cons r8 .nil)
  exact codeAny_compStart_list (loop _ rfl) (T.self _ 0 _ _ _ (T.keep _ _ _ st2 fun b _ o e => old b o e) (loop _ rfl))
theorem pe_comp {elt iter tg : Expr} {ifs : List Expr} {scope : Scope} {pos : Pos} {wi : TI} {g : TG} {tt : TT} {te : TE} (N : List Str) (ix : List (Option Nat)) (hc : X.calm = true) (hkind : scope.kind = .function) (hcell : ∀ y ∈ scope.names, y.2 ≠ .cell)
    (hnames : ∀ y ∈ scope.names, y.2 = .local → scope.names.lookup y.1 = some .local) (hfree : ∀ y ∈ scope.names, y.2 = .free → X.env.kindOf y.1 = some .cell ∨ X.env.kindOf y.1 = some .free)
    (hlen : ix.length = N.length) (hcap : ∀ (i j : Nat) (x : Str), ix[i]? = some (some j) → N[i]? = some x → X.N[j]? = some x ∧ scope.names.lookup x = some .free) (hi : PI X tg iter wi)
    (hb : ∀ cl C s H fp, PG (blk X N scope cl C s H fp) tg g ∧ PTs (blk X N scope cl C s H fp) ifs tt ∧ PE (blk X N scope cl C s H fp) elt te)
    (hs : ∀ x, foldedSetIterable iter X.env x = pure x := by intro _; rfl) : PE X (.ListComp elt [⟨tg, iter, ifs, 0⟩] scope pos) (tComp wi ix g tt te) := by
  intro pins s σ H Q I h
  rw [eval_ListComp]
  exact comp_run (use := none) N ix hc hkind hcell hnames hfree hlen hcap hi hb hs I h fun D C H' s4 mC I4 hn G q => ⟨mC, hn, fun h' hs' => ⟨.ref D, H', G.inv I4 hs', rfl, q⟩⟩
/-- name = [..] on one line, the name a plain local -/
theorem ps_comp {i : Nat} {y : Str} {elt iter tg : Expr} {ifs : List Expr} {scope : Scope} {pos py spos : Pos} {wi : TI} {g : TG} {tt : TT} {te : TE} (N : List Str) (ix : List (Option Nat)) (hc : X.calm = true) (hkind : scope.kind = .function) (hcell : ∀ y ∈ scope.names, y.2 ≠ .cell)
    (hnames : ∀ y ∈ scope.names, y.2 = .local → scope.names.lookup y.1 = some .local) (hfree : ∀ y ∈ scope.names, y.2 = .free → X.env.kindOf y.1 = some .cell ∨ X.env.kindOf y.1 = some .free)
    (hlen : ix.length = N.length) (hcap : ∀ (i j : Nat) (x : Str), ix[i]? = some (some j) → N[i]? = some x → X.N[j]? = some x ∧ scope.names.lookup x = some .free) (hN : X.N.Nodup) (hin : X.N[i]? = some y) (hy : X.env.scope.names.lookup y = some .local) (hi : PI X tg iter wi)
    (hb : ∀ cl C s H fp, PG (blk X N scope cl C s H fp) tg g ∧ PTs (blk X N scope cl C s H fp) ifs tt ∧ PE (blk X N scope cl C s H fp) elt te)
    (hsw : swapsWith (.ListComp elt [⟨tg, iter, ifs, 0⟩] scope pos) (some (.Name y py)) spos.line X.env = pure true := by rfl)
    (hs : ∀ x, foldedSetIterable iter X.env x = pure x := by intro _; rfl) : PS X (.Assign [.Name y py] (.ListComp elt [⟨tg, iter, ifs, 0⟩] scope pos) spos) (tAsg (tComp wi ix g tt te) (gName i)) := by
  intro pins s σ H D I h
  rw [exec_Assign_Name_used _ _ _ _ hsw]
  refine wpAny_bind (wpAny_standAt (wpAny_bind ?_))
  show wpAny _ X.A (do let _ ← comprehension (.ListComp elt [⟨tg, iter, ifs, 0⟩] scope pos) scope X.env _ (newList []) false (eval iter X.env) (some (assign (.Name y py) X.env))) _ _ s
  refine wpAny_bind (thn (comp_run (use := some (assign (.Name y py) X.env)) (Q' := fun _ s' => SP X pins D .next s') (Q := fun v H' => D.nx (σ.set i (some v)) H') N ix hc hkind hcell hnames hfree hlen hcap hi hb hs I h fun Dd C H' s4 mC I4 hn G q => ?_) fun _ s' hq => wpAny_pure (wpAny_pure hq))
  show wpAny _ X.A (assign (.Name y py) X.env (.ref Dd)) _ _ _
  refine wpAny_assign_Name (store_ok2 (v := .ref Dd) I4 hN hin (.inl hy) rfl (fun s5 I5 ⟨a, sb, ha⟩ => ?_) (.inr hy))
  have hCa : C ≠ a := by
    rcases ha with z | z
    · rw [z]; exact G.l
    · exact fun e => G.c _ _ z e.symm
  exact ⟨mC, hn.sameBut sb hCa, fun h' hs' => ⟨_, H', G.inv I5 hs', q⟩⟩
end
/-! ### the forms one uses -/
theorem comp_list {K : PySem.W.Frag} {a : Addr} {xs : List V} {g : TG} {tt : TT} {te : TE} {σ : L2.St} {H : Hp} {Q : VK} (Pv : Nat → List V → L2.St → Hp → Prop) (hz : xs.length ≤ sizeLine) (h0 : Pv 0 [] σ H) (hl : ∀ i acc σ H, i ≤ xs.length → Pv i acc σ H → SqL K H a xs)
    (hs : ∀ i x acc σ H, xs[i]? = some x → Pv i acc σ H → g x σ H fun σ2 H2 => tt σ2 H2 fun b H3 => if b = true then te σ2 H3 fun y H4 => Pv (i + 1) (acc ++ [y]) σ2 H4 else Pv (i + 1) acc σ2 H3)
    (hacc : ∀ i acc σ H, Pv i acc σ H → acc.length ≤ i) (hd : ∀ acc σ H, Pv xs.length acc σ H → ∀ D, H D = none → Q (.ref D) (upd H D (.lst acc))) :
    ∃ W : Nat → Nat → List V → L2.St → Hp → Prop, (∃ m, W 0 m [] σ H) ∧ ∀ i m acc σ H, W i m acc σ H →
      ((Itl K a).stop i H ∧ ∀ D, H D = none → Q (.ref D) (upd H D (.lst acc))) ∨
      ((Itl K a).go i H ∧ acc.length < sizeLine ∧ ∃ N : List V → L2.St → Hp → Prop, (∀ acc' σ' H', N acc' σ' H' → ∃ m', m' < m ∧ W (i + 1) m' acc' σ' H') ∧
        ∀ x H', (Itl K a).yld i H x H' → g x σ H' fun σ2 H2 => tt σ2 H2 fun b H3 => if b = true then te σ2 H3 fun y H4 => N (acc ++ [y]) σ2 H4 else N acc σ2 H3) := by
  refine ⟨fun i m acc σ H => m = xs.length - i ∧ i ≤ xs.length ∧ Pv i acc σ H, ⟨xs.length, by simp, Nat.zero_le _, h0⟩, ?_⟩
  rintro i m acc σ H ⟨rfl, hi, p⟩
  have q := hl i acc σ H hi p
  have ha := hacc i acc σ H p
  by_cases hlt : i < xs.length
  · refine .inr ⟨⟨xs, xs[i], q, by simp [hlt]⟩, by omega, Pv (i + 1), fun acc' σ' H' p' => ⟨xs.length - (i + 1), by omega, rfl, hlt, p'⟩, fun x H' y => ?_⟩
    obtain ⟨e, y⟩ := y
    subst e
    exact hs i x acc σ _ (y xs q) p
  · have e : i = xs.length := by omega
    subst e
    exact .inl ⟨⟨xs, q, Nat.le_refl _⟩, hd acc σ H p⟩
theorem comp_range {lo : Int} {n : Nat} {g : TG} {tt : TT} {te : TE} {σ : L2.St} {H : Hp} {Q : VK} (Pv : Nat → List V → L2.St → Hp → Prop) (hz : n ≤ sizeLine) (h0 : Pv 0 [] σ H)
    (hs : ∀ i acc σ H, i < n → Pv i acc σ H → g (.int (lo + i)) σ H fun σ2 H2 => tt σ2 H2 fun b H3 => if b = true then te σ2 H3 fun y H4 => Pv (i + 1) (acc ++ [y]) σ2 H4 else Pv (i + 1) acc σ2 H3)
    (hacc : ∀ i acc σ H, Pv i acc σ H → acc.length ≤ i) (hd : ∀ acc σ H, Pv n acc σ H → ∀ D, H D = none → Q (.ref D) (upd H D (.lst acc))) :
    ∃ W : Nat → Nat → List V → L2.St → Hp → Prop, (∃ m, W 0 m [] σ H) ∧ ∀ i m acc σ H, W i m acc σ H →
      ((Itr lo n).stop i H ∧ ∀ D, H D = none → Q (.ref D) (upd H D (.lst acc))) ∨
      ((Itr lo n).go i H ∧ acc.length < sizeLine ∧ ∃ N : List V → L2.St → Hp → Prop, (∀ acc' σ' H', N acc' σ' H' → ∃ m', m' < m ∧ W (i + 1) m' acc' σ' H') ∧
        ∀ x H', (Itr lo n).yld i H x H' → g x σ H' fun σ2 H2 => tt σ2 H2 fun b H3 => if b = true then te σ2 H3 fun y H4 => N (acc ++ [y]) σ2 H4 else N acc σ2 H3) := by
  refine ⟨fun i m acc σ H => m = n - i ∧ i ≤ n ∧ Pv i acc σ H, ⟨n, by simp, Nat.zero_le _, h0⟩, ?_⟩
  rintro i m acc σ H ⟨rfl, hi, p⟩
  have ha := hacc i acc σ H p
  by_cases hlt : i < n
  · refine .inr ⟨hlt, by omega, Pv (i + 1), fun acc' σ' H' p' => ⟨n - (i + 1), by omega, rfl, hlt, p'⟩, fun x H' y => ?_⟩
    obtain ⟨e, y⟩ := y
    subst e y
    exact hs i acc σ _ hlt p
  · have e : i = n := by omega
    subst e
    exact .inl ⟨Nat.le_refl _, hd acc σ H p⟩
/-! ### all that is asked of the names, by one check -/
def capB (XN : List Str) (scope : Scope) : List Str → List (Option Nat) → Bool
  | _, [] => true
  | [], _ => true
  | _ :: r, none :: s => capB XN scope r s
  | x :: r, some j :: s => decide (XN[j]? = some x) && decide (scope.names.lookup x = some .free) && capB XN scope r s
theorem capB_ok {XN : List Str} {scope : Scope} : ∀ {N : List Str} {ix : List (Option Nat)}, capB XN scope N ix = true → ∀ (i j : Nat) (x : Str), ix[i]? = some (some j) → N[i]? = some x → XN[j]? = some x ∧ scope.names.lookup x = some .free
  | [], [], _, i, j, x, h1, _ => by simp at h1
  | _ :: _, [], _, i, j, x, h1, _ => by simp at h1
  | [], _ :: _, _, i, j, x, _, h2 => by simp at h2
  | y :: r, none :: s, h, i, j, x, h1, h2 => by
    cases i with
    | zero => simp at h1
    | succ i => exact capB_ok (N := r) (ix := s) h i j x (by simpa using h1) (by simpa using h2)
  | y :: r, some k :: s, h, i, j, x, h1, h2 => by
    have h' : (decide (XN[k]? = some y) && decide (scope.names.lookup y = some .free) && capB XN scope r s) = true := h
    rw [Bool.and_eq_true, Bool.and_eq_true, decide_eq_true_eq, decide_eq_true_eq] at h'
    cases i with
    | zero =>
      simp at h1 h2
      subst h1 h2
      exact h'.1
    | succ i => exact capB_ok h'.2 i j x (by simpa using h1) (by simpa using h2)
def compOk (XN : List Str) (sc scope : Scope) (N : List Str) (ix : List (Option Nat)) : Bool :=
  decide (scope.kind = .function) && decide (∀ y ∈ scope.names, y.2 ≠ .cell) && decide (∀ y ∈ scope.names, y.2 = .local → scope.names.lookup y.1 = some .local) &&
    decide (∀ y ∈ scope.names, y.2 = .free → sc.names.lookup y.1 = some .cell ∨ sc.names.lookup y.1 = some .free) && decide (ix.length = N.length) && capB XN scope N ix
section
variable {X : Cx}
theorem pe_compB {elt iter tg : Expr} {ifs : List Expr} {scope : Scope} {pos : Pos} {wi : TI} {g : TG} {tt : TT} {te : TE} (N : List Str) (ix : List (Option Nat)) (hc : X.calm = true) (hk : compOk X.N X.env.scope scope N ix = true) (hi : PI X tg iter wi)
    (hb : ∀ cl C s H fp, PG (blk X N scope cl C s H fp) tg g ∧ PTs (blk X N scope cl C s H fp) ifs tt ∧ PE (blk X N scope cl C s H fp) elt te)
    (hs : ∀ x, foldedSetIterable iter X.env x = pure x := by intro _; rfl) : PE X (.ListComp elt [⟨tg, iter, ifs, 0⟩] scope pos) (tComp wi ix g tt te) := by
  unfold compOk at hk
  simp only [Bool.and_eq_true, decide_eq_true_eq] at hk
  obtain ⟨⟨⟨⟨⟨h1, h2⟩, h3⟩, h4⟩, h5⟩, h6⟩ := hk
  exact pe_comp N ix hc h1 h2 h3 h4 h5 (capB_ok h6) hi hb hs
theorem ps_compB {i : Nat} {y : Str} {elt iter tg : Expr} {ifs : List Expr} {scope : Scope} {pos py spos : Pos} {wi : TI} {g : TG} {tt : TT} {te : TE} (N : List Str) (ix : List (Option Nat)) (hc : X.calm = true) (hk : compOk X.N X.env.scope scope N ix = true)
    (hN : X.N.Nodup) (hin : X.N[i]? = some y) (hy : X.env.scope.names.lookup y = some .local) (hi : PI X tg iter wi)
    (hb : ∀ cl C s H fp, PG (blk X N scope cl C s H fp) tg g ∧ PTs (blk X N scope cl C s H fp) ifs tt ∧ PE (blk X N scope cl C s H fp) elt te)
    (hsw : swapsWith (.ListComp elt [⟨tg, iter, ifs, 0⟩] scope pos) (some (.Name y py)) spos.line X.env = pure true := by rfl)
    (hs : ∀ x, foldedSetIterable iter X.env x = pure x := by intro _; rfl) : PS X (.Assign [.Name y py] (.ListComp elt [⟨tg, iter, ifs, 0⟩] scope pos) spos) (tAsg (tComp wi ix g tt te) (gName i)) := by
  unfold compOk at hk
  simp only [Bool.and_eq_true, decide_eq_true_eq] at hk
  obtain ⟨⟨⟨⟨⟨h1, h2⟩, h3⟩, h4⟩, h5⟩, h6⟩ := hk
  exact ps_comp N ix hc h1 h2 h3 h4 h5 (capB_ok h6) hN hin hy hi hb hsw hs
end
end Bw
set_option Elab.async false
set_option linter.all false
set_option maxRecDepth 100000
set_option maxHeartbeats 1000000
namespace Bw
open PySem PySem.Spec PyProof.Rows L2
/-! ### texts -/
section
variable {X : Cx}
theorem ep_str {pins : List (Addr × Obj)} {σ : L2.St} {H : Hp} {s : Shared} {Q : VK} {u : Str} {t : Tok} {k : Nat} (I : Inv X pins σ H s) (q : Q (.str u) H) : EP X pins σ Q (.str u t) { s with toks := k } := ⟨.str u, H, I.tok k, ⟨t, rfl⟩, q⟩
def rSlS : V → Option Int → Option Int → Hp → VK → Prop := fun x lo hi H Q => ∃ u, x = .str u ∧ u.length ≤ sizeLine ∧ Q (.str (Txt.slice u lo hi)) H
theorem sl_str : SlR X rSlS := by
  intro pins s σ H x v vl vu lo hi sl Q I rx hs pl pu h
  obtain ⟨u, rfl, hz, q⟩ := h
  obtain ⟨t, rfl⟩ := rx
  refine ⟨"str", _, PySem.F.slot_str_getitem.lookup, typeIs_str _ _ _, ?_⟩
  obtain ⟨os, hos, hcs, hds⟩ := hs
  cases pl with
  | none =>
    cases pu with
    | none => exact wpAny_getItem_str_slice (l := none) (u := none) (st := none) ⟨os, hos, hcs, hds⟩ rfl (post_val_or_str ⟨Nat.le_trans (Txt.slice_le u _ _) hz, fun t' k => ep_str I q⟩)
    | int j tj => exact wpAny_getItem_str_slice (l := none) (u := some (j, tj)) (st := none) ⟨os, hos, hcs, hds⟩ rfl (post_val_or_str ⟨Nat.le_trans (Txt.slice_le u _ _) hz, fun t' k => ep_str I q⟩)
  | int i ti =>
    cases pu with
    | none => exact wpAny_getItem_str_slice (l := some (i, ti)) (u := none) (st := none) ⟨os, hos, hcs, hds⟩ rfl (post_val_or_str ⟨Nat.le_trans (Txt.slice_le u _ _) hz, fun t' k => ep_str I q⟩)
    | int j tj => exact wpAny_getItem_str_slice (l := some (i, ti)) (u := some (j, tj)) (st := none) ⟨os, hos, hcs, hds⟩ rfl (post_val_or_str ⟨Nat.le_trans (Txt.slice_le u _ _) hz, fun t' k => ep_str I q⟩)
def rJoin : V → List V → Hp → VK → Prop := fun x xs H Q => ∃ u l ts, x = .str u ∧ xs = [.ref l] ∧ H l = some (.lst (ts.map V.str)) ∧ JoinOk u ts = true ∧ Q (.str (Txt.join u ts)) H
theorem vals_str : ∀ {ts : List Str} {us : List Value}, Vals (ts.map V.str) us → ∃ l : List (Str × Tok), us = strValues l ∧ l.map (·.1) = ts
  | [], _, r => by
    rw [List.map_nil] at r
    cases r
    exact ⟨[], rfl, rfl⟩
  | a :: ts, _, r => by
    rw [List.map_cons] at r
    cases r with
    | cons r1 r2 =>
      obtain ⟨t, rfl⟩ := r1
      obtain ⟨l, rfl, e⟩ := vals_str r2
      exact ⟨(a, t) :: l, rfl, by rw [List.map_cons, e]⟩
theorem mt_join : MtR X "str.join" rJoin := by
  intro pins s σ H x xs v us Q I rx rv h
  obtain ⟨u, l, ts, rfl, rfl, hl, hz, q⟩ := h
  obtain ⟨t, rfl⟩ := rx
  cases rv with
  | cons r1 r2 =>
    cases r2
    cases r1
    obtain ⟨_, its, n, r, e⟩ := I.hok l _ hl
    obtain ⟨ll, rfl, e2⟩ := vals_str r
    exact SC.join (D := l) (l := ll) ⟨_, e, rfl, n, rfl⟩ e2 hz fun t' k => ep_str I q
end
end Bw
set_option Elab.async false
set_option linter.all false
set_option maxRecDepth 100000
set_option maxHeartbeats 1000000
namespace Bw
open PySem PySem.Spec PyProof.Rows L2
/-! ### the readings of comprehensions, texts, tries -/
section
variable {K : PySem.W.Frag} {ta te : TE} {tr : TA} {wi : TI} {ix : List (Option Nat)} {g : TG} {tt : TT} {σ : L2.St} {H : Hp} {Q : VK} {QB : Bool → Hp → Prop}
def CompL (K : PySem.W.Frag) (a : Addr) (g : TG) (tt : TT) (te : TE) (Q : VK) (σ : L2.St) (H : Hp) : Prop := ∃ W : Nat → Nat → List V → L2.St → Hp → Prop, (∃ m, W 0 m [] σ H) ∧ ∀ i m acc σ H, W i m acc σ H →
  ((Itl K a).stop i H ∧ ∀ D, H D = none → Q (.ref D) (L2.upd H D (.lst acc))) ∨
  ((Itl K a).go i H ∧ acc.length < sizeLine ∧ ∃ N : List V → L2.St → Hp → Prop, (∀ acc' σ' H', N acc' σ' H' → ∃ m', m' < m ∧ W (i + 1) m' acc' σ' H') ∧
    ∀ x H', (Itl K a).yld i H x H' → g x σ H' fun σ2 H2 => tt σ2 H2 fun b H3 => if b = true then te σ2 H3 fun y H4 => N (acc ++ [y]) σ2 H4 else N acc σ2 H3)
def CompR (lo : Int) (n : Nat) (g : TG) (tt : TT) (te : TE) (Q : VK) (σ : L2.St) (H : Hp) : Prop := ∃ W : Nat → Nat → List V → L2.St → Hp → Prop, (∃ m, W 0 m [] σ H) ∧ ∀ i m acc σ H, W i m acc σ H →
  ((Itr lo n).stop i H ∧ ∀ D, H D = none → Q (.ref D) (L2.upd H D (.lst acc))) ∨
  ((Itr lo n).go i H ∧ acc.length < sizeLine ∧ ∃ N : List V → L2.St → Hp → Prop, (∀ acc' σ' H', N acc' σ' H' → ∃ m', m' < m ∧ W (i + 1) m' acc' σ' H') ∧
    ∀ x H', (Itr lo n).yld i H x H' → g x σ H' fun σ2 H2 => tt σ2 H2 fun b H3 => if b = true then te σ2 H3 fun y H4 => N (acc ++ [y]) σ2 H4 else N acc σ2 H3)
theorem w_compL : tComp (iList K ta) ix g tt te σ H Q = ta σ H (fun x H1 => ∃ a, x = .ref a ∧ (∃ xs, SqL K H1 a xs) ∧ CompL K a g tt te Q (pick ix σ) H1) := rfl
theorem w_comp1 : tComp (iRng1 tr) ix g tt te σ H Q = tr σ H (fun vs H1 => ∃ j : Int, vs = [.int j] ∧ -(2 ^ 62) ≤ j ∧ j < 2 ^ 62 ∧ CompR 0 j.toNat g tt te Q (pick ix σ) H1) := rfl
theorem w_comp2 : tComp (iRng2 tr) ix g tt te σ H Q = tr σ H (fun vs H1 => ∃ i j : Int, vs = [.int i, .int j] ∧ (-(2 ^ 62) ≤ i ∧ i < 2 ^ 62 ∧ -(2 ^ 62) ≤ j ∧ j < 2 ^ 62) ∧ CompR i (j - i).toNat g tt te Q (pick ix σ) H1) := rfl
theorem w_yes : tYes σ H QB = QB true H := rfl
theorem w_pick0 : pick [] σ = [] := rfl
theorem w_pickN : pick (none :: ix) σ = none :: pick ix σ := rfl
theorem w_pickS {j : Nat} : pick (some j :: ix) σ = ((σ[j]?).getD none) :: pick ix σ := rfl
theorem w_bm {T : String} {r : V → List V → Hp → VK → Prop} : tBM K T r ta tr σ H Q = ta σ H (fun x H1 => tyV K T x H1 ∧ tr σ H1 (fun xs H2 => r x xs H2 Q)) := rfl
theorem w_bm0 {T : String} {r : V → List V → Hp → VK → Prop} : tBM0 K T r ta σ H Q = ta σ H (fun x H1 => tyV K T x H1 ∧ r x [] H1 Q) := rfl
theorem w_tyS {u : Str} : tyV K "str" (.str u) H = True := by simp [tyV]
theorem w_addS {u v : Str} : (∃ i j, V.str u = .str i ∧ V.str v = .str j ∧ i.length + j.length ≤ sizeLine ∧ Q (.str (i ++ j)) H) = (u.length + v.length ≤ sizeLine ∧ Q (.str (u ++ v)) H) := by simp
theorem w_slS {u : Str} {lo hi : Option Int} : rSlS (.str u) lo hi H Q = (u.length ≤ sizeLine ∧ Q (.str (Txt.slice u lo hi)) H) := by simp [rSlS]
theorem w_blkK {X : Cx} {N : List Str} {scope : Scope} {cl : List (Str × Addr)} {C : Addr} {s : Shared} {fp : List Addr} : (blk X N scope cl C s H fp).K = X.K := rfl
theorem CompL.by {a : Addr} {xs : List V} (Pv : Nat → List V → L2.St → Hp → Prop) (hz : xs.length ≤ sizeLine) (h0 : Pv 0 [] σ H) (hl : ∀ i acc σ H, i ≤ xs.length → Pv i acc σ H → SqL K H a xs)
    (hs : ∀ i x acc σ H, xs[i]? = some x → Pv i acc σ H → g x σ H fun σ2 H2 => tt σ2 H2 fun b H3 => if b = true then te σ2 H3 fun y H4 => Pv (i + 1) (acc ++ [y]) σ2 H4 else Pv (i + 1) acc σ2 H3)
    (hacc : ∀ i acc σ H, Pv i acc σ H → acc.length ≤ i) (hd : ∀ acc σ H, Pv xs.length acc σ H → ∀ D, H D = none → Q (.ref D) (L2.upd H D (.lst acc))) : CompL K a g tt te Q σ H := comp_list Pv hz h0 hl hs hacc hd
theorem CompR.by {lo : Int} {n : Nat} (Pv : Nat → List V → L2.St → Hp → Prop) (hz : n ≤ sizeLine) (h0 : Pv 0 [] σ H)
    (hs : ∀ i acc σ H, i < n → Pv i acc σ H → g (.int (lo + i)) σ H fun σ2 H2 => tt σ2 H2 fun b H3 => if b = true then te σ2 H3 fun y H4 => Pv (i + 1) (acc ++ [y]) σ2 H4 else Pv (i + 1) acc σ2 H3)
    (hacc : ∀ i acc σ H, Pv i acc σ H → acc.length ≤ i) (hd : ∀ acc σ H, Pv n acc σ H → ∀ D, H D = none → Q (.ref D) (L2.upd H D (.lst acc))) : CompR lo n g tt te Q σ H := comp_range Pv hz h0 hs hacc hd
theorem ixs {u : Str} {k : Int} {c : Nat} (hz : u.length ≤ sizeLine) (hv : atI u.cps.toList k = some c) (q : Q (.str ⟨#[c]⟩) H) : rIxS (.str u) (.int k) H Q := ⟨u, k, c, rfl, rfl, hz, hv, q⟩
end
theorem gl_of {X : Cx} {x : Str} (h : X.env.kindOf x = some .globalImplicit) : Gl X x := h
/-! ### a display of texts, read at once -/
def tStrs (xs : List Str) : TA := fun _ H Q => Q (xs.map V.str) H
theorem w_strs {xs : List Str} {σ : L2.St} {H : Hp} {Q : List V → Hp → Prop} : tStrs xs σ H Q = Q (xs.map V.str) H := rfl
/-! ### the draws of the later laws: a list of three whole numbers -/
def Well3 (H : Hp) (w : Addr) : Prop := ∃ a b c : Int, H w = some (.lst [.int a, .int b, .int c])
theorem Well3.same {H H' : Hp} {w : Addr} (W : Well3 H w) (s : Same H H') : Well3 H' w := by
  obtain ⟨a, b, c, h⟩ := W
  exact ⟨a, b, c, s _ _ h⟩
theorem Well3.ne {H : Hp} {w p : Addr} (W : Well3 H w) (h : H p = none) : p ≠ w := by
  obtain ⟨a, b, c, e⟩ := W
  exact (ne_of_none e h).symm
/-! ### names -/
def goodN (u : Str) : Prop := 1 ≤ u.length ∧ u.length ≤ 8 ∧ ∀ c ∈ u.cps.toList, 97 ≤ c ∧ c ≤ 122
instance (u : Str) : Decidable (goodN u) := by unfold goodN; infer_instance
def letters : Str := "abcdefghijklmnopqrstuvwxyz"
theorem letter_at {i : Int} (h0 : 0 ≤ i) (h1 : i < 26) : ∃ c, atI letters.cps.toList i = some c ∧ 97 ≤ c ∧ c ≤ 122 := by
  have h : ∀ k : Fin 26, ∃ c, c < 123 ∧ atI letters.cps.toList ((k.val : Nat) : Int) = some c ∧ 97 ≤ c ∧ c ≤ 122 := by
    intro k
    refine ⟨97 + k.val, ?_⟩
    revert k
    decide +kernel
  obtain ⟨c, _, e, q⟩ := h ⟨i.toNat, by omega⟩
  have e2 : ((i.toNat : Nat) : Int) = i := by omega
  rw [e2] at e
  exact ⟨c, e, q⟩
theorem join_one : ∀ ts : List Str, (∀ t ∈ ts, ∃ c, t = ⟨#[c]⟩ ∧ 97 ≤ c ∧ c ≤ 122) → (Str.join Str.empty ts).length = ts.length ∧ ∀ c ∈ (Str.join Str.empty ts).cps.toList, 97 ≤ c ∧ c ≤ 122
  | [], _ => ⟨rfl, fun c hc => by cases hc⟩
  | [x], h => by
    obtain ⟨c, rfl, q⟩ := h x List.mem_cons_self
    refine ⟨rfl, fun c' hc => ?_⟩
    have e : c' = c := by simpa [Str.join] using hc
    subst e
    exact q
  | x :: y :: r, h => by
    obtain ⟨i1, i2⟩ := join_one (y :: r) fun t ht => h t (List.mem_cons_of_mem _ ht)
    obtain ⟨c, rfl, q⟩ := h x List.mem_cons_self
    show ((⟨#[c]⟩ : Str) ++ Str.empty ++ Str.join Str.empty (y :: r)).length = _ ∧ ∀ c' ∈ ((⟨#[c]⟩ : Str) ++ Str.empty ++ Str.join Str.empty (y :: r)).cps.toList, _
    refine ⟨?_, fun c' hc => ?_⟩
    · rw [Str.length_append, Str.length_append, i1]
      show 1 + 0 + (y :: r).length = (y :: r).length + 1
      omega
    · have hc' : c' ∈ ((#[c] ++ #[]) ++ (Str.join Str.empty (y :: r)).cps).toList := hc
      rw [Array.toList_append] at hc'
      rcases List.mem_append.mp hc' with z | z
      · have e : c' = c := by simpa using z
        subst e
        exact q
      · exact i2 c' z
theorem join_good {ts : List Str} (h : ∀ t ∈ ts, ∃ c, t = ⟨#[c]⟩ ∧ 97 ≤ c ∧ c ≤ 122) (h1 : 1 ≤ ts.length) (h8 : ts.length ≤ 8) : JoinOk Str.empty ts = true ∧ goodN (Txt.join Str.empty ts) := by
  obtain ⟨i1, i2⟩ := join_one ts h
  have hj : Txt.join Str.empty ts = Str.join Str.empty ts := StrLaws.glued_eq_join _ _
  refine ⟨?_, ?_⟩
  · unfold JoinOk Builtin.Str.tooLong
    rw [StrLaws.joinTotal]
    have hs : ∀ l : List Str, (∀ t ∈ l, ∃ c, t = ⟨#[c]⟩ ∧ 97 ≤ c ∧ c ≤ 122) → (l.map (·.length)).sum = l.length := by
      intro l
      induction l with
      | nil => intro _; rfl
      | cons x r ih =>
        intro hl
        obtain ⟨c, rfl, _⟩ := hl x List.mem_cons_self
        rw [List.map_cons, List.sum_cons, ih fun t ht => hl t (List.mem_cons_of_mem _ ht), List.length_cons]
        show 1 + r.length = r.length + 1
        omega
    rw [hs ts h]
    have e : Str.empty.length = 0 := rfl
    rw [e]
    have z : (1000 : Nat) < sizeLine := by decide
    rw [Bool.not_eq_true', decide_eq_false_iff_not]
    omega
  · rw [hj]
    exact ⟨by omega, by omega, i2⟩
end Bw
set_option Elab.async false
set_option linter.all false
set_option maxRecDepth 100000
set_option maxHeartbeats 1000000
namespace Bw
open PySem PySem.Spec PyProof.Rows L2
/-! ### own classes: made, asked, of one kind or several -/
/-- a class with an __init__ -/
structure CalC (P : Program) (w : World) (K : PySem.W.Frag) (mg : Str → Option Value) (base : Heap) (x : Str) (C : Addr) (ps : List Str) (k : Nat) (sp : Sp) : Prop where
  ex : ∃ f fd, FnOk P w K mg base (CXF P w) k f fd ps sp ∧ Binds K fd ps [] ∧ Mk K C f ∧ mg x = some (.ref C)
/-- a method of a class -/
structure CalM (P : Program) (w : World) (K : PySem.W.Frag) (mg : Str → Option Value) (base : Heap) (C : Addr) (m : Str) (ps : List Str) (k : Nat) (sp : Sp) : Prop where
  ex : ∃ f fd, FnOk P w K mg base (CXF P w) k f fd ps sp ∧ Binds K fd ps [] ∧ Meth K C m f ∧ Cls K C
section
variable {X : Cx} {x m : Str} {C : Addr} {ps : List Str} {k : Nat} {sp : Sp} {e o : Expr} {es : List Expr} {ta : TE} {t : TA} {p pos apos : Pos} {E : XK}
/-- one of several methods of this name, as the thing's class has it -/
def tMethD (Mm : Addr → Sp → Prop) (m : Str) (E : XK) (ta : TE) (t : TA) : TE := fun σ H Q => ta σ H fun x H1 => ∃ a C dx fs sp, x = .ref a ∧ H1 a = some (.ins C dx fs) ∧ fs.lookup m = none ∧ Mm C sp ∧
  t σ H1 fun vs H2 => sp (x :: vs) H2 Q E
theorem w_methD {Mm : Addr → Sp → Prop} {σ : L2.St} {H : Hp} {Q : VK} : tMethD Mm m E ta t σ H Q = ta σ H (fun x H1 => ∃ a C dx fs sp, x = .ref a ∧ H1 a = some (.ins C dx fs) ∧ fs.lookup m = none ∧ Mm C sp ∧
  t σ H1 fun vs H2 => sp (x :: vs) H2 Q E) := rfl
/-! ### a class without an __init__ -/
structure MkN (K : PySem.W.Frag) (C : Addr) : Prop where
  makes : PySem.W.makesIn K C = true
  init : PySem.W.findIn K (.ref C) "__init__" = some (some (.builtin "object.__init__"))
  kp : PySem.W.keepIn K (.ref C) = true
def tMakeN (C : Addr) : TE := fun _ H Q => ∀ x dx, H x = none → H dx = none → dx ≠ x → Q (.ref x) (L2.upd (L2.upd H dx (.own x)) x (.ins C dx []))
theorem w_makeN {σ : L2.St} {H : Hp} {Q : VK} : tMakeN C σ H Q = ∀ x dx, H x = none → H dx = none → dx ≠ x → Q (.ref x) (L2.upd (L2.upd H dx (.own x)) x (.ins C dx [])) := rfl
end
/-! ### isinstance of anything, by one class -/
/-! ### == and != of two lists, or two tuples, of plain things -/
section
variable {X : Cx}
end
/-! ### readings -/
section
variable {K : PySem.W.Frag} {C : Addr} {sp : Sp} {dvs : List V} {E : XK} {ta tv : TE} {t : TA} {f : Str} {σ : L2.St} {H : Hp} {Q : VK} {D : Ends} {n : Nat} {ts : TGs} {v : V} {QS : L2.St → Hp → Prop} {g : TG}
theorem w_make : tMake C sp dvs E t σ H Q = t σ H (fun vs H1 => ∀ x dx, H1 x = none → H1 dx = none → dx ≠ x →
  sp (.ref x :: (vs ++ dvs)) (L2.upd (L2.upd H1 dx (.own x)) x (.ins C dx [])) (fun v H2 => v = .non ∧ Q (.ref x) H2) E) := rfl
theorem w_fld : tFld K ta f σ H Q = ta σ H (fun x H1 => ∃ a C dx fs v, x = .ref a ∧ H1 a = some (.ins C dx fs) ∧ Cls K C ∧ NoAttr K C f ∧ fs.lookup f = some v ∧ Q v H1) := rfl
theorem w_gTup : gTup K n ts v σ H QS = ∃ a xs, v = .ref a ∧ SqT K H a xs ∧ xs.length = n ∧ ts xs σ H QS := rfl
theorem w_gCons {vs : List V} : gCons g ts vs σ H QS = ∃ v r, vs = v :: r ∧ g v σ H (fun σ' H' => ts r σ' H' QS) := rfl
theorem w_sFld : sFld K ta tv f D σ H = tv σ H (fun y H1 => ta σ H1 (fun x H2 => ∃ a C dx fs, x = .ref a ∧ H2 a = some (.ins C dx fs) ∧ Cls K C ∧ NoAttr K C f ∧ fs.length < 1000 ∧
  D.nx σ (L2.upd H2 a (.ins C dx (putF f y fs))))) := rfl
theorem w_gNil {vs : List V} : gNil vs σ H QS = (vs = [] ∧ QS σ H) := rfl
end
end Bw
namespace Bw
open PySem PySem.Spec PyProof.Rows L2
section
variable {X : Cx} {x : Str} {ps : List Str} {k : Nat} {sp : Sp} {p pos : Pos}
end
theorem made_same {H : Hp} {x dx : Addr} {o o' : HO} (hx : H x = none) (hd : H dx = none) : Same H (L2.upd (L2.upd H dx o) x o') := fun b u q => by
  rw [upd_ne (ne_of_none q hx), upd_ne (ne_of_none q hd)]
  exact q
/-- what isinstance needs of a class -/
structure ClsK (K : PySem.W.Frag) (C : Addr) : Prop where
  cl : Cls K C
  ha : PySem.W.findIn K (.ref C) "__class__" = some (some (.builtin "object.__class__"))
  hn : PySem.W.specialIn K (.builtin "object.__class__") "__get__" = some (some (.builtin "getset_descriptor.__get__"))
  ht : PySem.W.takesIn K (.builtin "object.__class__") = some true
  hm : PySem.W.mroIn K C (.type "object") = some true
theorem ClsK.ty {K : PySem.W.Frag} {C : Addr} (c : ClsK K C) {H : Hp} {a dx : Addr} {fs : List (Str × V)} (e : H a = some (.ins C dx fs)) : TyOf K H (.ref a) (.ref C) := .ins e c.cl c.ha c.hn c.ht c.hm
end Bw
set_option Elab.async false
set_option linter.all false
set_option maxRecDepth 100000
set_option maxHeartbeats 1000000
namespace Bw
open PySem PySem.Spec PyProof.Rows L2
/-! ### arguments and displays, quickly: no star is told by the node alone -/
def isStar : Expr → Bool
  | .Starred _ _ => true
  | _ => false
theorem star_plain : ∀ (e : Expr) (es : List Expr) (env : Env), isStar e = false → starEach (e :: es) env = (false, eval e env) :: starEach es env := by
  intro e es env h
  cases e <;> first | rfl | (cases h)
def noStar : List Expr → Bool
  | [] => true
  | e :: r => !isStar e && noStar r
theorem plain_any {pos : Pos} {env : Env} : ∀ {es : List Expr}, noStar es = true → (backTo pos (starEach es env)).any (·.1) = false
  | [], _ => rfl
  | e :: r, h => by
    have h' : (!isStar e) = true ∧ noStar r = true := by simpa [noStar] using h
    rw [star_plain e r env (by simpa using h'.1)]
    have ih := plain_any (pos := pos) (env := env) h'.2
    have e1 : backTo pos ((false, eval e env) :: starEach r env) = (false, eval e env) :: backTo pos (starEach r env) := rfl
    rw [e1, List.any_cons, ih]
    rfl
theorem pa_c {X : Cx} {e : Expr} {es : List Expr} {te : TE} {t : TA} (ha : PE X e te) (hr : PA X es t) (hs : isStar e = false := by rfl) : PA X (e :: es) (tCons te t) := pa_cons ha hr (star_plain e es X.env hs)
/-- the same, as a thing of its own: the elaborator does not open it -/
structure QA (X : Cx) (es : List Expr) (t : TA) : Prop where
  h : PA X es t
theorem qa_nil {X : Cx} : QA X [] tNil := ⟨pa_nil⟩
theorem qa_c {X : Cx} {e : Expr} {es : List Expr} {te : TE} {t : TA} (ha : PE X e te) (hr : QA X es t) (hs : isStar e = false := by rfl) : QA X (e :: es) (tCons te t) := ⟨pa_c ha hr.h hs⟩
theorem pa_of {X : Cx} {es : List Expr} {t : TA} (h : QA X es t) : PA X es t := h.h
end Bw
set_option Elab.async false
set_option linter.all false
set_option maxRecDepth 100000
set_option maxHeartbeats 1000000
namespace Bw
open PySem PySem.Spec PyProof.Rows L2
def wholeV : V → Bool
  | .int _ => true
  | _ => false
def betwV (x : V) (lo hi : Int) : Bool := match x with
  | .int i => decide (lo ≤ i) && decide (i ≤ hi)
  | _ => false
def fromV (x : V) (lo : Int) : Bool := match x with
  | .int i => decide (lo ≤ i)
  | _ => false
theorem okV.same {H H' : Hp} {x : V} (h : okV H x) (s : Same H H') : okV H' x := by
  cases x with
  | ref a =>
    rcases h with ⟨xs, e⟩ | ⟨xs, e⟩
    · exact .inl ⟨xs, s _ _ e⟩
    · exact .inr ⟨xs, s _ _ e⟩
  | non => trivial
  | bl _ => trivial
  | int _ => trivial
  | str _ => trivial
  | _ => exact h.elim
theorem okV.lst {H : Hp} {p : Addr} {xs : List V} (h : H p = some (.lst xs)) : okV H (.ref p) := .inl ⟨_, h⟩
theorem okV.tup {H : Hp} {p : Addr} {xs : List V} (h : H p = some (.tup xs)) : okV H (.ref p) := .inr ⟨_, h⟩
/-- a statement, then the rest, with a word between the two -/
def tCut (t u : TS) : TS := fun D σ H => ∃ M : L2.St → Hp → Prop, t { D with nx := M } σ H ∧ ∀ σ' H', M σ' H' → u D σ' H'
theorem w_cut {t u : TS} {D : Ends} {σ : L2.St} {H : Hp} : tCut t u D σ H = ∃ M : L2.St → Hp → Prop, t { D with nx := M } σ H ∧ ∀ σ' H', M σ' H' → u D σ' H' := rfl
theorem pss_cut {X : Cx} {st : Stmt} {rest : List Stmt} {t u : TS} (h1 : PS X st t) (h2 : PSs X rest u) : PSs X (st :: rest) (tCut t u) := by
  intro pins s σ H D I h
  obtain ⟨M, ha, hb⟩ := h
  refine wpAny_execs_cons (thn (h1 pins s σ H { D with nx := M } I ha) fun f s1 q => ?_)
  cases f with
  | next =>
    obtain ⟨σ', H', I', q⟩ := q
    exact h2 pins s1 σ' H' D I' (hb _ _ q)
  | ret v => exact q
  | brk => exact q
  | cont => exact q
end Bw
set_option Elab.async false
set_option linter.all false
set_option maxRecDepth 100000
set_option maxHeartbeats 1000000
namespace Bw
open PySem PySem.Spec PyProof.Rows L2
/-! ### the signs of a plain text, one after the other -/
def plainS (u : Str) : Bool := u.cps.all (· < 128)
def Its (u : Str) : It := ⟨fun i _ => i < u.cps.size, fun i H x H' => H' = H ∧ ∃ c, u.cps[i]? = some c ∧ x = .str ⟨#[c]⟩, fun i _ => u.cps.size ≤ i⟩
theorem turn_str {P : Program} {w : World} {K : PySem.W.Frag} {tg : Expr} (u : Str) (t : Tok) (it : Addr) : Turn P w K tg (Its u) [it] it (fun i h => h.IsStrIter it "str_ascii_iterator" u t i) where
  mem := by simp
  obj := fun i h st b hb => by
    have e : b = it := by simpa using hb
    subst e
    obtain ⟨o, e, c, d⟩ := st
    exact ⟨o, e, fun v z => by rw [d] at z; cases z⟩
  keep := fun i h h' st k => by
    obtain ⟨o, e, c, d⟩ := st
    exact ⟨o, k it (by simp) o e, c, d⟩
  item := by
    intro X hP hw hK hc i pins s σ H E I hf st hg
    subst hP hw hK
    have hx : u.cps[i]? = some u.cps[i] := Array.getElem?_eq_getElem hg
    obtain ⟨f0, f1, f2, f3, f4, f5⟩ := hf it (by simp)
    refine wpAny_pyNext_ascii_item st hx fun h' st' sb => ?_
    have I1 : Inv X pins σ H { s with heap := h', toks := s.toks + 1 } := I.turned (t' := s.toks + 1) (fun b o hb e => (sb.2 b hb).trans e) f0 f1 f3 f4 f5
    obtain ⟨o, e, c, d⟩ := id st'
    exact ⟨_, rfl, go_of (s := { s with heap := h', toks := s.toks + 1 }) e c d (by decide) ⟨.str ⟨#[u.cps[i]]⟩, H, I1, ⟨_, rfl⟩, ⟨rfl, _, hx, rfl⟩, st', fun b hb => (hf b hb).1⟩⟩
  done := by
    intro X hP hw hK hc i pins s σ H E I hf st hg
    subst hP hw hK
    obtain ⟨f0, f1, f2, f3, f4, f5⟩ := hf it (by simp)
    exact wpAny_pyNext_ascii_end (I.ok.hd hc) st (Array.getElem?_eq_none hg) fun h' eb => ⟨rfl, I.turned (t' := s.toks) (fun b o hb e => eb b o hb e) f0 f1 f3 f4 f5⟩
  self := fun _ _ _ _ _ st h => wpAny_pyIter_striter_ascii st h
def iStr (tl : TE) : TI := fun σ H R => tl σ H fun x H1 => ∃ u, x = .str u ∧ plainS u = true ∧ R (Its u) H1
theorem pi_str {X : Cx} {tg l : Expr} {tl : TE} (hl : PE X l tl) : PI X tg l (iStr tl) := by
  intro pins s σ H R I h
  refine thn (hl pins s σ H _ I h) fun v s1 ⟨x, H1, I1, r1, q1⟩ => ?_
  obtain ⟨u, e, hp, q⟩ := q1
  subst e
  obtain ⟨t, rfl⟩ := r1
  refine wpAny_pyIter_ascii hp ?_
  refine ⟨s1.heap.objs.size, [s1.heap.objs.size], _, _, H1, rfl, I1.kept (t' := s1.toks) fun b o e => Heap.get?_push_of_some _ e, turn_str u t _, ⟨_, Heap.get?_push_size _ rfl, rfl, rfl⟩, fun b hb => ?_, q⟩
  have e : b = s1.heap.objs.size := by simpa using hb
  subst e
  exact I1.fpOk (Nat.le_refl _) (I1.hok.fresh (Nat.le_refl _))
section
variable {K : PySem.W.Frag} {ta te : TE} {ix : List (Option Nat)} {g : TG} {tt : TT} {σ : L2.St} {H : Hp} {Q : VK}
def CompS (u : Str) (g : TG) (tt : TT) (te : TE) (Q : VK) (σ : L2.St) (H : Hp) : Prop := ∃ W : Nat → Nat → List V → L2.St → Hp → Prop, (∃ m, W 0 m [] σ H) ∧ ∀ i m acc σ H, W i m acc σ H →
  ((Its u).stop i H ∧ ∀ D, H D = none → Q (.ref D) (L2.upd H D (.lst acc))) ∨
  ((Its u).go i H ∧ acc.length < sizeLine ∧ ∃ N : List V → L2.St → Hp → Prop, (∀ acc' σ' H', N acc' σ' H' → ∃ m', m' < m ∧ W (i + 1) m' acc' σ' H') ∧
    ∀ x H', (Its u).yld i H x H' → g x σ H' fun σ2 H2 => tt σ2 H2 fun b H3 => if b = true then te σ2 H3 fun y H4 => N (acc ++ [y]) σ2 H4 else N acc σ2 H3)
theorem w_compS : tComp (iStr ta) ix g tt te σ H Q = ta σ H (fun x H1 => ∃ u, x = .str u ∧ plainS u = true ∧ CompS u g tt te Q (pick ix σ) H1) := rfl
theorem CompS.by {u : Str} (Pv : Nat → List V → L2.St → Hp → Prop) (hz : u.cps.size ≤ sizeLine) (h0 : Pv 0 [] σ H)
    (hs : ∀ i c acc σ H, u.cps[i]? = some c → Pv i acc σ H → g (.str ⟨#[c]⟩) σ H fun σ2 H2 => tt σ2 H2 fun b H3 => if b = true then te σ2 H3 fun y H4 => Pv (i + 1) (acc ++ [y]) σ2 H4 else Pv (i + 1) acc σ2 H3)
    (hacc : ∀ i acc σ H, Pv i acc σ H → acc.length ≤ i) (hd : ∀ acc σ H, Pv u.cps.size acc σ H → ∀ D, H D = none → Q (.ref D) (L2.upd H D (.lst acc))) : CompS u g tt te Q σ H := by
  refine ⟨fun i m acc σ H => m = u.cps.size - i ∧ i ≤ u.cps.size ∧ Pv i acc σ H, ⟨u.cps.size, by simp, Nat.zero_le _, h0⟩, ?_⟩
  rintro i m acc σ H ⟨rfl, hi, p⟩
  have ha := hacc i acc σ H p
  by_cases hlt : i < u.cps.size
  · refine .inr ⟨hlt, by omega, Pv (i + 1), fun acc' σ' H' p' => ⟨u.cps.size - (i + 1), by omega, rfl, hlt, p'⟩, fun x H' y => ?_⟩
    obtain ⟨e, c, hc, y⟩ := y
    subst e y
    exact hs i c acc σ _ hc p
  · have e : i = u.cps.size := by omega
    subst e
    exact .inl ⟨Nat.le_refl _, hd acc σ H p⟩
end
/-! ### all of a list of truths -/
theorem bools_at : ∀ {bs : List Bool} {its : List Value}, Vals (bs.map V.bl) its → ∀ (i : Nat) (v : Value), its[i]? = some v → ∃ b : Bool, bs[i]? = some b ∧ v = Value.bool b
  | [], _, r, i, v, h => by
    rw [List.map_nil] at r
    cases r
    simp at h
  | b :: bs, _, r, i, v, h => by
    rw [List.map_cons] at r
    cases r with
    | cons r1 r2 =>
      cases i with
      | zero =>
        simp at h
        subst h
        exact ⟨b, rfl, r1⟩
      | succ i => exact bools_at r2 i v (by simpa using h)
theorem call_all {X : Cx} (hc : X.calm = true) : CallR X (.builtin "all") (fun xs H Q => ∃ (a : Addr) (bs : List Bool), xs = [.ref a] ∧ SqL X.K H a (bs.map V.bl) ∧ Q (.bl (bs.all id)) H) := by
  intro pins s σ H xs us Q I r h
  obtain ⟨a, bs, rfl, hS, q⟩ := h
  obtain ⟨u, rfl, ru⟩ := vals1 r
  cases ru
  obtain ⟨its, rv, pl, hz⟩ := I.list hS
  have hl : s.heap.IsList a its.toArray := pl.isList
  have hlt : a < s.heap.objs.size := by obtain ⟨_, e, _⟩ := hl; exact Heap.lt_size e
  refine call_all_walk (wpAny_pyIter_list hl ?_)
  refine ⟨s.heap.objs.size, [s.heap.objs.size, a], [s.heap.objs.size], its.toArray.size, _, _, fun i => (bs[i]?).getD true, rfl, Walks.list (A := X.A.in1) (I.ok.hd hc) _ a (Nat.ne_of_lt hlt) its.toArray,
    ⟨⟨_, Heap.get?_push_size _ rfl, rfl, rfl⟩, hl.push _⟩, fun i v s' Q' E' hP hQ => ?_, fun h' tk hk => ?_⟩
  · obtain ⟨b, e, rfl⟩ := bools_at rv i v (by simpa using hP)
    simp only [e, Option.getD_some] at hQ
    exact wpAny_truthy_bool hQ
  · have hn : its.toArray.size = bs.length := by
      have := rv.length
      rw [List.length_map] at this
      simpa using this.symm
    have e : ((List.range its.toArray.size).all fun i => (bs[i]?).getD true) = bs.all id := by
      rw [hn, Bool.eq_iff_iff, List.all_eq_true, List.all_eq_true]
      constructor
      · intro z b hb
        obtain ⟨i, hi, rfl⟩ := List.getElem_of_mem hb
        have := z i (List.mem_range.mpr hi)
        simpa [List.getElem?_eq_getElem hi] using this
      · intro z i hi
        have hi' := List.mem_range.mp hi
        simp only [List.getElem?_eq_getElem hi', Option.getD_some]
        exact z _ (List.getElem_mem hi')
    rw [e]
    refine ⟨.bl _, H, I.kept (t' := tk) fun b o eb => hk b o (fun hm => by rw [List.mem_singleton.mp hm] at eb; exact Nat.lt_irrefl _ (Heap.lt_size eb)) (Heap.get?_push_of_some _ eb), rfl, q⟩
/-! ### what is a name may be asked of -/
def okN (H : Hp) : V → Prop
  | .non => True
  | .bl _ => True
  | .int _ => True
  | .str u => plainS u = true ∧ u.length ≤ 1000
  | .ref a => (∃ xs, H a = some (.lst xs)) ∨ (∃ xs, H a = some (.tup xs)) ∨ ∃ kvs, H a = some (.dK kvs)
  | _ => False
def isStrV : V → Bool
  | .str _ => true
  | _ => false
theorem okN.ty {K : PySem.W.Frag} {H : Hp} {x : V} (h : okN H x) : ∃ T, TyOf K H x (.type T) ∧ PySem.W.kitOne K (.type T) (.type "str") = some (isStrV x) := by
  cases x with
  | non => exact ⟨_, .non, by kernel_rfl⟩
  | bl b => exact ⟨_, .bl b, by kernel_rfl⟩
  | int i => exact ⟨_, .int i, by kernel_rfl⟩
  | str i => exact ⟨_, .str i, by kernel_rfl⟩
  | ref a =>
    rcases h with ⟨xs, e⟩ | ⟨xs, e⟩ | ⟨xs, e⟩
    · exact ⟨_, .lst e, by kernel_rfl⟩
    · exact ⟨_, .tup e, by kernel_rfl⟩
    · exact ⟨_, .dK e, by kernel_rfl⟩
  | _ => exact h.elim
theorem call_isi_str {X : Cx} : CallR X (.builtin "isinstance") (fun xs H Q => ∃ x, xs = [x, .ty "str"] ∧ okN H x ∧ Q (.bl (isStrV x)) H) := by
  intro pins s σ H xs us Q I r h
  obtain ⟨x, rfl, ok, q⟩ := h
  obtain ⟨T, ty, e⟩ := ok.ty (K := X.K)
  exact isi_gen I r ty e q
theorem okN.same {H H' : Hp} {x : V} (h : okN H x) (s : Same H H') : okN H' x := by
  cases x with
  | ref a =>
    rcases h with ⟨xs, e⟩ | ⟨xs, e⟩ | ⟨xs, e⟩
    · exact .inl ⟨xs, s _ _ e⟩
    · exact .inr (.inl ⟨xs, s _ _ e⟩)
    · exact .inr (.inr ⟨xs, s _ _ e⟩)
  | non => trivial
  | bl _ => trivial
  | int _ => trivial
  | str _ => exact h
  | _ => exact h.elim
theorem okN.but {H H' : Hp} {x : V} {w : Addr} (h : okN H x) (W : Well3 H' w) (s : But w H H') : okN H' x := by
  cases x with
  | ref a =>
    by_cases ha : a = w
    · obtain ⟨b, c, d, q⟩ := W
      exact .inl ⟨_, by rw [ha]; exact q⟩
    · rcases h with ⟨xs, e⟩ | ⟨xs, e⟩ | ⟨xs, e⟩
      · exact .inl ⟨xs, s _ _ ha e⟩
      · exact .inr (.inl ⟨xs, s _ _ ha e⟩)
      · exact .inr (.inr ⟨xs, s _ _ ha e⟩)
  | non => trivial
  | bl _ => trivial
  | int _ => trivial
  | str _ => exact h
  | _ => exact h.elim
def nameB : V → Bool
  | .str u => decide (goodN u)
  | _ => false
/-- one sign of a plain text, among the letters -/
theorem in_letters {c : Nat} (h : c < 128) : (!(Builtin.Str.occurrences letters ⟨#[c]⟩ 0 letters.length 1).isEmpty) = decide (97 ≤ c ∧ c ≤ 122) := by
  have q : ∀ k : Fin 128, (!(Builtin.Str.occurrences letters ⟨#[k.val]⟩ 0 letters.length 1).isEmpty) = decide (97 ≤ k.val ∧ k.val ≤ 122) := by decide +kernel
  exact q ⟨c, h⟩
/-! ### texts that are no names -/
def LetS (u : Str) : Prop := ∀ c ∈ u.cps.toList, 97 ≤ c ∧ c ≤ 122
def Sm (u : Str) : Prop := plainS u = true ∧ u.length ≤ 100
theorem plain_iff {u : Str} : plainS u = true ↔ ∀ c ∈ u.cps.toList, c < 128 := by
  unfold plainS
  rw [Array.all_eq_true']
  constructor
  · intro h c hc
    have := h c (by simpa using hc)
    simpa using this
  · intro h c hc
    have := h c (by simpa using hc)
    simpa using this
theorem LetS.plain {u : Str} (h : LetS u) : plainS u = true := plain_iff.mpr fun c hc => by have := h c hc; omega
theorem good_let {u : Str} (h : goodN u) : LetS u := h.2.2
theorem good_sm {u : Str} (h : goodN u) : Sm u := ⟨(good_let h).plain, by have := h.2.1; omega⟩
theorem slice_mem {u : Str} {l r : Option Int} {c : Nat} (h : c ∈ (Txt.slice u l r).cps.toList) : c ∈ u.cps.toList := by
  unfold Txt.slice at h
  split at h
  · exact h
  · simp only [List.mem_filterMap] at h
    obtain ⟨i, _, e⟩ := h
    exact Array.mem_toList_iff.mpr (Array.mem_of_getElem? e)
theorem app_toList (u v : Str) : (u ++ v).cps.toList = u.cps.toList ++ v.cps.toList := by
  show (u.cps ++ v.cps).toList = _
  rw [Array.toList_append]
def badC (u : Str) : Prop := ∃ c ∈ u.cps.toList, ¬ (97 ≤ c ∧ c ≤ 122)
instance (u : Str) : Decidable (badC u) := by unfold badC; infer_instance
theorem badC.no {u : Str} (h : badC u) : ¬ goodN u := fun g => by
  obtain ⟨c, hc, n⟩ := h
  exact n (g.2.2 c hc)
theorem badC.l {u : Str} (h : badC u) (v : Str) : badC (u ++ v) := by
  obtain ⟨c, hc, n⟩ := h
  exact ⟨c, by rw [app_toList]; exact List.mem_append.mpr (.inl hc), n⟩
theorem badC.r {v : Str} (h : badC v) (u : Str) : badC (u ++ v) := by
  obtain ⟨c, hc, n⟩ := h
  exact ⟨c, by rw [app_toList]; exact List.mem_append.mpr (.inr hc), n⟩
/-- is_name tells the truth -/
theorem name_all {u : Str} (h : plainS u = true) : (u.cps.toList.map fun c => !(Builtin.Str.occurrences letters ⟨#[c]⟩ 0 letters.length 1).isEmpty).all id = decide (∀ c ∈ u.cps.toList, 97 ≤ c ∧ c ≤ 122) := by
  rw [Bool.eq_iff_iff, List.all_eq_true, decide_eq_true_eq]
  constructor
  · intro z c hc
    have q := z _ (List.mem_map.mpr ⟨c, hc, rfl⟩)
    rw [in_letters (plain_iff.mp h c hc)] at q
    simpa using q
  · intro z b hb
    obtain ⟨c, hc, rfl⟩ := List.mem_map.mp hb
    rw [in_letters (plain_iff.mp h c hc)]
    simpa using z c hc
theorem good_str {u : Str} (g : goodN u) : PyData.strOk u = true := by
  unfold PyData.strOk
  rw [Array.all_eq_true']
  intro c hc
  have := g.2.2 c (by simpa using hc)
  simp only [decide_eq_true_eq]
  omega
/-! ### try: C(..) -/
section
variable {X : Cx} {x : Str} {C : Addr} {ps : List Str} {k : Nat} {sp : Sp} {e : Expr} {es : List Expr} {t : TA} {p pos : Pos}
variable {K : PySem.W.Frag} {σ : L2.St} {H : Hp} {Q : VK} {D : Ends} {CB : Addr} {i : Nat} {tb : XK → TS} {ts : TS} {E : XK} {dvs : List V}
theorem w_tryB : tTryB K CB i tb ts D σ H = tb (fun cls _ H2 => PySem.W.exmOne K cls (.ref CB) = some true ∧
  ∀ x, H2 x = none → ts { nx := fun σ' H3 => D.nx (σ'.set i none) H3, rt := D.rt, bk := fun σ' H3 => D.bk (σ'.set i none) H3, ct := fun σ' H3 => D.ct (σ'.set i none) H3 } (σ.set i (some (.ref x))) (L2.upd H2 x (hoExc x cls))) D σ H := rfl
theorem w_bmake : tBMake C sp dvs t E σ H Q = t σ H (fun vs H1 => ∀ x dx, H1 x = none → H1 dx = none → dx ≠ x →
  sp (.ref x :: (vs ++ dvs)) (L2.upd (L2.upd H1 dx (.own x)) x (.ins C dx [])) (fun v H2 => v = .non ∧ Q (.ref x) H2) E) := rfl
def tNoKeys : TE := fun _ H0 Q0 => ∀ d, H0 d = none → Q0 (.ref d) (L2.upd H0 d (.dK []))
theorem w_noKeys : tNoKeys σ H Q = ∀ d, H d = none → Q (.ref d) (L2.upd H d (.dK [])) := rfl
end
end Bw
set_option Elab.async false
set_option linter.all false
set_option maxRecDepth 100000
set_option maxHeartbeats 1000000
namespace Bw
open PySem PySem.Spec PyProof.Rows L2
/-! ### what is said of expressions and statements, as things of their own: the elaborator does not open them -/
structure QE (X : Cx) (e : Expr) (t : TE) : Prop where
  h : PE X e t
structure QS (X : Cx) (st : Stmt) (t : TS) : Prop where
  h : PS X st t
structure QSs (X : Cx) (sts : List Stmt) (t : TS) : Prop where
  h : PSs X sts t
section
variable {X : Cx} {e a b c : Expr} {es : List Expr} {st : Stmt} {rest sa sb : List Stmt} {te ta tb : TE} {tl : TA} {tc : TT} {t u : TS} {pos pos' : Pos} {x : Str} {i : Nat}
theorem qe_of (h : PE X e te) : QE X e te := ⟨h⟩
theorem qs_of (h : PS X st t) : QS X st t := ⟨h⟩
theorem pss_of (h : QSs X rest t) : PSs X rest t := h.h
theorem qe_lst (h : QA X es tl) : QE X (.List es pos) (tLst tl) := ⟨pe_lst h.h⟩
theorem qe_ix {r : R2} (hr : IxR X r) (ha : QE X a ta) (hb : QE X b tb) (hs : PlainIx b) : QE X (.Subscript a b pos) (tOp r ta tb) := ⟨pe_ix hr ha.h hb.h hs⟩
theorem qs_ret (he : QE X e te) : QS X (.Return (some e) pos) (tRet te) := ⟨ps_ret he.h⟩
theorem qs_set (hN : X.N.Nodup) (hi : X.N[i]? = some x) (hx : Loc X.env.scope x) (he : QE X e te) (hs : swapsWith e (some (.Name x pos')) pos.line X.env = pure false) (hf : X.fn x = true ∨ X.env.scope.names.lookup x = some .local := by first | exact .inl rfl | exact .inr rfl | assumption) :
    QS X (.Assign [.Name x pos'] e pos) (tAsg te (gName i)) := ⟨ps_set hN hi hx he.h hs hf⟩
theorem qs_if (hc : PT X c tc) (ha : QSs X sa t) (hb : QSs X sb u) : QS X (.If c sa sb pos) (tIfS tc t u) := ⟨ps_if hc ha.h hb.h⟩
theorem qss_nil : QSs X [] tNext := ⟨pss_nil⟩
theorem qss_one (h : QS X st t) : QSs X [st] t := ⟨pss_one h.h⟩
theorem qss_cons (h1 : QS X st t) (h2 : QSs X rest u) : QSs X (st :: rest) (tSeq t u) := ⟨pss_cons h1.h h2.h⟩
theorem qss_cut (h1 : QS X st t) (h2 : QSs X rest u) : QSs X (st :: rest) (tCut t u) := ⟨pss_cut h1.h h2.h⟩
theorem qss_of (h : PSs X rest t) : QSs X rest t := ⟨h⟩
end
end Bw
set_option Elab.async false
set_option linter.all false
set_option maxRecDepth 100000
set_option maxHeartbeats 1000000
namespace Bw
open PySem PySem.Spec PyProof.Rows L2
/-- a text taken once, or not at all -/
def rMul01 : R2 := fun x y H Q => ∃ u n, x = .str u ∧ y = .int n ∧ (n = 0 ∨ n = 1) ∧ Q (.str (if n = 1 then u else Str.empty)) H
theorem op_mul01 {X : Cx} : OpR X (binaryOp .Mult) rMul01 := by
  intro pins s σ H x y v u Q I rx ry h
  obtain ⟨z, n, rfl, rfl, hn, q⟩ := h
  obtain ⟨t, rfl⟩ := rx
  obtain ⟨t', rfl⟩ := ry
  refine P.mul_str (by rw [decide_eq_false (by omega), decide_eq_false (by omega)]; rfl) (fun a b => ?_) (fun a b => ?_) ?_
  · have : n = 1 := by omega
    rw [this] at b
    simp at b
  · have : n = 1 := by omega
    rw [this] at b
    simp at b
  · rcases hn with rfl | rfl
    · rw [if_pos (by decide)]
      refine ⟨by decide, ⟨.str Str.empty, H, I.tok _, ⟨_, rfl⟩, ?_⟩⟩
      exact q
    · rw [if_neg (by decide), if_pos (by simp)]
      exact ⟨.str z, H, I, ⟨_, rfl⟩, q⟩
end Bw
set_option Elab.async false
set_option linter.all false
set_option maxRecDepth 100000
set_option maxHeartbeats 1000000
namespace Bw
open PySem PySem.Spec PyProof.Rows L2
/-! ### what a value is worth as plain data, lists and tuples within one another too -/
mutual
inductive RD (H : Hp) : V → PyData → Prop
  | non : RD H .non .none
  | bl (b : Bool) : RD H (.bl b) (.bool b)
  | int (i : Int) : RD H (.int i) (.int i)
  | str (x : Str) : RD H (.str x) (.str x)
  | lst {p : Addr} {xs : List V} {ds : List PyData} : H p = some (.lst xs) → RDs H xs ds → RD H (.ref p) (.list ds)
  | tup {p : Addr} {xs : List V} {ds : List PyData} : H p = some (.tup xs) → RDs H xs ds → RD H (.ref p) (.tuple ds)
inductive RDs (H : Hp) : List V → List PyData → Prop
  | nil : RDs H [] []
  | cons {v : V} {d : PyData} {vs : List V} {ds : List PyData} : RD H v d → RDs H vs ds → RDs H (v :: vs) (d :: ds)
end
section
variable {X : Cx} {pins : List (Addr × Obj)} {σ : L2.St} {H : Hp} {s : Shared}
mutual
theorem RD.reads (I : Inv X pins σ H s) : ∀ {v : V} {d : PyData}, RD H v d → ∀ {u : Value}, RelV v u → ∃ as, Reads s.heap u d as
  | _, _, .non, u, r => by cases (show u = Value.none from r); exact ⟨_, .none⟩
  | _, _, .bl b, u, r => by cases (show u = Value.bool b from r); exact ⟨_, .bool b⟩
  | _, _, .int i, u, r => by obtain ⟨t, rfl⟩ := (show ∃ t, u = Value.int i t from r); exact ⟨_, .int i t⟩
  | _, _, .str i, u, r => by obtain ⟨t, rfl⟩ := (show ∃ t, u = Value.str i t from r); exact ⟨_, .str i t⟩
  | _, _, .lst h hs, u, r => by
    cases (show u = Value.ref _ from r)
    obtain ⟨its, r1, ⟨o1, n1, p1, c1, _, d1⟩, _⟩ := I.list (SqL.of h)
    obtain ⟨as, ra⟩ := RDs.reads I hs r1
    exact ⟨_, Reads.list p1 c1 d1 (by simpa using ra)⟩
  | _, _, .tup h hs, u, r => by
    cases (show u = Value.ref _ from r)
    obtain ⟨its, r1, ⟨o1, p1, c1, n1, d1⟩, _⟩ := I.tuple (SqT.of h)
    obtain ⟨as, ra⟩ := RDs.reads I hs r1
    exact ⟨_, Reads.tuple p1 c1 d1 (by simpa using ra)⟩
theorem RDs.reads (I : Inv X pins σ H s) : ∀ {vs : List V} {ds : List PyData}, RDs H vs ds → ∀ {us : List Value}, Vals vs us → ∃ as, ReadsAll s.heap us ds as
  | _, _, .nil, _, .nil => ⟨_, .nil⟩
  | _, _, .cons h hs, _, .cons r rs => by
    obtain ⟨as, ra⟩ := RD.reads I h r
    obtain ⟨bs, rb⟩ := RDs.reads I hs rs
    exact ⟨_, .cons ra rb⟩
end
end
mutual
theorem mix_self : ∀ d : PyData, PyData.canLay0 d = true → SeqAt.noMix d d = true
  | .none, _ => by simp [SeqAt.noMix]
  | .bool _, _ => by simp [SeqAt.noMix]
  | .int _, _ => by simp [SeqAt.noMix]
  | .str _, _ => by simp [SeqAt.noMix]
  | .list xs, h => by
    simp only [SeqAt.noMix]
    exact mixs_self xs (by simpa [PyData.canLay0] using h)
  | .tuple xs, h => by
    simp only [SeqAt.noMix]
    exact mixs_self xs (by simpa [PyData.canLay0] using h)
  | .dict _, h => by simp [PyData.canLay0] at h
theorem mixs_self : ∀ ds : List PyData, PyData.canLayAll0 ds = true → SeqAt.noMixAll ds ds = true
  | [], _ => by simp [SeqAt.noMixAll]
  | d :: r, h => by
    have h' : PyData.canLay0 d = true ∧ PyData.canLayAll0 r = true := by simpa [PyData.canLayAll0] using h
    simp only [SeqAt.noMixAll, mix_self d h'.1, mixs_self r h'.2, Bool.and_self]
end
theorem eqv_self {d : PyData} (h : SeqAt.shaped d = true) : PyData.eqv d d = true := by
  have hc : PyData.canLay0 d = true := by
    have h' : (PyData.canLay0 d && decide (PyData.depth d ≤ 64)) = true := h
    rw [Bool.and_eq_true] at h'
    exact h'.1
  rw [← SeqAt.same_eq_eqv d d (mix_self d hc)]
  exact same_self d
section
variable {X : Cx}
def rEqD (b : Bool) : R2 := fun x y H Q => ∃ (d d' : PyData), RD H x d ∧ RD H y d' ∧ SeqAt.shaped d = true ∧ SeqAt.shaped d' = true ∧ Q (.bl (PyData.eqv d d' == b)) H
theorem op_eqD (hu : X.A.units + 64 < cLine) : OpR X (compareOp .Eq) (rEqD true) := by
  intro pins s σ H x y v u Q I rx ry h
  obtain ⟨d, d', h1, h2, s1, s2, q⟩ := h
  obtain ⟨as, r1⟩ := h1.reads I rx
  obtain ⟨bs, r2⟩ := h2.reads I ry
  refine eq_dataH r1 r2 s1 s2 hu ⟨.bl _, H, I, rfl, ?_⟩
  have e : (PyData.eqv d d' == true) = PyData.eqv d d' := by cases PyData.eqv d d' <;> rfl
  rw [e] at q
  exact q
theorem op_neD (hu : X.A.units + 64 < cLine) : OpR X (compareOp .NotEq) (rEqD false) := by
  intro pins s σ H x y v u Q I rx ry h
  obtain ⟨d, d', h1, h2, s1, s2, q⟩ := h
  obtain ⟨as, r1⟩ := h1.reads I rx
  obtain ⟨bs, r2⟩ := h2.reads I ry
  refine ne_dataH r1 r2 s1 s2 hu ⟨.bl _, H, I, rfl, ?_⟩
  have e : (PyData.eqv d d' == false) = !PyData.eqv d d' := by cases PyData.eqv d d' <;> rfl
  rw [e] at q
  exact q
/-- the two are worth the same -/
theorem eqd {H : Hp} {x y : V} {d : PyData} {b : Bool} {Q : VK} (h1 : RD H x d) (h2 : RD H y d) (s : SeqAt.shaped d = true) (q : Q (.bl b) H) : rEqD b x y H Q := by
  refine ⟨d, d, h1, h2, s, s, ?_⟩
  rw [eqv_self s]
  cases b <;> exact q
end
theorem ixL_at {X : Cx} {K : PySem.W.Frag} (hK : X.K = K) : IxR X (rIxL K) := by
  subst hK
  exact ix_list
theorem fld_at {X : Cx} {K : PySem.W.Frag} {e : Expr} {f : Str} {ta : TE} {pos : Pos} (hK : X.K = K) (he : PE X e ta) (hb : attributeBase e f X.env (eval e X.env) = eval e X.env) : PE X (.Attribute e f pos) (tFld K ta f) := by
  subst hK
  exact pe_fld he hb
def tNev : TE := fun _ _ _ => False
theorem pe_nv {X : Cx} {e : Expr} : PE X e tNev := fun _ _ _ _ _ _ h => h.elim
theorem w_nev {σ : L2.St} {H : Hp} {Q : VK} : tNev σ H Q = False := rfl
theorem w_never {D : Ends} {σ : L2.St} {H : Hp} : tNever D σ H = False := rfl
/-! ### classes whose __init__ has defaults -/
structure CalD (P : Program) (w : World) (K : PySem.W.Frag) (mg : Str → Option Value) (base : Heap) (x : Str) (C : Addr) (ps : List Str) (k : Nat) (dvs : List V) (sp : Sp) : Prop where
  ex : ∃ f fd ds, FnOk P w K mg base (CXF P w) k f fd ps sp ∧ Binds K fd ps ds ∧ Vals dvs ds ∧ Mk K C f ∧ mg x = some (.ref C)
section
variable {X : Cx} {x m : Str} {C : Addr} {ps : List Str} {k : Nat} {sp : Sp} {e o : Expr} {es : List Expr} {ta : TE} {t : TA} {p pos apos : Pos} {E : XK} {dvs : List V}
theorem pe_makD (c : CalD X.prog X.w X.K X.mg X.base x C ps k dvs sp) (hx : Passes (CXF X.prog X.w) X E) (hr : Room (k + 1) X.A) (hg : Gl X x) (ha : PA X (e :: es) t)
    (hdb : (x == ("__debug__" : Str)) = false := by decide) (he : starEach (e :: es) X.env = (false, eval e X.env) :: starEach es X.env := by rfl) (hpl : (backTo pos (starEach es X.env)).any (·.1) = false := by rfl) :
    PE X (.Call (.Name x p) (e :: es) [] pos) (tMake C sp dvs E t) := by
  obtain ⟨f, fd, ds, F, b, hd, M, hm⟩ := c.ex
  exact pe_make M F hr hg hm b hd hx ha hdb he hpl
end
/-- a def with whatever defaults -/
structure FunA (K : PySem.W.Frag) (x qual : Str) (st : Stmt) (f : Addr) (fd : FuncData) : Prop where
  ex : ∃ (oc : Value) (od : Option Addr) (dV kV doc pm : Value) (an : Option Addr) (cdv ct : Value) (osl : Array (Option Value)),
    fd = PySem.W.fnOf x qual (defArgs st) (defBody st) (defScope st) dV kV doc pm an cdv ct ∧ K.lookup f = some ⟨oc, od, .func fd, osl⟩ ∧ PySem.W.codeIn K cdv qual = true
section
variable {P : Program} {w : World} {K : PySem.W.Frag} {mg : Str → Option Value} {base : Heap} {N : List Str} {f : Addr}
theorem FunA.ok {x qual : Str} {st : Stmt} {fd : FuncData} {ps : List Str} {k : Nat} {sp : Sp} (F : FunA K x qual st f fd) (S : FnScope N ps (defScope st)) (len : ∀ vs H Q E, sp vs H Q E → vs.length = ps.length)
    (hbody : ∀ (cdv : Value) (A : Around) (outer : List Env) (s : Shared) (H : Hp) (vs : List V) (Q : VK) (E : XK), Room k (A.deeper (envOfC qual (defScope st) s.heap.objs.size f cdv)) → sp vs H Q E →
      ∃ t, PSs (cxOf CX0 P w K mg base N qual (defScope st) f cdv A outer s H E).nox (defBody st) t ∧ t { nx := fun _ H' => Q .non H', rt := Q } (L2.start N vs) H) : FnOk P w K mg base CX0 (k + 1) f fd ps sp := by
  obtain ⟨oc, od, dV, kV, doc, pm, an, cdv, ct, osl, rfl, lk, hcd⟩ := F.ex
  refine fn_of lk hcd S len fun A outer s H vs Q E hr hsp => ?_
  obtain ⟨t, h, q⟩ := hbody cdv A outer s H vs Q E hr hsp
  exact ⟨t, h.nox, q⟩
theorem funA_mk {x qual : Str} {st : Stmt} {oc : Value} {od an : Option Addr} {osl : Array (Option Value)} {dV kV doc pm cdv ct : Value} (l : K.lookup f = some ⟨oc, od, .func (PySem.W.fnOf x qual (defArgs st) (defBody st) (defScope st) dV kV doc pm an cdv ct), osl⟩)
    (c : PySem.W.codeIn K cdv qual = true) : FunA K x qual st f (PySem.W.fnOf x qual (defArgs st) (defBody st) (defScope st) dV kV doc pm an cdv ct) := ⟨⟨oc, od, dV, kV, doc, pm, an, cdv, ct, osl, rfl, l, c⟩⟩
theorem bindsD {fd : FuncData} {ps : List Str} {ds : List Value} (n : Nat) (hn : n + ds.length = ps.length) (h : ∀ (s : Shared) (us : List Value), K.In s.heap → us.length = n → BindsTo s fd ⟨us, []⟩ (ps.zip (us ++ ds))) : Binds K fd ps ds := fun s us X hl => h s us X (by
  rw [List.length_append] at hl
  omega)
end
end Bw
set_option Elab.async false
set_option linter.all false
set_option maxRecDepth 100000
namespace Bw
open PySem PySem.Spec PyProof.Rows L2
/-- how many are quiet below t, from a fixed moment on -/
def below (s e t : Int) : Int := (t - s) / 1440 * ((e - s) % 1440) + (if (e - s) % 1440 < (t - s) % 1440 then (e - s) % 1440 else (t - s) % 1440)
end Bw
set_option Elab.async false
set_option linter.all false
set_option maxRecDepth 100000
set_option maxHeartbeats 1000000
namespace Bw
open PySem PySem.Spec PyProof.Rows L2
/-- the least of a list of whole numbers -/
theorem call_minL {X : Cx} (hc : X.calm = true) : CallR X (.builtin "min") (fun xs H Q => ∃ (a : Addr) (ns : List Int), xs = [.ref a] ∧ SqL X.K H a (ns.map V.int) ∧ 0 < ns.length ∧ ∀ m, m ∈ ns → (∀ n ∈ ns, m ≤ n) → Q (.int m) H) := by
  intro pins s σ H xs us Q I r h
  obtain ⟨a, ns, rfl, hS, hne, q⟩ := h
  obtain ⟨u, rfl, ru⟩ := vals1 r
  cases ru
  obtain ⟨its, rv, pl, hz⟩ := I.list hS
  have hi : IntsAre its ns := intsAre_of rv
  obtain ⟨xs, hx⟩ := hi.allInts.items
  have hl' : s.heap.IsList a (intItems xs) := hx ▸ pl.isList
  have e1 : ns = xs.toList.map (·.1) := by
    rw [← nums_intItems, ← hx]
    exact (show numsOf its.toArray.toList = ns from hi.numsOf).symm
  have hsz : 0 < xs.size := by
    rw [e1, List.length_map, Array.length_toList] at hne
    exact hne
  refine min_intList (I.ok.hd hc) hl' hsz fun v h' tk hv hk => ?_
  obtain ⟨t, rfl⟩ := intItems_at hv
  obtain ⟨h1, h2⟩ := argBest_lt (numAt xs) (xs.size - 1)
  refine ⟨.int _, H, I.kept hk, ⟨t, rfl⟩, q _ ?_ fun n hn => ?_⟩
  · rw [e1, numAt_eq]; exact getD_mem (by rw [List.length_map, Array.length_toList]; omega)
  · rw [e1] at hn
    obtain ⟨j, hj, rfl⟩ := mem_getD hn
    rw [List.length_map, Array.length_toList] at hj
    rw [← numAt_eq]; exact h2 j (by omega)
theorem isi_list_ty {K : PySem.W.Frag} {H : Hp} {a : Addr} {xs : List V} (h : H a = some (.lst xs)) : TyOf K H (.ref a) (.type "list") ∧ PySem.W.kitOne K (.type "list") (.type "list") = some true := ⟨.lst h, by kernel_rfl⟩
/-- isinstance of a list, by list -/
theorem call_isi_listT {X : Cx} : CallR X (.builtin "isinstance") (fun xs H Q => ∃ (a : Addr) (ys : List V), xs = [.ref a, .ty "list"] ∧ H a = some (.lst ys) ∧ Q (.bl true) H) := by
  intro pins s σ H xs us Q I r h
  obtain ⟨a, ys, rfl, e, q⟩ := h
  obtain ⟨ty, k⟩ := isi_list_ty (K := X.K) e
  exact isi_gen I r ty k q
theorem rds_strs {H : Hp} : ∀ us : List Str, RDs H (us.map V.str) (us.map PyData.str)
  | [] => .nil
  | u :: r => .cons (.str u) (rds_strs r)
theorem rds_ints {H : Hp} : ∀ ns : List Int, RDs H (ns.map V.int) (ns.map PyData.int)
  | [] => .nil
  | n :: r => .cons (.int n) (rds_ints r)
theorem lay_strs : ∀ {us : List Str}, (∀ u ∈ us, PyData.strOk u = true) → PyData.canLayAll0 (us.map PyData.str) = true ∧ PyData.depthAll (us.map PyData.str) = 0
  | [], _ => ⟨by simp [PyData.canLayAll0], by simp [PyData.depthAll]⟩
  | u :: r, h => by
    obtain ⟨a, b⟩ := lay_strs (us := r) fun v hv => h v (List.mem_cons_of_mem _ hv)
    exact ⟨by simp [PyData.canLayAll0, PyData.canLay0, h u List.mem_cons_self, a], by simp [PyData.depthAll, PyData.depth, b]⟩
theorem lay_ints : ∀ ns : List Int, PyData.canLayAll0 (ns.map PyData.int) = true ∧ PyData.depthAll (ns.map PyData.int) = 0
  | [] => ⟨by simp [PyData.canLayAll0], by simp [PyData.depthAll]⟩
  | n :: r => by
    obtain ⟨a, b⟩ := lay_ints r
    exact ⟨by simp [PyData.canLayAll0, PyData.canLay0, a], by simp [PyData.depthAll, PyData.depth, b]⟩
theorem shaped_of {ds : List PyData} {n : Nat} (hn : n ≤ 60) (h : PyData.canLayAll0 ds = true ∧ PyData.depthAll ds = n) : SeqAt.shaped (.list ds) = true ∧ SeqAt.shaped (.tuple ds) = true := by
  have h1 := h.1
  have h2 := h.2
  constructor
  · show (PyData.canLay0 (.list ds) && decide (PyData.depth (.list ds) ≤ 64)) = true
    rw [Bool.and_eq_true]
    exact ⟨by simp only [PyData.canLay0]; exact h1, decide_eq_true (by simp only [PyData.depth]; omega)⟩
  · show (PyData.canLay0 (.tuple ds) && decide (PyData.depth (.tuple ds) ≤ 64)) = true
    rw [Bool.and_eq_true]
    exact ⟨by simp only [PyData.canLay0]; exact h1, decide_eq_true (by simp only [PyData.depth]; omega)⟩
theorem eqv_nil (xs : List PyData) : PyData.eqv (.list xs) (.list []) = xs.isEmpty := by cases xs <;> simp [PyData.eqv, PyData.eqvAll]
end Bw
set_option Elab.async false
set_option linter.all false
set_option maxRecDepth 100000
set_option maxHeartbeats 8000000
namespace Bw
open PySem L2
local macro_rules | `(tactic| walk_at "w") => `(tactic| try simp only [w_seq, w_next, w_ifS, w_ret, w_retN, w_drop, w_asg, w_gName, w_gSub, w_var, w_c, w_op, w_un, w_rU, w_rI0, w_rI, w_test, w_b, w_and, w_or, w_not, w_andV, w_orV, w_notV, w_if, w_cons, w_nil, w_tup, w_lst, w_call, w_cB, w_eq, w_ne, w_isN, w_notN, w_chain, w_sl, w_part, w_noPart, w_forL, w_for1, w_for2, w_K, w_for3, w_isnotB, w_raise, w_try, w_KX, w_cut, w_compL, w_comp1, w_comp2, w_yes, w_pick0, w_pickN, w_pickS, w_bm, w_bm0, w_tyS, w_addS, w_slS, w_blkK, w_strs, w_methD, w_makeN, w_make, w_fld, w_gTup, w_gCons, w_gNil, w_sFld, w_compS, w_tryB, w_bmake, w_noKeys, w_nev, w_never, Option.getD_some,  exists_const, false_or, or_false, exists_false, w_s1, w_s2, w_s3, w_s4, w_s5, L2.start, List.map_cons, List.map_nil, List.length_cons, List.length_nil, List.replicate, List.replicate_zero, List.replicate_succ, Nat.reduceAdd, Nat.reduceSub, Nat.reduceLeDiff, List.cons_append, List.nil_append, List.append_nil, List.set_cons_zero, List.set_cons_succ, List.getElem?_cons_zero, List.getElem?_cons_succ, Option.some.injEq, V.int.injEq, V.bl.injEq, V.ref.injEq, V.str.injEq, V.ty.injEq, List.cons.injEq, and_true, true_and, exists_eq_left, exists_eq_left', exists_and_left, exists_eq, exists_eq', and_self, decide_eq_true_eq, Bool.not_eq_true', decide_eq_false_iff_not, Bool.true_eq_false, Bool.false_eq_true, if_true, if_false, ite_true, ite_false, false_and, and_false, and_assoc, reduceCtorEq])
def top (i : Nat) : Stmt := PySem.Challenge.pw_bellsaway_k33_the_first_use.main.body.getD i (.Pass ⟨0, 0, 0, 0⟩)
abbrev s_is_whole : Stmt := top 7
theorem sc_is_whole : FnScope ["thing"] ["thing"] (defScope s_is_whole) := ⟨rfl, rfl, rfl, by decide +kernel, rfl, by decide +kernel, by decide +kernel⟩
abbrev s_is_whole_between : Stmt := top 8
theorem sc_is_whole_between : FnScope ["thing", "least", "most"] ["thing", "least", "most"] (defScope s_is_whole_between) := ⟨rfl, rfl, rfl, by decide +kernel, rfl, by decide +kernel, by decide +kernel⟩
abbrev s_is_whole_from : Stmt := top 9
theorem sc_is_whole_from : FnScope ["thing", "least"] ["thing", "least"] (defScope s_is_whole_from) := ⟨rfl, rfl, rfl, by decide +kernel, rfl, by decide +kernel, by decide +kernel⟩
abbrev s_is_minute_of_day : Stmt := top 12
theorem sc_is_minute_of_day : FnScope ["thing"] ["thing"] (defScope s_is_minute_of_day) := ⟨rfl, rfl, rfl, by decide +kernel, rfl, by decide +kernel, by decide +kernel⟩
abbrev s_is_quiet_hours : Stmt := top 13
theorem sc_is_quiet_hours : FnScope ["thing"] ["thing"] (defScope s_is_quiet_hours) := ⟨rfl, rfl, rfl, by decide +kernel, rfl, by decide +kernel, by decide +kernel⟩
abbrev s_check_zone : Stmt := top 14
theorem sc_check_zone : FnScope ["zone"] ["zone"] (defScope s_check_zone) := ⟨rfl, rfl, rfl, by decide +kernel, rfl, by decide +kernel, by decide +kernel⟩
abbrev s_check_quiet : Stmt := top 15
theorem sc_check_quiet : FnScope ["quiet"] ["quiet"] (defScope s_check_quiet) := ⟨rfl, rfl, rfl, by decide +kernel, rfl, by decide +kernel, by decide +kernel⟩
abbrev s_check_minute_of_day : Stmt := top 16
theorem sc_check_minute_of_day : FnScope ["minute"] ["minute"] (defScope s_check_minute_of_day) := ⟨rfl, rfl, rfl, by decide +kernel, rfl, by decide +kernel, by decide +kernel⟩
abbrev s_shown : Stmt := top 17
theorem sc_shown : FnScope ["moment", "zone", "local"] ["moment", "zone"] (defScope s_shown) := ⟨rfl, rfl, rfl, by decide +kernel, rfl, by decide +kernel, by decide +kernel⟩
abbrev s_is_quiet : Stmt := top 18
theorem sc_is_quiet : FnScope ["quiet", "zone", "moment", "minute", "start", "end"] ["quiet", "zone", "moment"] (defScope s_is_quiet) := ⟨rfl, rfl, rfl, by decide +kernel, rfl, by decide +kernel, by decide +kernel⟩
abbrev s_loud_from : Stmt := top 19
theorem sc_loud_from : FnScope ["quiet", "zone", "moment"] ["quiet", "zone", "moment"] (defScope s_loud_from) := ⟨rfl, rfl, rfl, by decide +kernel, rfl, by decide +kernel, by decide +kernel⟩
abbrev s_next_day : Stmt := top 20
theorem sc_next_day : FnScope ["minute", "zone", "moment"] ["minute", "zone", "moment"] (defScope s_next_day) := ⟨rfl, rfl, rfl, by decide +kernel, rfl, by decide +kernel, by decide +kernel⟩
abbrev s_is_name : Stmt := top 24
theorem sc_is_name : FnScope ["thing"] ["thing"] (defScope s_is_name) := ⟨rfl, rfl, rfl, by decide +kernel, rfl, by decide +kernel, by decide +kernel⟩
abbrev s_Road___init__ : Stmt := inClass (top 26) 0
theorem sc_Road___init__ : FnScope ["self", "name", "slow", "knows"] ["self", "name", "slow", "knows"] (defScope s_Road___init__) := ⟨rfl, rfl, rfl, by decide +kernel, rfl, by decide +kernel, by decide +kernel⟩
abbrev s_may_wake : Stmt := top 27
theorem sc_may_wake : FnScope ["wishes", "weight"] ["wishes", "weight"] (defScope s_may_wake) := ⟨rfl, rfl, rfl, by decide +kernel, rfl, by decide +kernel, by decide +kernel⟩
abbrev s_can_be_used : Stmt := top 28
theorem sc_can_be_used : FnScope ["road", "wishes", "weight", "moment"] ["road", "wishes", "weight", "moment"] (defScope s_can_be_used) := ⟨rfl, rfl, rfl, by decide +kernel, rfl, by decide +kernel, by decide +kernel⟩
abbrev s_first_use_of : Stmt := top 29
theorem sc_first_use_of : FnScope ["road", "wishes", "weight", "moment"] ["road", "wishes", "weight", "moment"] (defScope s_first_use_of) := ⟨rfl, rfl, rfl, by decide +kernel, rfl, by decide +kernel, by decide +kernel⟩
abbrev s_first_use : Stmt := top 30
theorem sc_first_use : FnScope ["roads", "wishes", "weight", "moment", "least"] ["roads", "wishes", "weight", "moment"] (defScope s_first_use) := ⟨rfl, rfl, rfl, by decide +kernel, rfl, by decide +kernel, by decide +kernel⟩
abbrev s_Wishes___init__ : Stmt := inClass (top 42) 0
theorem sc_Wishes___init__ : FnScope ["self", "zone", "quiet", "wake", "lines"] ["self", "zone", "quiet", "wake", "lines"] (defScope s_Wishes___init__) := ⟨rfl, rfl, rfl, by decide +kernel, rfl, by decide +kernel, by decide +kernel⟩
abbrev s_check_wake : Stmt := top 43
theorem sc_check_wake : FnScope ["wake", "quiet"] ["wake", "quiet"] (defScope s_check_wake) := ⟨rfl, rfl, rfl, by decide +kernel, rfl, by decide +kernel, by decide +kernel⟩
abbrev s_check_lines : Stmt := top 44
theorem sc_check_lines : FnScope ["lines"] ["lines"] (defScope s_check_lines) := ⟨rfl, rfl, rfl, by decide +kernel, rfl, by decide +kernel, by decide +kernel⟩
abbrev s_law_cell_at : Stmt := top 46
theorem sc_law_cell_at : FnScope ["_law_script", "_law_k"] ["_law_script", "_law_k"] (defScope s_law_cell_at) := ⟨rfl, rfl, rfl, by decide +kernel, rfl, by decide +kernel, by decide +kernel⟩
abbrev s_law_mixed : Stmt := top 47
theorem sc_law_mixed : FnScope ["_law_cell", "_law_k", "_law_number"] ["_law_cell", "_law_k"] (defScope s_law_mixed) := ⟨rfl, rfl, rfl, by decide +kernel, rfl, by decide +kernel, by decide +kernel⟩
abbrev s_law_well : Stmt := top 48
theorem sc_law_well : FnScope ["_law_cell"] ["_law_cell"] (defScope s_law_well) := ⟨rfl, rfl, rfl, by decide +kernel, rfl, by decide +kernel, by decide +kernel⟩
abbrev s_law_draw : Stmt := top 49
theorem sc_law_draw : FnScope ["_law_well_here", "_law_most", "_law_found", "_law_turn"] ["_law_well_here", "_law_most"] (defScope s_law_draw) := ⟨rfl, rfl, rfl, by decide +kernel, rfl, by decide +kernel, by decide +kernel⟩
abbrev s_law_whole : Stmt := top 50
theorem sc_law_whole : FnScope ["_law_found"] ["_law_found"] (defScope s_law_whole) := ⟨rfl, rfl, rfl, by decide +kernel, rfl, by decide +kernel, by decide +kernel⟩
abbrev s_law_names : Stmt := top 51
theorem sc_law_names : FnScope ["_law_well_here", "_law_many", "_law_letters", "_law_stem", "_law_at", "_law_first", "_law_step", "_law_found", "_law_k", "_law_name"] ["_law_well_here", "_law_many"] (defScope s_law_names) := ⟨rfl, rfl, rfl, by decide +kernel, rfl, by decide +kernel, by decide +kernel⟩
abbrev s_law_quiet : Stmt := top 52
theorem sc_law_quiet : FnScope ["_law_well_here", "_law_start", "_law_far", "_law_quiet_here"] ["_law_well_here"] (defScope s_law_quiet) := ⟨rfl, rfl, rfl, by decide +kernel, rfl, by decide +kernel, by decide +kernel⟩
abbrev s_law_marks : Stmt := top 53
theorem sc_law_marks : FnScope ["_law_quiet_here", "_law_marks_here", "_law_at"] ["_law_quiet_here"] (defScope s_law_marks) := ⟨rfl, rfl, rfl, by decide +kernel, rfl, by decide +kernel, by decide +kernel⟩
abbrev s_law_slows : Stmt := top 54
theorem sc_law_slows : FnScope ["_law_well_here", "_law_many", "_law_far", "_law_found", "_law_k", "_law_some"] ["_law_well_here", "_law_many"] (defScope s_law_slows) := ⟨rfl, rfl, rfl, by decide +kernel, rfl, by decide +kernel, by decide +kernel⟩
abbrev s_law_moment : Stmt := top 55
theorem sc_law_moment : FnScope ["_law_well_here", "_law_zone", "_law_quiet_here", "_law_slow", "_law_way", "_law_day"] ["_law_well_here", "_law_zone", "_law_quiet_here", "_law_slow"] (defScope s_law_moment) := ⟨rfl, rfl, rfl, by decide +kernel, rfl, by decide +kernel, by decide +kernel⟩
abbrev s_law_usable : Stmt := top 56
theorem sc_law_usable : FnScope ["_law_slows_here", "_law_marks_here", "_law_zone", "_law_wakes", "_law_moment_here"] ["_law_slows_here", "_law_marks_here", "_law_zone", "_law_wakes", "_law_moment_here"] (defScope s_law_usable) := ⟨rfl, rfl, rfl, by decide +kernel, rfl, by decide +kernel, by decide +kernel⟩
abbrev s_law_told : Stmt := top 57
theorem sc_law_told : FnScope ["_law_found", "_law_due", "_law_names_here"] ["_law_found", "_law_due", "_law_names_here"] (defScope s_law_told) := ⟨rfl, rfl, rfl, by decide +kernel, rfl, by decide +kernel, by decide +kernel⟩
abbrev s_law : Stmt := top 58
theorem sc_law : FnScope ["_law_script", "_law_well_here", "_law_zone", "_law_quiet_here", "_law_wake", "_law_marks_here", "_law_wishes", "_law_cell", "_law_many", "_law_slows_here", "_law_names_here", "_law_roads", "_law_weight", "_law_moment_here", "_law_wakes", "_law_at", "_law_due", "_law_found"] ["_law_script"] (defScope s_law) := ⟨rfl, rfl, rfl, by decide +kernel, rfl, by decide +kernel, by decide +kernel⟩
structure Ad where
  Road : Addr
  Wishes : Addr
  t0 : Tok
  t1 : Tok
  t2 : Tok
structure Bt (K : PySem.W.Frag) (mg : Str → Option Value) (a : Ad) : Prop where
  len : mg "len" = none
  int : mg "int" = none
  bool : mg "bool" = none
  str : mg "str" = none
  tuple : mg "tuple" = none
  list : mg "list" = none
  all : mg "all" = none
  isinstance : mg "isinstance" = none
  range : mg "range" = none
  min : mg "min" = none
  MINUTES_OF_DAY : mg "MINUTES_OF_DAY" = some (.int 1440 a.t0)
  LETTERS : mg "LETTERS" = some (.str "abcdefghijklmnopqrstuvwxyz" a.t1)
  MOST_LETTERS : mg "MOST_LETTERS" = some (.int 8 a.t2)
  Road : mg "Road" = some (.ref a.Road)
  Wishes : mg "Wishes" = some (.ref a.Wishes)
  ck_Road : ClsK K a.Road
  na_Road_name : NoAttr K a.Road "name"
  na_Road_slow : NoAttr K a.Road "slow"
  na_Road_knows : NoAttr K a.Road "knows"
  ck_Wishes : ClsK K a.Wishes
  na_Wishes_zone : NoAttr K a.Wishes "zone"
  na_Wishes_quiet : NoAttr K a.Wishes "quiet"
  na_Wishes_wake : NoAttr K a.Wishes "wake"
  na_Wishes_lines : NoAttr K a.Wishes "lines"
def QV (H : Hp) (x : V) : Option (Int × Int) → Prop
  | none => x = .non
  | some (s, e) => ∃ p, x = .ref p ∧ QOk H p s e
def qB : Option (Int × Int) → Int → Bool
  | none, _ => false
  | some (s, e), t => quietB s e t
def qMk : Option (Int × Int) → List V
  | none => List.replicate 1440 (.bl false)
  | some (s, e) => marksK V.bl s ((e - s) % 1440)
theorem QV.same {H H' : Hp} {x : V} {q : Option (Int × Int)} (h : QV H x q) (s : Same H H') : QV H' x q := by
  match q, h with
  | none, h => exact h
  | some (_, _), ⟨p, e, k⟩ => exact ⟨p, e, k.same s⟩
theorem QV.but {H H' : Hp} {w : Addr} {x : V} {q : Option (Int × Int)} (h : QV H x q) (W : Well H w) (s : But w H H') : QV H' x q := by
  match q, h with
  | none, h => exact h
  | some (_, _), ⟨p, e, k⟩ => exact ⟨p, e, k.but W s⟩
theorem QV.old {H : Hp} {x : V} {q : Option (Int × Int)} (h : QV H x q) : x = .non ∨ ∃ p s e, x = .ref p ∧ QOk H p s e := by
  match q, h with
  | none, h => exact .inl h
  | some (s, e), ⟨p, h, k⟩ => exact .inr ⟨p, s, e, h, k⟩
theorem atI_rep {n : Nat} {x : V} {t : Int} (t0 : 0 ≤ t) (t1 : t < n) : atI (List.replicate n x) t = some x := by
  have ek : t = ((t.toNat : Nat) : Int) := by omega
  have q : atI (List.replicate n x) ((t.toNat : Nat) : Int) = some x := atI_nat (by rw [List.getElem?_replicate, if_pos (by omega)])
  rwa [← ek] at q
theorem QV.at {H : Hp} {x : V} {q : Option (Int × Int)} (h : QV H x q) {t : Int} (t0 : 0 ≤ t) (t1 : t < 1440) : atI (qMk q) t = some (.bl (qB q t)) := by
  match q, h with
  | none, _ => exact atI_rep t0 t1
  | some (s, e), ⟨p, _, k⟩ => exact marksK_at V.bl k.s0 k.s1 k.e0 k.e1 k.ne t0 t1
def RoadAt (a : Ad) (H : Hp) (r : Addr) (u : Str) (s : Int) (b : Bool) : Prop := ∃ dx, H r = some (.ins a.Road dx [("name", .str u), ("slow", .int s), ("knows", .bl b)])
def WishAt (a : Ad) (H : Hp) (p : Addr) (z : Int) (x k : V) : Prop := ∃ dx l, H p = some (.ins a.Wishes dx [("zone", .int z), ("quiet", x), ("wake", k), ("lines", .ref l)])
theorem RoadAt.same {a : Ad} {H H' : Hp} {r : Addr} {u : Str} {s : Int} {b : Bool} (h : RoadAt a H r u s b) (e : Same H H') : RoadAt a H' r u s b := let ⟨dx, q⟩ := h; ⟨dx, e _ _ q⟩
theorem WishAt.same {a : Ad} {H H' : Hp} {p : Addr} {z : Int} {x k : V} (h : WishAt a H p z x k) (e : Same H H') : WishAt a H' p z x k := let ⟨dx, l, q⟩ := h; ⟨dx, l, e _ _ q⟩
theorem Well.neI {H : Hp} {w p C dx : Addr} {fs : List (Str × V)} (W : Well H w) (h : H p = some (.ins C dx fs)) : p ≠ w := by
  obtain ⟨a, b, c, d, e⟩ := W
  exact (ne_of e h (by intro z; cases z)).symm
theorem RoadAt.but {a : Ad} {H H' : Hp} {w r : Addr} {u : Str} {s : Int} {b : Bool} (h : RoadAt a H r u s b) (W : Well H w) (e : But w H H') : RoadAt a H' r u s b := let ⟨dx, q⟩ := h; ⟨dx, e _ _ (W.neI q) q⟩
theorem WishAt.but {a : Ad} {H H' : Hp} {w p : Addr} {z : Int} {x k : V} (h : WishAt a H p z x k) (W : Well H w) (e : But w H H') : WishAt a H' p z x k := let ⟨dx, l, q⟩ := h; ⟨dx, l, e _ _ (W.neI q) q⟩
def wakeOk : V → Prop
  | .non => True
  | .int n => 0 ≤ n
  | _ => False
def wakes : V → Int → Bool
  | .int n, w => decide (n ≤ w)
  | _, _ => false
def loudQ (q : Option (Int × Int)) (z m : Int) : Int := match q with
  | none => m
  | some (_, e) => if qB q ((m + z) % 1440) = true then m + (e - m - z) % 1440 else m
def useB (wk : Bool) (q : Option (Int × Int)) (z t s : Int) : Bool := wk || !qB q ((t + s + z) % 1440)
def fu (wk : Bool) (q : Option (Int × Int)) (z m s : Int) : Int := if wk = true then m else loudQ q z (m + s) - s
theorem loud_least {s e z m : Int} (s0 : 0 ≤ s) (s1 : s ≤ 1439) (e0 : 0 ≤ e) (e1 : e ≤ 1439) (ne : s ≠ e) :
    m ≤ loudQ (some (s, e)) z m ∧ qB (some (s, e)) ((loudQ (some (s, e)) z m + z) % 1440) = false ∧ ∀ t, m ≤ t → t < loudQ (some (s, e)) z m → qB (some (s, e)) ((t + z) % 1440) = true := by
  have qb : ∀ t : Int, qB (some (s, e)) (t % 1440) = decide ((t % 1440 - s) % 1440 < (e - s) % 1440) := fun t => quietB_len s0 s1 e0 e1 ne (by omega) (by omega)
  unfold loudQ
  simp only [qb]
  by_cases h : ((m + z) % 1440 - s) % 1440 < (e - s) % 1440
  · rw [if_pos (decide_eq_true h)]
    refine ⟨by omega, decide_eq_false (by omega), fun t t0 t1 => decide_eq_true (by omega)⟩
  · rw [if_neg (by simpa using h)]
    exact ⟨Int.le_refl _, decide_eq_false h, fun t t0 t1 => by omega⟩
theorem fu_least {H : Hp} {x : V} {q : Option (Int × Int)} (hv : QV H x q) (wk : Bool) (z m s : Int) :
    m ≤ fu wk q z m s ∧ useB wk q z (fu wk q z m s) s = true ∧ ∀ t, m ≤ t → t < fu wk q z m s → useB wk q z t s = false := by
  unfold fu useB
  cases wk with
  | true => exact ⟨Int.le_refl _, rfl, fun t t0 t1 => absurd (show t < m from t1) (by omega)⟩
  | false =>
    rw [if_neg Bool.false_ne_true]
    simp only [Bool.false_or]
    match q, hv with
    | none, _ => exact ⟨by show m ≤ m + s - s; omega, rfl, fun t t0 t1 => absurd (show t < m + s - s from t1) (by omega)⟩
    | some (a, e), ⟨p, _, k⟩ =>
      obtain ⟨l1, l2, l3⟩ := loud_least (z := z) (m := m + s) k.s0 k.s1 k.e0 k.e1 k.ne
      generalize loudQ (some (a, e)) z (m + s) = L at *
      refine ⟨by omega, ?_, fun t t0 t1 => ?_⟩
      · have e1 : L - s + s + z = L + z := by omega
        rw [e1, l2]
        rfl
      · rw [l3 (t + s) (by omega) (by omega)]
        rfl
/-- the least first use of all -/
structure LeastU (wk : Bool) (q : Option (Int × Int)) (z m : Int) (ss : List Int) (M : Int) : Prop where
  ex : ∃ s ∈ ss, M = fu wk q z m s
  le : ∀ s ∈ ss, M ≤ fu wk q z m s
theorem least_ex {wk : Bool} {q : Option (Int × Int)} {z m : Int} : ∀ {ss : List Int}, ss ≠ [] → ∃ M, LeastU wk q z m ss M
  | [], h => absurd rfl h
  | [s], _ => ⟨fu wk q z m s, ⟨s, List.mem_cons_self, rfl⟩, fun t ht => by rw [List.mem_singleton.mp ht]; exact Int.le_refl _⟩
  | s :: t :: r, _ => by
    obtain ⟨M, ⟨u, hu, eu⟩, hl⟩ := least_ex (wk := wk) (q := q) (z := z) (m := m) (ss := t :: r) (by simp)
    by_cases h : fu wk q z m s ≤ M
    · refine ⟨fu wk q z m s, ⟨s, List.mem_cons_self, rfl⟩, fun v hv => ?_⟩
      rcases List.mem_cons.mp hv with rfl | hv
      · exact Int.le_refl _
      · have := hl v hv
        omega
    · refine ⟨M, ⟨u, List.mem_cons_of_mem _ hu, eu⟩, fun v hv => ?_⟩
      rcases List.mem_cons.mp hv with rfl | hv
      · omega
      · exact hl v hv
theorem LeastU.one {wk : Bool} {q : Option (Int × Int)} {z m : Int} {ss : List Int} {M M' : Int} (h : LeastU wk q z m ss M) (h' : LeastU wk q z m ss M') : M = M' := by
  obtain ⟨s, hs, e⟩ := h.ex
  obtain ⟨s', hs', e'⟩ := h'.ex
  have a := h.le s' hs'
  have b := h'.le s hs
  omega
section
variable {H : Hp} {x : V} {wk : Bool} {q : Option (Int × Int)} {z m : Int} {ss : List Int} {M : Int}
theorem LeastU.none (h : LeastU wk q z m ss M) (hv : QV H x q) {t : Int} (t0 : m ≤ t) (t1 : t < M) {s : Int} (hs : s ∈ ss) : useB wk q z t s = false := (fu_least hv wk z m s).2.2 t t0 (by have := h.le s hs; omega)
theorem LeastU.some (h : LeastU wk q z m ss M) (hv : QV H x q) : ∃ s ∈ ss, useB wk q z M s = true := by
  obtain ⟨s, hs, e⟩ := h.ex
  exact ⟨s, hs, by rw [e]; exact (fu_least hv wk z m s).2.1⟩
theorem LeastU.ge (h : LeastU wk q z m ss M) (hv : QV H x q) : m ≤ M := by
  obtain ⟨s, hs, e⟩ := h.ex
  rw [e]
  exact (fu_least hv wk z m s).1
/-- asked from the found one on -/
theorem LeastU.self (h : LeastU wk q z m ss M) (hv : QV H x q) : LeastU wk q z M ss M := by
  obtain ⟨s, hs, e⟩ := h.some hv
  refine ⟨⟨s, hs, ?_⟩, fun t ht => (fu_least hv wk z M t).1⟩
  obtain ⟨l1, l2, l3⟩ := fu_least hv wk z M s
  by_cases hc : M < fu wk q z M s
  · have := l3 M (Int.le_refl _) hc
    rw [e] at this
    cases this
  · omega
end
/-- the numbers of those that can be used -/
def useIx (p : Int → Bool) : Nat → List Int → List Nat
  | _, [] => []
  | i, s :: r => if p s = true then i :: useIx p (i + 1) r else useIx p (i + 1) r
theorem useIx_snoc (p : Int → Bool) (s : Int) : ∀ (xs : List Int) (i : Nat), useIx p i (xs ++ [s]) = useIx p i xs ++ (if p s = true then [i + xs.length] else [])
  | [], i => by
    simp only [List.nil_append, useIx, List.length_nil, Nat.add_zero]
  | x :: xs, i => by
    simp only [List.cons_append, useIx, List.length_cons]
    rw [useIx_snoc p s xs (i + 1)]
    have e : i + 1 + xs.length = i + (xs.length + 1) := by omega
    rw [e]
    split <;> simp
theorem useIx_len (p : Int → Bool) : ∀ (xs : List Int) (i : Nat), (useIx p i xs).length ≤ xs.length
  | [], _ => Nat.le_refl _
  | x :: xs, i => by
    simp only [useIx, List.length_cons]
    have := useIx_len p xs (i + 1)
    split
    · simp only [List.length_cons]; omega
    · omega
theorem useIx_nil {p : Int → Bool} : ∀ {xs : List Int} {i : Nat}, (∀ s ∈ xs, p s = false) → useIx p i xs = []
  | [], _, _ => rfl
  | x :: xs, i, h => by
    simp only [useIx]
    rw [if_neg (by rw [h x List.mem_cons_self]; exact Bool.false_ne_true)]
    exact useIx_nil fun s hs => h s (List.mem_cons_of_mem _ hs)
theorem useIx_some {p : Int → Bool} : ∀ {xs : List Int} {i : Nat} {s : Int}, s ∈ xs → p s = true → useIx p i xs ≠ []
  | x :: xs, i, s, h, hp => by
    simp only [useIx]
    by_cases hx : p x = true
    · rw [if_pos hx]
      exact List.cons_ne_nil _ _
    · rw [if_neg hx]
      rcases List.mem_cons.mp h with rfl | h
      · exact absurd hp hx
      · exact useIx_some h hp
/-- a road: where it is, its name, its slow minutes, whether it knows -/
abbrev RI := Addr × Str × Int × Bool
theorem useIx_names (p : Int → Bool) : ∀ (rs : List RI) (pre : List Str), (useIx p pre.length (rs.map (·.2.2.1))).map (fun k => (pre ++ rs.map (·.2.1))[k]?) = (rs.filter fun r => p r.2.2.1).map fun r => some r.2.1
  | [], pre => rfl
  | r :: rs, pre => by
    have ih := useIx_names p rs (pre ++ [r.2.1])
    rw [List.length_append, List.length_singleton] at ih
    have e : pre ++ [r.2.1] ++ rs.map (·.2.1) = pre ++ (r :: rs).map (·.2.1) := by simp
    rw [e] at ih
    simp only [List.map_cons, useIx, List.filter_cons]
    simp only [List.map_cons] at ih
    split
    · rw [List.map_cons, List.map_cons, ih]
      congr 1
      simp
    · exact ih
def RoadsAt (a : Ad) (H : Hp) (l : Addr) (rs : List RI) : Prop := H l = some (.lst (rs.map fun r => V.ref r.1)) ∧ ∀ r ∈ rs, RoadAt a H r.1 r.2.1 r.2.2.1 r.2.2.2
theorem RoadsAt.same {a : Ad} {H H' : Hp} {l : Addr} {rs : List RI} (h : RoadsAt a H l rs) (s : Same H H') : RoadsAt a H' l rs := ⟨s _ _ h.1, fun r hr => (h.2 r hr).same s⟩
def sp_is_whole (K : PySem.W.Frag) (a : Ad) : Sp := fun vs H Q E => ∃ x, vs = [x] ∧ okV H x ∧ Q (.bl (wholeV x)) H
def sp_is_whole_between (K : PySem.W.Frag) (a : Ad) : Sp := fun vs H Q E => ∃ x lo hi, vs = [x, .int lo, .int hi] ∧ okV H x ∧ Q (.bl (betwV x lo hi)) H
def sp_is_whole_from (K : PySem.W.Frag) (a : Ad) : Sp := fun vs H Q E => ∃ x lo, vs = [x, .int lo] ∧ okV H x ∧ Q (.bl (fromV x lo)) H
def sp_is_minute_of_day (K : PySem.W.Frag) (a : Ad) : Sp := fun vs H Q E => ∃ x, vs = [x] ∧ okV H x ∧ Q (.bl (betwV x 0 1439)) H
def sp_is_quiet_hours (K : PySem.W.Frag) (a : Ad) : Sp := fun vs H Q E => ∃ x, vs = [x] ∧ (x = .non ∨ ∃ p s e, x = .ref p ∧ QOk H p s e) ∧ Q (.bl true) H
def sp_check_zone (K : PySem.W.Frag) (a : Ad) : Sp := fun vs H Q E => ∃ z : Int, vs = [.int z] ∧ -1439 ≤ z ∧ z ≤ 1439 ∧ Q .non H
def sp_check_quiet (K : PySem.W.Frag) (a : Ad) : Sp := fun vs H Q E => ∃ x, vs = [x] ∧ (x = .non ∨ ∃ p s e, x = .ref p ∧ QOk H p s e) ∧ Q .non H
def sp_check_minute_of_day (K : PySem.W.Frag) (a : Ad) : Sp := fun vs H Q E => ∃ z : Int, vs = [.int z] ∧ 0 ≤ z ∧ z ≤ 1439 ∧ Q .non H
def sp_shown (K : PySem.W.Frag) (a : Ad) : Sp := fun vs H Q E => ∃ m z : Int, vs = [.int m, .int z] ∧ -1439 ≤ z ∧ z ≤ 1439 ∧ ∀ p, H p = none → Q (.ref p) (upd H p (.tup [.int ((m + z) / 1440), .int ((m + z) % 1440)]))
def sp_is_quiet (K : PySem.W.Frag) (a : Ad) : Sp := fun vs H Q E => ∃ (x : V) (q : Option (Int × Int)) (z m : Int), vs = [x, .int z, .int m] ∧ -1439 ≤ z ∧ z ≤ 1439 ∧ QV H x q ∧ ∀ H', Same H H' → Q (.bl (qB q ((m + z) % 1440))) H'
def sp_loud_from (K : PySem.W.Frag) (a : Ad) : Sp := fun vs H Q E => ∃ (x : V) (q : Option (Int × Int)) (z m : Int), vs = [x, .int z, .int m] ∧ -1439 ≤ z ∧ z ≤ 1439 ∧ QV H x q ∧ ∀ H', Same H H' → Q (.int (loudQ q z m)) H'
def sp_next_day (K : PySem.W.Frag) (a : Ad) : Sp := fun vs H Q E => ∃ i z m : Int, vs = [.int i, .int z, .int m] ∧ 0 ≤ i ∧ i ≤ 1439 ∧ -1439 ≤ z ∧ z ≤ 1439 ∧ Q (.int (m + (i - m - z) % 1440)) H
def sp_is_name (K : PySem.W.Frag) (a : Ad) : Sp := fun vs H Q E => ∃ x, vs = [x] ∧ okN H x ∧ ∀ H', Same H H' → Q (.bl (nameB x)) H'
def sp_Road___init__ (K : PySem.W.Frag) (a : Ad) : Sp := fun vs H Q E => ∃ (p dx : Addr) (u : Str) (s : Int) (b : Bool), vs = [.ref p, .str u, .int s, .bl b] ∧ H p = some (.ins a.Road dx []) ∧ goodN u ∧ 0 ≤ s ∧ ∀ H', But p H H' → H' p = some (.ins a.Road dx [("name", .str u), ("slow", .int s), ("knows", .bl b)]) → Q .non H'
def sp_may_wake (K : PySem.W.Frag) (a : Ad) : Sp := fun vs H Q E => ∃ (p : Addr) (z : Int) (x k : V) (n : Int), vs = [.ref p, .int n] ∧ WishAt a H p z x k ∧ wakeOk k ∧ Q (.bl (wakes k n)) H
def sp_can_be_used (K : PySem.W.Frag) (a : Ad) : Sp := fun vs H Q E => ∃ (r p : Addr) (u : Str) (s : Int) (b : Bool) (z : Int) (x k : V) (q : Option (Int × Int)) (n m : Int), vs = [.ref r, .ref p, .int n, .int m] ∧ RoadAt a H r u s b ∧ WishAt a H p z x k ∧ QV H x q ∧ -1439 ≤ z ∧ z ≤ 1439 ∧ wakeOk k ∧ ∀ H', Same H H' → Q (.bl (wakes k n || !qB q ((m + s + z) % 1440))) H'
def sp_first_use_of (K : PySem.W.Frag) (a : Ad) : Sp := fun vs H Q E => ∃ (r p : Addr) (u : Str) (s : Int) (b : Bool) (z : Int) (x k : V) (q : Option (Int × Int)) (n m : Int), vs = [.ref r, .ref p, .int n, .int m] ∧ RoadAt a H r u s b ∧ WishAt a H p z x k ∧ QV H x q ∧ -1439 ≤ z ∧ z ≤ 1439 ∧ wakeOk k ∧ ∀ H', Same H H' → Q (.int (fu (wakes k n) q z m s)) H'
def sp_first_use (K : PySem.W.Frag) (a : Ad) : Sp := fun vs H Q E => ∃ (l p : Addr) (rs : List RI) (z : Int) (x k : V) (q : Option (Int × Int)) (n m : Int), vs = [.ref l, .ref p, .int n, .int m] ∧ RoadsAt a H l rs ∧ rs ≠ [] ∧ rs.length ≤ 100 ∧ WishAt a H p z x k ∧ QV H x q ∧ -1439 ≤ z ∧ z ≤ 1439 ∧ wakeOk k ∧ ∀ (M : Int) (t fl : Addr) (H' : Hp), LeastU (wakes k n) q z m (rs.map (·.2.2.1)) M → Same H H' → H fl = none → H' t = some (.tup [.int M, .ref fl]) → H' fl = some (.lst ((rs.filter fun r => useB (wakes k n) q z M r.2.2.1).map fun r => V.ref r.1)) → Q (.ref t) H'
def sp_Wishes___init__ (K : PySem.W.Frag) (a : Ad) : Sp := fun vs H Q E => ∃ (p dx : Addr) (z : Int) (x k : V) (q : Option (Int × Int)), vs = [.ref p, .int z, x, k, .non] ∧ H p = some (.ins a.Wishes dx []) ∧ -1439 ≤ z ∧ z ≤ 1439 ∧ QV H x q ∧ wakeOk k ∧ (k = .non ∨ x ≠ .non) ∧ ∀ l H', But p H H' → H' p = some (.ins a.Wishes dx [("zone", .int z), ("quiet", x), ("wake", k), ("lines", .ref l)]) → Q .non H'
def sp_check_wake (K : PySem.W.Frag) (a : Ad) : Sp := fun vs H Q E => ∃ x y, vs = [x, y] ∧ wakeOk x ∧ (x = .non ∨ y ≠ .non) ∧ Q .non H
def sp_check_lines (K : PySem.W.Frag) (a : Ad) : Sp := fun vs H Q E => ∃ _u : Unit, vs = [.non] ∧ Q .non H
def sp_law_cell_at (K : PySem.W.Frag) (a : Ad) : Sp := fun vs H Q E => ∃ (b : Addr) (ns : List Int) (k : Int), vs = [.ref b, .int k] ∧ SqL K H b (ns.map V.int) ∧ 0 ≤ k ∧ ∀ c, Q (.int c) H
def sp_law_mixed (K : PySem.W.Frag) (a : Ad) : Sp := fun vs H Q E => ∃ c k : Int, vs = [.int c, .int k] ∧ ∀ r, Q (.int r) H
def sp_law_well (K : PySem.W.Frag) (a : Ad) : Sp := fun vs H Q E => ∃ c : Int, vs = [.int c] ∧ ∀ p a b c d, H p = none → Q (.ref p) (upd H p (.lst [.int a, .int b, .int c, .int d]))
def sp_law_draw (K : PySem.W.Frag) (a : Ad) : Sp := fun vs H Q E => ∃ (w : Addr) (m : Int), vs = [.ref w, .int m] ∧ Well H w ∧ 0 < m ∧ m < 2 ^ 62 ∧ ∀ (r : Int) (H' : Hp), 0 ≤ r → r < m → Well H' w → But w H H' → Q (.int r) H'
def sp_law_whole (K : PySem.W.Frag) (a : Ad) : Sp := fun vs H Q E => ∃ x, vs = [x] ∧ okV H x ∧ Q (.bl (wholeV x)) H
def sp_law_names (K : PySem.W.Frag) (a : Ad) : Sp := fun vs H Q E => ∃ (w : Addr) (n : Int), vs = [.ref w, .int n] ∧ 0 ≤ n ∧ n ≤ 100 ∧ Well H w ∧ ∀ (p : Addr) (us : List Str) (H' : Hp), us.length = n.toNat → (∀ u ∈ us, goodN u) → Well H' w → But w H H' → H p = none → H' p = some (.lst (us.map V.str)) → Q (.ref p) H'
def sp_law_quiet (K : PySem.W.Frag) (a : Ad) : Sp := fun vs H Q E => ∃ w : Addr, vs = [.ref w] ∧ Well H w ∧ ∀ (x : V) (q : Option (Int × Int)) (H' : Hp), Well H' w → But w H H' → QV H' x q → Q x H'
def sp_law_marks (K : PySem.W.Frag) (a : Ad) : Sp := fun vs H Q E => ∃ (x : V) (q : Option (Int × Int)), vs = [x] ∧ QV H x q ∧ ∀ (l : Addr) (H' : Hp), Same H H' → H' l = some (.lst (qMk q)) → Q (.ref l) H'
def sp_law_slows (K : PySem.W.Frag) (a : Ad) : Sp := fun vs H Q E => ∃ (w : Addr) (n : Int), vs = [.ref w, .int n] ∧ 0 ≤ n ∧ n ≤ 100 ∧ Well H w ∧ ∀ (p : Addr) (ss : List Int) (H' : Hp), ss.length = n.toNat → (∀ s ∈ ss, 0 ≤ s) → Well H' w → But w H H' → H p = none → H' p = some (.lst (ss.map V.int)) → Q (.ref p) H'
def sp_law_moment (K : PySem.W.Frag) (a : Ad) : Sp := fun vs H Q E => ∃ (w : Addr) (z s : Int) (x : V) (q : Option (Int × Int)), vs = [.ref w, .int z, x, .int s] ∧ Well H w ∧ QV H x q ∧ ∀ (r : Int) (H' : Hp), Well H' w → But w H H' → Q (.int r) H'
def sp_law_usable (K : PySem.W.Frag) (a : Ad) : Sp := fun vs H Q E => ∃ (sp l : Addr) (ss : List Int) (x : V) (q : Option (Int × Int)) (z m : Int) (b : Bool), vs = [.ref sp, .ref l, .int z, .bl b, .int m] ∧ H sp = some (.lst (ss.map V.int)) ∧ ss.length ≤ 100 ∧ QV H x q ∧ H l = some (.lst (qMk q)) ∧ ∀ (D : Addr) (H' : Hp), Same H H' → H D = none → H' D = some (.lst ((useIx (useB b q z m) 0 ss).map fun i => V.int (i : Nat))) → Q (.ref D) H'
def sp_law_told (K : PySem.W.Frag) (a : Ad) : Sp := fun vs H Q E => ∃ (t fl d dl np : Addr) (M : Int) (us : List Str) (ix : List Nat) (rs : List RI), vs = [.ref t, .ref d, .ref np] ∧ H t = some (.tup [.int M, .ref fl]) ∧ RoadsAt a H fl rs ∧ H d = some (.tup [.int M, .ref dl]) ∧ H dl = some (.lst (ix.map fun i => V.int (i : Nat))) ∧ H np = some (.lst (us.map V.str)) ∧ (∀ u ∈ us, goodN u) ∧ ix.map (us[·]?) = rs.map (fun r => some r.2.1) ∧ rs.length ≤ 100 ∧ us.length ≤ 100 ∧ ∀ H', Same H H' → Q (.bl true) H'
def spL (K : PySem.W.Frag) : Sp := fun vs H Q _ => ∃ (a : Addr) (ns : List Int), vs = [.ref a] ∧ SqL K H a (ns.map V.int) ∧ ns.length ≤ 63 ∧ ∀ H', Q (.bl true) H'
abbrev sp_law (K : PySem.W.Frag) (_ : Ad) : Sp := spL K
section
variable {P : Program} {w : World} {K : PySem.W.Frag} {mg : Str → Option Value} {base : Heap} {f : Addr} {fd : FuncData} {a : Ad}
theorem drw {H : Hp} {w : Addr} {m : Int} {Q : VK} {E : XK} (W : Well H w) (h0 : 0 < m) (h1 : m < 2 ^ 62) (q : ∀ (r : Int) (H' : Hp), 0 ≤ r → r < m → Well H' w → But w H H' → Q (.int r) H') : sp_law_draw K a [.ref w, .int m] H Q E := ⟨w, m, rfl, W, h0, h1, q⟩
theorem ok_is_whole (B : Bt K mg a)  (F : Fun K "is_whole" "is_whole" s_is_whole f fd) : FnOk P w K mg base CX0 1 f fd ["thing"] (sp_is_whole K a) := by
  refine F.ok sc_is_whole (fun vs H Q E h => ?_) (fun cdv A outer s H vs Q E hr h => ?_)
  · obtain ⟨x, rfl, _⟩ := h
    rfl
  obtain ⟨x, rfl, ox, q⟩ := h
  refine ⟨_, (pss_of (qss_one (qs_ret (qe_of (pe_and (pe_callB call_isi_int rfl B.isinstance PyProof.Rows.boot_isinstance (pa_of (qa_c (pv 0) (qa_c (pe_bltn (v := .ty "int") rfl B.int PyProof.Rows.boot_int rfl) qa_nil))) (he := star_plain _ _ _ rfl) (hpl := plain_any rfl)) (pe_one (pe_not (pe_callB call_isi_bool rfl B.isinstance PyProof.Rows.boot_isinstance (pa_of (qa_c (pv 0) (qa_c (pe_bltn (v := .ty "bool") rfl B.bool PyProof.Rows.boot_bool rfl) qa_nil))) (he := star_plain _ _ _ rfl) (hpl := plain_any rfl))))))))), ?_⟩
  walk_at "w"
  refine ⟨ox, ?_⟩
  cases x <;> simp_all [isIntV, isBoolV, wholeV, okV]
theorem ok_law_whole (B : Bt K mg a)  (F : Fun K "_law_whole" "_law_whole" s_law_whole f fd) : FnOk P w K mg base CX0 1 f fd ["_law_found"] (sp_law_whole K a) := by
  refine F.ok sc_law_whole (fun vs H Q E h => ?_) (fun cdv A outer s H vs Q E hr h => ?_)
  · obtain ⟨x, rfl, _⟩ := h
    rfl
  obtain ⟨x, rfl, ox, q⟩ := h
  refine ⟨_, (pss_of (qss_one (qs_ret (qe_of (pe_and (pe_callB call_isi_int rfl B.isinstance PyProof.Rows.boot_isinstance (pa_of (qa_c (pv 0) (qa_c (pe_bltn (v := .ty "int") rfl B.int PyProof.Rows.boot_int rfl) qa_nil))) (he := star_plain _ _ _ rfl) (hpl := plain_any rfl)) (pe_one (pe_not (pe_callB call_isi_bool rfl B.isinstance PyProof.Rows.boot_isinstance (pa_of (qa_c (pv 0) (qa_c (pe_bltn (v := .ty "bool") rfl B.bool PyProof.Rows.boot_bool rfl) qa_nil))) (he := star_plain _ _ _ rfl) (hpl := plain_any rfl))))))))), ?_⟩
  walk_at "w"
  refine ⟨ox, ?_⟩
  cases x <;> simp_all [isIntV, isBoolV, wholeV, okV]
theorem ok_is_whole_from (B : Bt K mg a) (C_is_whole : CalX P w K mg base "is_whole" ["thing"] 1 (sp_is_whole K a)) (F : Fun K "is_whole_from" "is_whole_from" s_is_whole_from f fd) : FnOk P w K mg base CX0 2 f fd ["thing", "least"] (sp_is_whole_from K a) := by
  refine F.ok sc_is_whole_from (fun vs H Q E h => ?_) (fun cdv A outer s H vs Q E hr h => ?_)
  · obtain ⟨x, lo, rfl, _⟩ := h
    rfl
  obtain ⟨x, lo, rfl, ox, q⟩ := h
  refine ⟨_, (pss_of (qss_one (qs_ret (qe_of (pe_and (pe_calN C_is_whole (hr.mono (by decide)) rfl (pa_of (qa_c (pv 0) qa_nil)) (he := star_plain _ _ _ rfl) (hpl := plain_any rfl)) (pe_one (pe_cmpR op_le (pv 1) (pv 0) (nomark _)))))))), ?_⟩
  walk_at "w"
  refine ⟨x, rfl, ox, ?_⟩
  cases x <;> simp_all [wholeV, fromV]
theorem ok_is_whole_between (B : Bt K mg a) (C_is_whole : CalX P w K mg base "is_whole" ["thing"] 1 (sp_is_whole K a)) (F : Fun K "is_whole_between" "is_whole_between" s_is_whole_between f fd) : FnOk P w K mg base CX0 2 f fd ["thing", "least", "most"] (sp_is_whole_between K a) := by
  refine F.ok sc_is_whole_between (fun vs H Q E h => ?_) (fun cdv A outer s H vs Q E hr h => ?_)
  · obtain ⟨x, lo, hi, rfl, _⟩ := h
    rfl
  obtain ⟨x, lo, hi, rfl, ox, q⟩ := h
  refine ⟨_, (pss_of (qss_one (qs_ret (qe_of (pe_and (pe_calN C_is_whole (hr.mono (by decide)) rfl (pa_of (qa_c (pv 0) qa_nil)) (he := star_plain _ _ _ rfl) (hpl := plain_any rfl)) (pe_and (pe_cmpR op_le (pv 1) (pv 0) (nomark _)) (pe_one (pe_cmpR op_le (pv 0) (pv 2) (nomark _))))))))), ?_⟩
  walk_at "w"
  refine ⟨x, rfl, ox, ?_⟩
  cases x <;> simp_all [wholeV, betwV]
  split <;> simp_all
theorem ok_is_minute_of_day (B : Bt K mg a) (C_is_whole_between : CalX P w K mg base "is_whole_between" ["thing", "least", "most"] 2 (sp_is_whole_between K a)) (F : Fun K "is_minute_of_day" "is_minute_of_day" s_is_minute_of_day f fd) : FnOk P w K mg base CX0 3 f fd ["thing"] (sp_is_minute_of_day K a) := by
  refine F.ok sc_is_minute_of_day (fun vs H Q E h => ?_) (fun cdv A outer s H vs Q E hr h => ?_)
  · obtain ⟨x, rfl, _⟩ := h
    rfl
  obtain ⟨x, rfl, ox, q⟩ := h
  refine ⟨_, (pss_of (qss_one (qs_ret (qe_of (pe_calN C_is_whole_between (hr.mono (by decide)) rfl (pa_of (qa_c (pv 0) (qa_c pe_int (qa_c (pe_op op_sub (pe_glob (v := .int 1440) rfl B.MINUTES_OF_DAY ⟨_, rfl⟩) pe_int) qa_nil)))) (he := star_plain _ _ _ rfl) (hpl := plain_any rfl)))))), ?_⟩
  walk_at "w"
  exact ⟨x, 0, 1440 - 1, rfl, ox, q⟩
theorem ok_check_zone (B : Bt K mg a) (C_is_whole_between : CalX P w K mg base "is_whole_between" ["thing", "least", "most"] 2 (sp_is_whole_between K a)) (F : Fun K "check_zone" "check_zone" s_check_zone f fd) : FnOk P w K mg base CX0 3 f fd ["zone"] (sp_check_zone K a) := by
  refine F.ok sc_check_zone (fun vs H Q E h => ?_) (fun cdv A outer s H vs Q E hr h => ?_)
  · obtain ⟨z, rfl, _⟩ := h
    rfl
  obtain ⟨z, rfl, z0, z1, q⟩ := h
  refine ⟨_, (pss_of (qss_one (qs_if (pt_not (pt_val (pe_calN C_is_whole_between (hr.mono (by decide)) rfl (pa_of (qa_c (pv 0) (qa_c (pe_op op_sub pe_int (pe_glob (v := .int 1440) rfl B.MINUTES_OF_DAY ⟨_, rfl⟩)) (qa_c (pe_op op_sub (pe_glob (v := .int 1440) rfl B.MINUTES_OF_DAY ⟨_, rfl⟩) pe_int) qa_nil)))) (he := star_plain _ _ _ rfl) (hpl := plain_any rfl)))) (qss_of pss_never) qss_nil))), ?_⟩
  walk_at "w"
  refine ⟨_, _, _, rfl, trivial, ?_⟩
  have e : betwV (.int z) (1 - 1440) (1440 - 1) = true := by simp [betwV]; omega
  simp only [e]
  simp [q, w_next]
theorem ok_check_minute_of_day (B : Bt K mg a) (C_is_minute_of_day : CalX P w K mg base "is_minute_of_day" ["thing"] 3 (sp_is_minute_of_day K a)) (F : Fun K "check_minute_of_day" "check_minute_of_day" s_check_minute_of_day f fd) : FnOk P w K mg base CX0 4 f fd ["minute"] (sp_check_minute_of_day K a) := by
  refine F.ok sc_check_minute_of_day (fun vs H Q E h => ?_) (fun cdv A outer s H vs Q E hr h => ?_)
  · obtain ⟨z, rfl, _⟩ := h
    rfl
  obtain ⟨z, rfl, z0, z1, q⟩ := h
  refine ⟨_, (pss_of (qss_one (qs_if (pt_not (pt_val (pe_calN C_is_minute_of_day (hr.mono (by decide)) rfl (pa_of (qa_c (pv 0) qa_nil)) (he := star_plain _ _ _ rfl) (hpl := plain_any rfl)))) (qss_of pss_never) qss_nil))), ?_⟩
  walk_at "w"
  refine ⟨_, rfl, trivial, ?_⟩
  have e : betwV (.int z) 0 1439 = true := by simp [betwV]; omega
  simp only [e]
  simp [q, w_next]
theorem ok_next_day (B : Bt K mg a) (C_check_minute_of_day : CalX P w K mg base "check_minute_of_day" ["minute"] 4 (sp_check_minute_of_day K a)) (C_check_zone : CalX P w K mg base "check_zone" ["zone"] 3 (sp_check_zone K a)) (F : Fun K "next_day" "next_day" s_next_day f fd) : FnOk P w K mg base CX0 5 f fd ["minute", "zone", "moment"] (sp_next_day K a) := by
  refine F.ok sc_next_day (fun vs H Q E h => ?_) (fun cdv A outer s H vs Q E hr h => ?_)
  · obtain ⟨i, z, m, rfl, _⟩ := h
    rfl
  obtain ⟨i, z, m, rfl, i0, i1, z0, z1, q⟩ := h
  refine ⟨_, (pss_of (qss_cons (qs_of (ps_expr (pe_calN C_check_minute_of_day (hr.mono (by decide)) rfl (pa_of (qa_c (pv 0) qa_nil)) (he := star_plain _ _ _ rfl) (hpl := plain_any rfl)))) (qss_cons (qs_of (ps_expr (pe_calN C_check_zone (hr.mono (by decide)) rfl (pa_of (qa_c (pv 1) qa_nil)) (he := star_plain _ _ _ rfl) (hpl := plain_any rfl)))) (qss_one (qs_ret (qe_of (pe_op op_add (pv 2) (pe_op op_mod (pe_op op_sub (pe_op op_sub (pv 0) (pv 2)) (pv 1)) (pe_glob (v := .int 1440) rfl B.MINUTES_OF_DAY ⟨_, rfl⟩))))))))), ?_⟩
  walk_at "w"
  refine ⟨i, rfl, i0, i1, ?_⟩
  walk_at "w"
  refine ⟨z, rfl, z0, z1, ?_⟩
  walk_at "w"
  exact ⟨by decide, q⟩
theorem ok_shown (B : Bt K mg a) (C_check_zone : CalX P w K mg base "check_zone" ["zone"] 3 (sp_check_zone K a)) (F : Fun K "shown" "shown" s_shown f fd) : FnOk P w K mg base CX0 4 f fd ["moment", "zone"] (sp_shown K a) := by
  refine F.ok sc_shown (fun vs H Q E h => ?_) (fun cdv A outer s H vs Q E hr h => ?_)
  · obtain ⟨m, z, rfl, _⟩ := h
    rfl
  obtain ⟨m, z, rfl, z0, z1, q⟩ := h
  refine ⟨_, (pss_of (qss_cons (qs_of (ps_expr (pe_calN C_check_zone (hr.mono (by decide)) rfl (pa_of (qa_c (pv 1) qa_nil)) (he := star_plain _ _ _ rfl) (hpl := plain_any rfl)))) (qss_cons (qs_set (i := 2) sc_shown.nd rfl (Or.inl rfl) (qe_of (pe_op op_add (pv 0) (pv 1))) (by kernel_rfl)) (qss_one (qs_ret (qe_of (pe_tup (pa_of (qa_c (pe_op op_fdivL (pv 2) (pe_glob (v := .int 1440) rfl B.MINUTES_OF_DAY ⟨_, rfl⟩)) (qa_c (pe_op op_mod (pv 2) (pe_glob (v := .int 1440) rfl B.MINUTES_OF_DAY ⟨_, rfl⟩)) qa_nil)))))))))), ?_⟩
  walk_at "w"
  refine ⟨z, rfl, z0, z1, ?_⟩
  walk_at "w"
  exact ⟨⟨by decide, by decide⟩, by decide, sz8 (by decide), q⟩
theorem ok_is_quiet_hours (B : Bt K mg a) (C_is_minute_of_day : CalX P w K mg base "is_minute_of_day" ["thing"] 3 (sp_is_minute_of_day K a)) (F : Fun K "is_quiet_hours" "is_quiet_hours" s_is_quiet_hours f fd) : FnOk P w K mg base CX0 4 f fd ["thing"] (sp_is_quiet_hours K a) := by
  refine F.ok sc_is_quiet_hours (fun vs H Q E h => ?_) (fun cdv A outer s H vs Q E hr h => ?_)
  · obtain ⟨x, rfl, _⟩ := h
    rfl
  obtain ⟨x, rfl, hx, q⟩ := h
  refine ⟨_, (pss_of (qss_cons (qs_if (pt_cmp (pc_isN (pv 0))) (qss_one (qs_ret (qe_of pe_bl))) qss_nil) (qss_cons (qs_if (L2.PW.pt (pw_or (pt_not (pt_val (pe_callB call_isi_tuple rfl B.isinstance PyProof.Rows.boot_isinstance (pa_of (qa_c (pv 0) (qa_c (pe_bltn (v := .ty "tuple") rfl B.tuple PyProof.Rows.boot_tuple rfl) qa_nil))) (he := star_plain _ _ _ rfl) (hpl := plain_any rfl)))) (pw_or1 (pt_cmpR op_ne (pe_callB call_len rfl B.len PySem.boot_len (pa_of (qa_c (pv 0) qa_nil))) pe_int (nomark _))))) (qss_one (qs_ret (qe_of pe_bl))) qss_nil) (qss_one (qs_ret (qe_of (pe_and (pe_calN C_is_minute_of_day (hr.mono (by decide)) rfl (pa_of (qa_c (pe_ix ix_tup (pv 0) pe_int (fun _ _ => rfl)) qa_nil)) (he := star_plain _ _ _ rfl) (hpl := plain_any rfl)) (pe_and (pe_calN C_is_minute_of_day (hr.mono (by decide)) rfl (pa_of (qa_c (pe_ix ix_tup (pv 0) pe_int (fun _ _ => rfl)) qa_nil)) (he := star_plain _ _ _ rfl) (hpl := plain_any rfl)) (pe_one (pe_cmpR op_ne (pe_ix ix_tup (pv 0) pe_int (fun _ _ => rfl)) (pe_ix ix_tup (pv 0) pe_int (fun _ _ => rfl)) (nomark _))))))))))), ?_⟩
  rcases hx with rfl | ⟨p, s, e, rfl, hq⟩
  · walk_at "w"
    exact q
  have et : isTupV H (.ref p) = true := by simp [isTupV, hq.at_]
  walk_at "w"
  refine ⟨.inr ⟨_, hq.at_⟩, ?_⟩
  try simp only [et, w_seq, w_next, w_ifS, w_ret, w_retN, w_drop, w_asg, w_gName, w_gSub, w_var, w_c, w_op, w_un, w_rU, w_rI0, w_rI, w_test, w_b, w_and, w_or, w_not, w_andV, w_orV, w_notV, w_if, w_cons, w_nil, w_tup, w_lst, w_call, w_cB, w_eq, w_ne, w_isN, w_notN, w_chain, w_sl, w_part, w_noPart, w_forL, w_for1, w_for2, w_K, w_for3, w_isnotB, w_raise, w_try, w_KX, w_cut, w_compL, w_comp1, w_comp2, w_yes, w_pick0, w_pickN, w_pickS, w_bm, w_bm0, w_tyS, w_addS, w_slS, w_blkK, w_strs, w_methD, w_makeN, w_make, w_fld, w_gTup, w_gCons, w_gNil, w_sFld, w_compS, w_tryB, w_bmake, w_noKeys, w_nev, w_never, Option.getD_some,  exists_const, false_or, or_false, exists_false, w_s1, w_s2, w_s3, w_s4, w_s5, L2.start, List.map_cons, List.map_nil, List.length_cons, List.length_nil, List.replicate, List.replicate_zero, List.replicate_succ, Nat.reduceAdd, Nat.reduceSub, Nat.reduceLeDiff, List.cons_append, List.nil_append, List.append_nil, List.set_cons_zero, List.set_cons_succ, List.getElem?_cons_zero, List.getElem?_cons_succ, Option.some.injEq, V.int.injEq, V.bl.injEq, V.ref.injEq, V.str.injEq, V.ty.injEq, List.cons.injEq, and_true, true_and, exists_eq_left, exists_eq_left', exists_and_left, exists_eq, exists_eq', and_self, decide_eq_true_eq, Bool.not_eq_true', decide_eq_false_iff_not, Bool.true_eq_false, Bool.false_eq_true, if_true, if_false, ite_true, ite_false, false_and, and_false, and_assoc, reduceCtorEq]
  refine ⟨_, .inr ⟨_, SqT.of hq.at_, rfl⟩, ?_⟩
  walk_at "w"
  refine (if_neg (by simp)).mpr ?_
  refine ixt (SqT.of hq.at_) (v := .int s) rfl ?_
  refine ⟨_, rfl, trivial, ?_⟩
  have b1 : betwV (.int s) 0 1439 = true := by simp [betwV]; exact ⟨hq.s0, hq.s1⟩
  have b2 : betwV (.int e) 0 1439 = true := by simp [betwV]; exact ⟨hq.e0, hq.e1⟩
  try simp only [b1, w_seq, w_next, w_ifS, w_ret, w_retN, w_drop, w_asg, w_gName, w_gSub, w_var, w_c, w_op, w_un, w_rU, w_rI0, w_rI, w_test, w_b, w_and, w_or, w_not, w_andV, w_orV, w_notV, w_if, w_cons, w_nil, w_tup, w_lst, w_call, w_cB, w_eq, w_ne, w_isN, w_notN, w_chain, w_sl, w_part, w_noPart, w_forL, w_for1, w_for2, w_K, w_for3, w_isnotB, w_raise, w_try, w_KX, w_cut, w_compL, w_comp1, w_comp2, w_yes, w_pick0, w_pickN, w_pickS, w_bm, w_bm0, w_tyS, w_addS, w_slS, w_blkK, w_strs, w_methD, w_makeN, w_make, w_fld, w_gTup, w_gCons, w_gNil, w_sFld, w_compS, w_tryB, w_bmake, w_noKeys, w_nev, w_never, Option.getD_some,  exists_const, false_or, or_false, exists_false, w_s1, w_s2, w_s3, w_s4, w_s5, L2.start, List.map_cons, List.map_nil, List.length_cons, List.length_nil, List.replicate, List.replicate_zero, List.replicate_succ, Nat.reduceAdd, Nat.reduceSub, Nat.reduceLeDiff, List.cons_append, List.nil_append, List.append_nil, List.set_cons_zero, List.set_cons_succ, List.getElem?_cons_zero, List.getElem?_cons_succ, Option.some.injEq, V.int.injEq, V.bl.injEq, V.ref.injEq, V.str.injEq, V.ty.injEq, List.cons.injEq, and_true, true_and, exists_eq_left, exists_eq_left', exists_and_left, exists_eq, exists_eq', and_self, decide_eq_true_eq, Bool.not_eq_true', decide_eq_false_iff_not, Bool.true_eq_false, Bool.false_eq_true, if_true, if_false, ite_true, ite_false, false_and, and_false, and_assoc, reduceCtorEq]
  refine ixt (SqT.of hq.at_) (v := .int e) rfl ?_
  refine ⟨_, rfl, trivial, ?_⟩
  try simp only [b2, w_seq, w_next, w_ifS, w_ret, w_retN, w_drop, w_asg, w_gName, w_gSub, w_var, w_c, w_op, w_un, w_rU, w_rI0, w_rI, w_test, w_b, w_and, w_or, w_not, w_andV, w_orV, w_notV, w_if, w_cons, w_nil, w_tup, w_lst, w_call, w_cB, w_eq, w_ne, w_isN, w_notN, w_chain, w_sl, w_part, w_noPart, w_forL, w_for1, w_for2, w_K, w_for3, w_isnotB, w_raise, w_try, w_KX, w_cut, w_compL, w_comp1, w_comp2, w_yes, w_pick0, w_pickN, w_pickS, w_bm, w_bm0, w_tyS, w_addS, w_slS, w_blkK, w_strs, w_methD, w_makeN, w_make, w_fld, w_gTup, w_gCons, w_gNil, w_sFld, w_compS, w_tryB, w_bmake, w_noKeys, w_nev, w_never, Option.getD_some,  exists_const, false_or, or_false, exists_false, w_s1, w_s2, w_s3, w_s4, w_s5, L2.start, List.map_cons, List.map_nil, List.length_cons, List.length_nil, List.replicate, List.replicate_zero, List.replicate_succ, Nat.reduceAdd, Nat.reduceSub, Nat.reduceLeDiff, List.cons_append, List.nil_append, List.append_nil, List.set_cons_zero, List.set_cons_succ, List.getElem?_cons_zero, List.getElem?_cons_succ, Option.some.injEq, V.int.injEq, V.bl.injEq, V.ref.injEq, V.str.injEq, V.ty.injEq, List.cons.injEq, and_true, true_and, exists_eq_left, exists_eq_left', exists_and_left, exists_eq, exists_eq', and_self, decide_eq_true_eq, Bool.not_eq_true', decide_eq_false_iff_not, Bool.true_eq_false, Bool.false_eq_true, if_true, if_false, ite_true, ite_false, false_and, and_false, and_assoc, reduceCtorEq]
  refine ixt (SqT.of hq.at_) (v := .int s) rfl ?_
  refine ixt (SqT.of hq.at_) (v := .int e) rfl ?_
  walk_at "w"
  rw [decide_eq_false hq.ne]
  exact q
theorem ok_check_quiet (B : Bt K mg a) (C_is_quiet_hours : CalX P w K mg base "is_quiet_hours" ["thing"] 4 (sp_is_quiet_hours K a)) (F : Fun K "check_quiet" "check_quiet" s_check_quiet f fd) : FnOk P w K mg base CX0 5 f fd ["quiet"] (sp_check_quiet K a) := by
  refine F.ok sc_check_quiet (fun vs H Q E h => ?_) (fun cdv A outer s H vs Q E hr h => ?_)
  · obtain ⟨x, rfl, _⟩ := h
    rfl
  obtain ⟨x, rfl, hx, q⟩ := h
  refine ⟨_, (pss_of (qss_one (qs_if (pt_not (pt_val (pe_calN C_is_quiet_hours (hr.mono (by decide)) rfl (pa_of (qa_c (pv 0) qa_nil)) (he := star_plain _ _ _ rfl) (hpl := plain_any rfl)))) (qss_of pss_never) qss_nil))), ?_⟩
  walk_at "w"
  refine ⟨x, rfl, hx, ?_⟩
  walk_at "w"
  exact q
theorem ok_is_quiet (B : Bt K mg a) (C_check_quiet : CalX P w K mg base "check_quiet" ["quiet"] 5 (sp_check_quiet K a)) (C_shown : CalX P w K mg base "shown" ["moment", "zone"] 4 (sp_shown K a)) (F : Fun K "is_quiet" "is_quiet" s_is_quiet f fd) : FnOk P w K mg base CX0 6 f fd ["quiet", "zone", "moment"] (sp_is_quiet K a) := by
  refine F.ok sc_is_quiet (fun vs H Q E h => ?_) (fun cdv A outer s H vs Q E hr h => ?_)
  · obtain ⟨x, qh, z, m, rfl, _⟩ := h
    rfl
  obtain ⟨x, qh, z, m, rfl, z0, z1, hv, q⟩ := h
  refine ⟨_, (pss_of (qss_cons (qs_of (ps_expr (pe_calN C_check_quiet (hr.mono (by decide)) rfl (pa_of (qa_c (pv 0) qa_nil)) (he := star_plain _ _ _ rfl) (hpl := plain_any rfl)))) (qss_cons (qs_set (i := 3) sc_is_quiet.nd rfl (Or.inl rfl) (qe_of (pe_ix ix_tup (pe_calN C_shown (hr.mono (by decide)) rfl (pa_of (qa_c (pv 2) (qa_c (pv 1) qa_nil))) (he := star_plain _ _ _ rfl) (hpl := plain_any rfl)) pe_int (fun _ _ => rfl))) (by kernel_rfl)) (qss_cons (qs_if (pt_cmp (pc_isN (pv 0))) (qss_one (qs_ret (qe_of pe_bl))) qss_nil) (qss_cons (qs_set (i := 4) sc_is_quiet.nd rfl (Or.inl rfl) (qe_of (pe_ix ix_tup (pv 0) pe_int (fun _ _ => rfl))) (by kernel_rfl)) (qss_cons (qs_set (i := 5) sc_is_quiet.nd rfl (Or.inl rfl) (qe_of (pe_ix ix_tup (pv 0) pe_int (fun _ _ => rfl))) (by kernel_rfl)) (qss_cons (qs_if (pt_cmpR op_lt (pv 4) (pv 5) (nomark _)) (qss_one (qs_ret (qe_of (pe_and (pe_cmpR op_le (pv 4) (pv 3) (nomark _)) (pe_one (pe_cmpR op_lt (pv 3) (pv 5) (nomark _))))))) qss_nil) (qss_one (qs_ret (qe_of (pe_or (pe_cmpR op_le (pv 4) (pv 3) (nomark _)) (pe_one (pe_cmpR op_lt (pv 3) (pv 5) (nomark _)))))))))))))), ?_⟩
  walk_at "w"
  refine ⟨x, rfl, hv.old, ?_⟩
  walk_at "w"
  refine ⟨m, z, rfl, z0, z1, fun pp hpp => ?_⟩
  refine ixt (SqT.of upd_same) (v := .int ((m + z) % 1440)) rfl ?_
  walk_at "w"
  have sm := same_new hpp (.tup [.int ((m + z) / 1440), .int ((m + z) % 1440)])
  match qh, hv, q with
  | none, hn, q =>
    have en : x = .non := hn
    subst en
    walk_at "w"
    exact q _ sm
  | some (s, e), ⟨p, ex, hq⟩, q =>
    subst ex
    walk_at "w"
    have hq2 := hq.same sm
    have q2 : Q (.bl (quietB s e ((m + z) % 1440))) _ := q _ sm
    refine ixt (SqT.of hq2.at_) (v := .int s) rfl ?_
    walk_at "w"
    refine ixt (SqT.of hq2.at_) (v := .int e) rfl ?_
    walk_at "w"
    unfold quietB at q2
    by_cases h1 : s < e
    · rw [if_pos h1]
      rw [if_pos h1] at q2
      walk_at "w"
      by_cases h2 : s ≤ (m + z) % 1440
      · rw [if_pos h2]
        rw [decide_eq_true h2, Bool.true_and] at q2
        exact q2
      · rw [if_neg h2]
        rw [decide_eq_false h2, Bool.false_and] at q2
        exact q2
    · rw [if_neg h1]
      rw [if_neg h1] at q2
      walk_at "w"
      by_cases h2 : s ≤ (m + z) % 1440
      · rw [if_pos h2]
        rw [decide_eq_true h2, Bool.true_or] at q2
        exact q2
      · rw [if_neg h2]
        rw [decide_eq_false h2, Bool.false_or] at q2
        exact q2
theorem put3 {n1 n2 n3 : Str} {v1 v2 v3 : V} (h12 : n1 ≠ n2) (h13 : n1 ≠ n3) (h23 : n2 ≠ n3) : putF n3 v3 (putF n2 v2 (putF n1 v1 [])) = [(n1, v1), (n2, v2), (n3, v3)] ∧ (putF n2 v2 (putF n1 v1 [])).length = 2 ∧ (putF n1 v1 []).length = 1 := by
  have e1 : putF n1 v1 [] = [(n1, v1)] := rfl
  have e2 : putF n2 v2 [(n1, v1)] = [(n1, v1), (n2, v2)] := by
    show (if n1 = n2 then _ else _ : List (Str × V)) = _
    rw [if_neg h12]
    rfl
  have e3 : putF n3 v3 [(n1, v1), (n2, v2)] = [(n1, v1), (n2, v2), (n3, v3)] := by
    show (if n1 = n3 then _ else _ : List (Str × V)) = _
    rw [if_neg h13]
    show _ :: (if n2 = n3 then _ else _ : List (Str × V)) = _
    rw [if_neg h23]
    rfl
  rw [e1, e2, e3]
  exact ⟨rfl, rfl, rfl⟩
theorem put4 {n1 n2 n3 n4 : Str} {v1 v2 v3 v4 : V} (h14 : n1 ≠ n4) (h24 : n2 ≠ n4) (h34 : n3 ≠ n4) : putF n4 v4 [(n1, v1), (n2, v2), (n3, v3)] = [(n1, v1), (n2, v2), (n3, v3), (n4, v4)] := by
  show (if n1 = n4 then _ else _ : List (Str × V)) = _
  rw [if_neg h14]
  show _ :: (if n2 = n4 then _ else _ : List (Str × V)) = _
  rw [if_neg h24]
  show _ :: _ :: (if n3 = n4 then _ else _ : List (Str × V)) = _
  rw [if_neg h34]
  rfl
theorem ok_is_name (B : Bt K mg a)  (F : Fun K "is_name" "is_name" s_is_name f fd) : FnOk P w K mg base CX0 1 f fd ["thing"] (sp_is_name K a) := by
  refine F.ok sc_is_name (fun vs H Q E h => ?_) (fun cdv A outer s H vs Q E hr h => ?_)
  · obtain ⟨x, rfl, _⟩ := h
    rfl
  obtain ⟨x, rfl, ox, q⟩ := h
  refine ⟨_, (pss_of (qss_cons (qs_if (L2.PW.pt (pw_or (pt_not (pt_val (pe_callB call_isi_str rfl B.isinstance PyProof.Rows.boot_isinstance (pa_of (qa_c (pv 0) (qa_c (pe_bltn (v := .ty "str") rfl B.str PyProof.Rows.boot_str rfl) qa_nil))) (he := star_plain _ _ _ rfl) (hpl := plain_any rfl)))) (pw_or (pt_cmpR op_lt (pe_callB call_len_str rfl B.len PySem.boot_len (pa_of (qa_c (pv 0) qa_nil))) pe_int (nomark _)) (pw_or1 (pt_cmpR op_gt (pe_callB call_len_str rfl B.len PySem.boot_len (pa_of (qa_c (pv 0) qa_nil))) (pe_glob (v := .int 8) rfl B.MOST_LETTERS ⟨_, rfl⟩) (nomark _)))))) (qss_one (qs_ret (qe_of pe_bl))) qss_nil) (qss_one (qs_ret (qe_of (pe_callB (call_all rfl) rfl B.all PyProof.Rows.boot_all (pa_of (qa_c (pe_compB ["sign"] [none] rfl (by kernel_rfl) (pi_str (pv 0)) (fun cl C s H fp => ⟨(pg_name (i := 0) (by decide : List.Nodup (["sign"] : List Str)) rfl (Or.inl (by kernel_rfl)) (Or.inr (by kernel_rfl))), pts_nil, (pe_cmpR op_in_str (pv 0 (hv := Or.inl (by kernel_rfl))) (pe_glob (v := .str "abcdefghijklmnopqrstuvwxyz") (gl_of (by kernel_rfl)) B.LETTERS ⟨_, rfl⟩) (by with_unfolding_all rfl))⟩)) qa_nil)) (he := star_plain _ _ _ rfl) (hpl := plain_any rfl))))))), ?_⟩
  cases x with
  | str u =>
    obtain ⟨hp, hl⟩ := id ox
    try simp only [isStrV, w_seq, w_next, w_ifS, w_ret, w_retN, w_drop, w_asg, w_gName, w_gSub, w_var, w_c, w_op, w_un, w_rU, w_rI0, w_rI, w_test, w_b, w_and, w_or, w_not, w_andV, w_orV, w_notV, w_if, w_cons, w_nil, w_tup, w_lst, w_call, w_cB, w_eq, w_ne, w_isN, w_notN, w_chain, w_sl, w_part, w_noPart, w_forL, w_for1, w_for2, w_K, w_for3, w_isnotB, w_raise, w_try, w_KX, w_cut, w_compL, w_comp1, w_comp2, w_yes, w_pick0, w_pickN, w_pickS, w_bm, w_bm0, w_tyS, w_addS, w_slS, w_blkK, w_strs, w_methD, w_makeN, w_make, w_fld, w_gTup, w_gCons, w_gNil, w_sFld, w_compS, w_tryB, w_bmake, w_noKeys, w_nev, w_never, Option.getD_some,  exists_const, false_or, or_false, exists_false, w_s1, w_s2, w_s3, w_s4, w_s5, L2.start, List.map_cons, List.map_nil, List.length_cons, List.length_nil, List.replicate, List.replicate_zero, List.replicate_succ, Nat.reduceAdd, Nat.reduceSub, Nat.reduceLeDiff, List.cons_append, List.nil_append, List.append_nil, List.set_cons_zero, List.set_cons_succ, List.getElem?_cons_zero, List.getElem?_cons_succ, Option.some.injEq, V.int.injEq, V.bl.injEq, V.ref.injEq, V.str.injEq, V.ty.injEq, List.cons.injEq, and_true, true_and, exists_eq_left, exists_eq_left', exists_and_left, exists_eq, exists_eq', and_self, decide_eq_true_eq, Bool.not_eq_true', decide_eq_false_iff_not, Bool.true_eq_false, Bool.false_eq_true, if_true, if_false, ite_true, ite_false, false_and, and_false, and_assoc, reduceCtorEq]
    refine ⟨ox, sz8 hl, ?_⟩
    by_cases h1 : ((u.length : Nat) : Int) < 1
    · rw [if_pos h1]
      have e : nameB (.str u) = false := decide_eq_false fun g => by have := g.1; omega
      rw [e] at q
      exact q _ fun _ _ z => z
    rw [if_neg h1]
    refine ⟨sz8 hl, ?_⟩
    by_cases h2 : (8 : Int) < ((u.length : Nat) : Int)
    · rw [if_pos h2]
      have e : nameB (.str u) = false := decide_eq_false fun g => by have := g.2.1; omega
      rw [e] at q
      exact q _ fun _ _ z => z
    rw [if_neg h2]
    refine ⟨hp, ?_⟩
    refine CompS.by (fun i acc σ H' => acc = (u.cps.toList.take i).map (fun c => V.bl (!(Builtin.Str.occurrences letters ⟨#[c]⟩ 0 letters.length 1).isEmpty)) ∧ (∃ v, σ = [v]) ∧ H' = H) (sz8 hl) ⟨rfl, ⟨_, rfl⟩, rfl⟩ ?_ ?_ ?_
    · rintro i c acc σ H' hc ⟨rfl, ⟨v, rfl⟩, rfl⟩
      have hc' : u.cps.toList[i]? = some c := by simpa using hc
      have ea : (u.cps.toList.take i).map (fun c => V.bl (!(Builtin.Str.occurrences letters ⟨#[c]⟩ 0 letters.length 1).isEmpty)) ++ [V.bl (!(Builtin.Str.occurrences letters ⟨#[c]⟩ 0 letters.length 1).isEmpty)] = (u.cps.toList.take (i + 1)).map (fun c => V.bl (!(Builtin.Str.occurrences letters ⟨#[c]⟩ 0 letters.length 1).isEmpty)) := by
        rw [List.take_succ, hc', List.map_append]
        rfl
      walk_at "w"
      first | exact ea | exact ⟨ea, ⟨_, rfl⟩, rfl⟩
    · rintro i acc σ H' ⟨rfl, _, _⟩
      rw [List.length_map, List.length_take]
      omega
    · rintro acc σ H' ⟨rfl, ⟨v, rfl⟩, rfl⟩ D hD
      have e : (u.cps.toList.take u.cps.size).map (fun c => V.bl (!(Builtin.Str.occurrences letters ⟨#[c]⟩ 0 letters.length 1).isEmpty)) = (u.cps.toList.map fun c => !(Builtin.Str.occurrences letters ⟨#[c]⟩ 0 letters.length 1).isEmpty).map V.bl := by
        rw [List.take_of_length_le (by simp), List.map_map]
        rfl
      rw [e]
      refine ⟨D, rfl, _, SqL.of upd_same, ?_⟩
      have e2 : nameB (.str u) = decide (∀ c ∈ u.cps.toList, 97 ≤ c ∧ c ≤ 122) := by
        rw [Bool.eq_iff_iff]
        refine ⟨fun g => ?_, fun g => ?_⟩
        · have g' : goodN u := of_decide_eq_true g
          exact decide_eq_true g'.2.2
        · exact decide_eq_true (p := goodN u) ⟨by omega, by omega, of_decide_eq_true g⟩
      rw [name_all hp, ← e2]
      exact q _ (same_new hD _)
  | non =>
    try simp only [isStrV, w_seq, w_next, w_ifS, w_ret, w_retN, w_drop, w_asg, w_gName, w_gSub, w_var, w_c, w_op, w_un, w_rU, w_rI0, w_rI, w_test, w_b, w_and, w_or, w_not, w_andV, w_orV, w_notV, w_if, w_cons, w_nil, w_tup, w_lst, w_call, w_cB, w_eq, w_ne, w_isN, w_notN, w_chain, w_sl, w_part, w_noPart, w_forL, w_for1, w_for2, w_K, w_for3, w_isnotB, w_raise, w_try, w_KX, w_cut, w_compL, w_comp1, w_comp2, w_yes, w_pick0, w_pickN, w_pickS, w_bm, w_bm0, w_tyS, w_addS, w_slS, w_blkK, w_strs, w_methD, w_makeN, w_make, w_fld, w_gTup, w_gCons, w_gNil, w_sFld, w_compS, w_tryB, w_bmake, w_noKeys, w_nev, w_never, Option.getD_some,  exists_const, false_or, or_false, exists_false, w_s1, w_s2, w_s3, w_s4, w_s5, L2.start, List.map_cons, List.map_nil, List.length_cons, List.length_nil, List.replicate, List.replicate_zero, List.replicate_succ, Nat.reduceAdd, Nat.reduceSub, Nat.reduceLeDiff, List.cons_append, List.nil_append, List.append_nil, List.set_cons_zero, List.set_cons_succ, List.getElem?_cons_zero, List.getElem?_cons_succ, Option.some.injEq, V.int.injEq, V.bl.injEq, V.ref.injEq, V.str.injEq, V.ty.injEq, List.cons.injEq, and_true, true_and, exists_eq_left, exists_eq_left', exists_and_left, exists_eq, exists_eq', and_self, decide_eq_true_eq, Bool.not_eq_true', decide_eq_false_iff_not, Bool.true_eq_false, Bool.false_eq_true, if_true, if_false, ite_true, ite_false, false_and, and_false, and_assoc, reduceCtorEq]
    exact ⟨ox, q _ fun _ _ z => z⟩
  | bl b =>
    try simp only [isStrV, w_seq, w_next, w_ifS, w_ret, w_retN, w_drop, w_asg, w_gName, w_gSub, w_var, w_c, w_op, w_un, w_rU, w_rI0, w_rI, w_test, w_b, w_and, w_or, w_not, w_andV, w_orV, w_notV, w_if, w_cons, w_nil, w_tup, w_lst, w_call, w_cB, w_eq, w_ne, w_isN, w_notN, w_chain, w_sl, w_part, w_noPart, w_forL, w_for1, w_for2, w_K, w_for3, w_isnotB, w_raise, w_try, w_KX, w_cut, w_compL, w_comp1, w_comp2, w_yes, w_pick0, w_pickN, w_pickS, w_bm, w_bm0, w_tyS, w_addS, w_slS, w_blkK, w_strs, w_methD, w_makeN, w_make, w_fld, w_gTup, w_gCons, w_gNil, w_sFld, w_compS, w_tryB, w_bmake, w_noKeys, w_nev, w_never, Option.getD_some,  exists_const, false_or, or_false, exists_false, w_s1, w_s2, w_s3, w_s4, w_s5, L2.start, List.map_cons, List.map_nil, List.length_cons, List.length_nil, List.replicate, List.replicate_zero, List.replicate_succ, Nat.reduceAdd, Nat.reduceSub, Nat.reduceLeDiff, List.cons_append, List.nil_append, List.append_nil, List.set_cons_zero, List.set_cons_succ, List.getElem?_cons_zero, List.getElem?_cons_succ, Option.some.injEq, V.int.injEq, V.bl.injEq, V.ref.injEq, V.str.injEq, V.ty.injEq, List.cons.injEq, and_true, true_and, exists_eq_left, exists_eq_left', exists_and_left, exists_eq, exists_eq', and_self, decide_eq_true_eq, Bool.not_eq_true', decide_eq_false_iff_not, Bool.true_eq_false, Bool.false_eq_true, if_true, if_false, ite_true, ite_false, false_and, and_false, and_assoc, reduceCtorEq]
    exact ⟨ox, q _ fun _ _ z => z⟩
  | int b =>
    try simp only [isStrV, w_seq, w_next, w_ifS, w_ret, w_retN, w_drop, w_asg, w_gName, w_gSub, w_var, w_c, w_op, w_un, w_rU, w_rI0, w_rI, w_test, w_b, w_and, w_or, w_not, w_andV, w_orV, w_notV, w_if, w_cons, w_nil, w_tup, w_lst, w_call, w_cB, w_eq, w_ne, w_isN, w_notN, w_chain, w_sl, w_part, w_noPart, w_forL, w_for1, w_for2, w_K, w_for3, w_isnotB, w_raise, w_try, w_KX, w_cut, w_compL, w_comp1, w_comp2, w_yes, w_pick0, w_pickN, w_pickS, w_bm, w_bm0, w_tyS, w_addS, w_slS, w_blkK, w_strs, w_methD, w_makeN, w_make, w_fld, w_gTup, w_gCons, w_gNil, w_sFld, w_compS, w_tryB, w_bmake, w_noKeys, w_nev, w_never, Option.getD_some,  exists_const, false_or, or_false, exists_false, w_s1, w_s2, w_s3, w_s4, w_s5, L2.start, List.map_cons, List.map_nil, List.length_cons, List.length_nil, List.replicate, List.replicate_zero, List.replicate_succ, Nat.reduceAdd, Nat.reduceSub, Nat.reduceLeDiff, List.cons_append, List.nil_append, List.append_nil, List.set_cons_zero, List.set_cons_succ, List.getElem?_cons_zero, List.getElem?_cons_succ, Option.some.injEq, V.int.injEq, V.bl.injEq, V.ref.injEq, V.str.injEq, V.ty.injEq, List.cons.injEq, and_true, true_and, exists_eq_left, exists_eq_left', exists_and_left, exists_eq, exists_eq', and_self, decide_eq_true_eq, Bool.not_eq_true', decide_eq_false_iff_not, Bool.true_eq_false, Bool.false_eq_true, if_true, if_false, ite_true, ite_false, false_and, and_false, and_assoc, reduceCtorEq]
    exact ⟨ox, q _ fun _ _ z => z⟩
  | ref b =>
    try simp only [isStrV, w_seq, w_next, w_ifS, w_ret, w_retN, w_drop, w_asg, w_gName, w_gSub, w_var, w_c, w_op, w_un, w_rU, w_rI0, w_rI, w_test, w_b, w_and, w_or, w_not, w_andV, w_orV, w_notV, w_if, w_cons, w_nil, w_tup, w_lst, w_call, w_cB, w_eq, w_ne, w_isN, w_notN, w_chain, w_sl, w_part, w_noPart, w_forL, w_for1, w_for2, w_K, w_for3, w_isnotB, w_raise, w_try, w_KX, w_cut, w_compL, w_comp1, w_comp2, w_yes, w_pick0, w_pickN, w_pickS, w_bm, w_bm0, w_tyS, w_addS, w_slS, w_blkK, w_strs, w_methD, w_makeN, w_make, w_fld, w_gTup, w_gCons, w_gNil, w_sFld, w_compS, w_tryB, w_bmake, w_noKeys, w_nev, w_never, Option.getD_some,  exists_const, false_or, or_false, exists_false, w_s1, w_s2, w_s3, w_s4, w_s5, L2.start, List.map_cons, List.map_nil, List.length_cons, List.length_nil, List.replicate, List.replicate_zero, List.replicate_succ, Nat.reduceAdd, Nat.reduceSub, Nat.reduceLeDiff, List.cons_append, List.nil_append, List.append_nil, List.set_cons_zero, List.set_cons_succ, List.getElem?_cons_zero, List.getElem?_cons_succ, Option.some.injEq, V.int.injEq, V.bl.injEq, V.ref.injEq, V.str.injEq, V.ty.injEq, List.cons.injEq, and_true, true_and, exists_eq_left, exists_eq_left', exists_and_left, exists_eq, exists_eq', and_self, decide_eq_true_eq, Bool.not_eq_true', decide_eq_false_iff_not, Bool.true_eq_false, Bool.false_eq_true, if_true, if_false, ite_true, ite_false, false_and, and_false, and_assoc, reduceCtorEq]
    exact ⟨ox, q _ fun _ _ z => z⟩
  | _ => exact ox.elim
theorem ok_Road___init__ (B : Bt K mg a) (C_is_name : CalX P w K mg base "is_name" ["thing"] 1 (sp_is_name K a)) (C_is_whole_from : CalX P w K mg base "is_whole_from" ["thing", "least"] 2 (sp_is_whole_from K a)) (F : FunA K "__init__" "Road.__init__" s_Road___init__ f fd) : FnOk P w K mg base CX0 3 f fd ["self", "name", "slow", "knows"] (sp_Road___init__ K a) := by
  refine FunA.ok F sc_Road___init__ (fun vs H Q E h => ?_) (fun cdv A outer s H vs Q E hr h => ?_)
  · obtain ⟨p, dx, u, s, b, rfl, _⟩ := h
    rfl
  obtain ⟨p, dx, u, s, b, rfl, hp, gu, s0, q⟩ := h
  refine ⟨_, (pss_of (qss_cons (qs_if (L2.PW.pt (pw_or (pt_not (pt_val (pe_calN C_is_name (hr.mono (by decide)) rfl (pa_of (qa_c (pv 1) qa_nil)) (he := star_plain _ _ _ rfl) (hpl := plain_any rfl)))) (pw_or (pt_not (pt_val (pe_calN C_is_whole_from (hr.mono (by decide)) rfl (pa_of (qa_c (pv 2) (qa_c pe_int qa_nil))) (he := star_plain _ _ _ rfl) (hpl := plain_any rfl)))) (pw_or1 (pt_not (pt_val (pe_callB call_isi_bool rfl B.isinstance PyProof.Rows.boot_isinstance (pa_of (qa_c (pv 3) (qa_c (pe_bltn (v := .ty "bool") rfl B.bool PyProof.Rows.boot_bool rfl) qa_nil))) (he := star_plain _ _ _ rfl) (hpl := plain_any rfl)))))))) (qss_of pss_never) qss_nil) (qss_cons (qs_of (ps_fld (pv 0) (pv 1) rfl)) (qss_cons (qs_of (ps_fld (pv 0) (pv 2) rfl)) (qss_one (qs_of (ps_fld (pv 0) (pv 3) rfl))))))), ?_⟩
  have okn : okN H (.str u) := ⟨(good_sm gu).1, by have := (good_sm gu).2; omega⟩
  have nb : nameB (.str u) = true := decide_eq_true gu
  have fb : fromV (.int s) 0 = true := decide_eq_true s0
  walk_at "w"
  refine ⟨_, rfl, okn, fun H1 S1 => ?_⟩
  try simp only [nb, w_seq, w_next, w_ifS, w_ret, w_retN, w_drop, w_asg, w_gName, w_gSub, w_var, w_c, w_op, w_un, w_rU, w_rI0, w_rI, w_test, w_b, w_and, w_or, w_not, w_andV, w_orV, w_notV, w_if, w_cons, w_nil, w_tup, w_lst, w_call, w_cB, w_eq, w_ne, w_isN, w_notN, w_chain, w_sl, w_part, w_noPart, w_forL, w_for1, w_for2, w_K, w_for3, w_isnotB, w_raise, w_try, w_KX, w_cut, w_compL, w_comp1, w_comp2, w_yes, w_pick0, w_pickN, w_pickS, w_bm, w_bm0, w_tyS, w_addS, w_slS, w_blkK, w_strs, w_methD, w_makeN, w_make, w_fld, w_gTup, w_gCons, w_gNil, w_sFld, w_compS, w_tryB, w_bmake, w_noKeys, w_nev, w_never, Option.getD_some,  exists_const, false_or, or_false, exists_false, w_s1, w_s2, w_s3, w_s4, w_s5, L2.start, List.map_cons, List.map_nil, List.length_cons, List.length_nil, List.replicate, List.replicate_zero, List.replicate_succ, Nat.reduceAdd, Nat.reduceSub, Nat.reduceLeDiff, List.cons_append, List.nil_append, List.append_nil, List.set_cons_zero, List.set_cons_succ, List.getElem?_cons_zero, List.getElem?_cons_succ, Option.some.injEq, V.int.injEq, V.bl.injEq, V.ref.injEq, V.str.injEq, V.ty.injEq, List.cons.injEq, and_true, true_and, exists_eq_left, exists_eq_left', exists_and_left, exists_eq, exists_eq', and_self, decide_eq_true_eq, Bool.not_eq_true', decide_eq_false_iff_not, Bool.true_eq_false, Bool.false_eq_true, if_true, if_false, ite_true, ite_false, false_and, and_false, and_assoc, reduceCtorEq]
  refine ⟨_, _, rfl, trivial, ?_⟩
  try simp only [fb, isBoolV, w_seq, w_next, w_ifS, w_ret, w_retN, w_drop, w_asg, w_gName, w_gSub, w_var, w_c, w_op, w_un, w_rU, w_rI0, w_rI, w_test, w_b, w_and, w_or, w_not, w_andV, w_orV, w_notV, w_if, w_cons, w_nil, w_tup, w_lst, w_call, w_cB, w_eq, w_ne, w_isN, w_notN, w_chain, w_sl, w_part, w_noPart, w_forL, w_for1, w_for2, w_K, w_for3, w_isnotB, w_raise, w_try, w_KX, w_cut, w_compL, w_comp1, w_comp2, w_yes, w_pick0, w_pickN, w_pickS, w_bm, w_bm0, w_tyS, w_addS, w_slS, w_blkK, w_strs, w_methD, w_makeN, w_make, w_fld, w_gTup, w_gCons, w_gNil, w_sFld, w_compS, w_tryB, w_bmake, w_noKeys, w_nev, w_never, Option.getD_some,  exists_const, false_or, or_false, exists_false, w_s1, w_s2, w_s3, w_s4, w_s5, L2.start, List.map_cons, List.map_nil, List.length_cons, List.length_nil, List.replicate, List.replicate_zero, List.replicate_succ, Nat.reduceAdd, Nat.reduceSub, Nat.reduceLeDiff, List.cons_append, List.nil_append, List.append_nil, List.set_cons_zero, List.set_cons_succ, List.getElem?_cons_zero, List.getElem?_cons_succ, Option.some.injEq, V.int.injEq, V.bl.injEq, V.ref.injEq, V.str.injEq, V.ty.injEq, List.cons.injEq, and_true, true_and, exists_eq_left, exists_eq_left', exists_and_left, exists_eq, exists_eq', and_self, decide_eq_true_eq, Bool.not_eq_true', decide_eq_false_iff_not, Bool.true_eq_false, Bool.false_eq_true, if_true, if_false, ite_true, ite_false, false_and, and_false, and_assoc, reduceCtorEq]
  refine ⟨trivial, ?_⟩
  obtain ⟨e3, e2, e1⟩ := put3 (n1 := "name") (n2 := "slow") (n3 := "knows") (v1 := .str u) (v2 := .int s) (v3 := .bl b) (by decide) (by decide) (by decide)
  refine ⟨_, _, _, S1 _ _ hp, B.ck_Road.cl, B.na_Road_name, by decide, _, _, _, upd_same, B.ck_Road.cl, B.na_Road_slow, by rw [e1]; decide, _, _, _, upd_same, B.ck_Road.cl, B.na_Road_knows, by rw [e2]; decide, ?_⟩
  refine q _ (fun c o n e => ?_) ?_
  · rw [upd_ne n, upd_ne n, upd_ne n]
    exact S1 c o e
  · rw [upd_same, e3]
theorem ok_check_wake (B : Bt K mg a) (C_is_whole_from : CalX P w K mg base "is_whole_from" ["thing", "least"] 2 (sp_is_whole_from K a)) (F : Fun K "check_wake" "check_wake" s_check_wake f fd) : FnOk P w K mg base CX0 3 f fd ["wake", "quiet"] (sp_check_wake K a) := by
  refine F.ok sc_check_wake (fun vs H Q E h => ?_) (fun cdv A outer s H vs Q E hr h => ?_)
  · obtain ⟨x, y, rfl, _⟩ := h
    rfl
  obtain ⟨x, y, rfl, wk, hy, q⟩ := h
  refine ⟨_, (pss_of (qss_cons (qs_if (pt_cmp (pc_isN (pv 0))) (qss_one (qs_of ps_retN)) qss_nil) (qss_one (qs_if (L2.PW.pt (pw_or (pt_cmp (pc_isN (pv 1))) (pw_or1 (pt_not (pt_val (pe_calN C_is_whole_from (hr.mono (by decide)) rfl (pa_of (qa_c (pv 0) (qa_c pe_int qa_nil))) (he := star_plain _ _ _ rfl) (hpl := plain_any rfl))))))) (qss_of pss_never) qss_nil)))), ?_⟩
  cases x with
  | non =>
    walk_at "w"
    exact q
  | int n =>
    have hy' : y ≠ .non := by
      rcases hy with z | z
      · cases z
      · exact z
    have fb : fromV (.int n) 0 = true := decide_eq_true wk
    walk_at "w"
    rw [if_neg (by simpa using hy')]
    refine ⟨_, _, rfl, trivial, ?_⟩
    try simp only [fb, w_seq, w_next, w_ifS, w_ret, w_retN, w_drop, w_asg, w_gName, w_gSub, w_var, w_c, w_op, w_un, w_rU, w_rI0, w_rI, w_test, w_b, w_and, w_or, w_not, w_andV, w_orV, w_notV, w_if, w_cons, w_nil, w_tup, w_lst, w_call, w_cB, w_eq, w_ne, w_isN, w_notN, w_chain, w_sl, w_part, w_noPart, w_forL, w_for1, w_for2, w_K, w_for3, w_isnotB, w_raise, w_try, w_KX, w_cut, w_compL, w_comp1, w_comp2, w_yes, w_pick0, w_pickN, w_pickS, w_bm, w_bm0, w_tyS, w_addS, w_slS, w_blkK, w_strs, w_methD, w_makeN, w_make, w_fld, w_gTup, w_gCons, w_gNil, w_sFld, w_compS, w_tryB, w_bmake, w_noKeys, w_nev, w_never, Option.getD_some,  exists_const, false_or, or_false, exists_false, w_s1, w_s2, w_s3, w_s4, w_s5, L2.start, List.map_cons, List.map_nil, List.length_cons, List.length_nil, List.replicate, List.replicate_zero, List.replicate_succ, Nat.reduceAdd, Nat.reduceSub, Nat.reduceLeDiff, List.cons_append, List.nil_append, List.append_nil, List.set_cons_zero, List.set_cons_succ, List.getElem?_cons_zero, List.getElem?_cons_succ, Option.some.injEq, V.int.injEq, V.bl.injEq, V.ref.injEq, V.str.injEq, V.ty.injEq, List.cons.injEq, and_true, true_and, exists_eq_left, exists_eq_left', exists_and_left, exists_eq, exists_eq', and_self, decide_eq_true_eq, Bool.not_eq_true', decide_eq_false_iff_not, Bool.true_eq_false, Bool.false_eq_true, if_true, if_false, ite_true, ite_false, false_and, and_false, and_assoc, reduceCtorEq]
    exact q
  | _ => exact wk.elim
theorem ok_check_lines (B : Bt K mg a)  (F : Fun K "check_lines" "check_lines" s_check_lines f fd) : FnOk P w K mg base CX0 1 f fd ["lines"] (sp_check_lines K a) := by
  refine F.ok sc_check_lines (fun vs H Q E h => ?_) (fun cdv A outer s H vs Q E hr h => ?_)
  · obtain ⟨_, rfl, _⟩ := h
    rfl
  obtain ⟨_, rfl, q⟩ := h
  refine ⟨_, (pss_of (qss_cons (qs_if (pt_cmp (pc_isN (pv 0))) (qss_one (qs_of ps_retN)) qss_nil) (qss_of pss_never))), ?_⟩
  walk_at "w"
  exact q
theorem ok_Wishes___init__ (B : Bt K mg a) (C_check_zone : CalX P w K mg base "check_zone" ["zone"] 3 (sp_check_zone K a)) (C_check_quiet : CalX P w K mg base "check_quiet" ["quiet"] 5 (sp_check_quiet K a)) (C_check_wake : CalX P w K mg base "check_wake" ["wake", "quiet"] 3 (sp_check_wake K a)) (C_check_lines : CalX P w K mg base "check_lines" ["lines"] 1 (sp_check_lines K a)) (F : FunA K "__init__" "Wishes.__init__" s_Wishes___init__ f fd) : FnOk P w K mg base CX0 6 f fd ["self", "zone", "quiet", "wake", "lines"] (sp_Wishes___init__ K a) := by
  refine FunA.ok F sc_Wishes___init__ (fun vs H Q E h => ?_) (fun cdv A outer s H vs Q E hr h => ?_)
  · obtain ⟨p, dx, z, x, k, qh, rfl, _⟩ := h
    rfl
  obtain ⟨p, dx, z, x, k, qh, rfl, hp, z0, z1, hv, wk, hk, q⟩ := h
  refine ⟨_, (pss_of (qss_cons (qs_of (ps_expr (pe_calN C_check_zone (hr.mono (by decide)) rfl (pa_of (qa_c (pv 1) qa_nil)) (he := star_plain _ _ _ rfl) (hpl := plain_any rfl)))) (qss_cons (qs_of (ps_expr (pe_calN C_check_quiet (hr.mono (by decide)) rfl (pa_of (qa_c (pv 2) qa_nil)) (he := star_plain _ _ _ rfl) (hpl := plain_any rfl)))) (qss_cons (qs_of (ps_expr (pe_calN C_check_wake (hr.mono (by decide)) rfl (pa_of (qa_c (pv 3) (qa_c (pv 2) qa_nil))) (he := star_plain _ _ _ rfl) (hpl := plain_any rfl)))) (qss_cons (qs_of (ps_expr (pe_calN C_check_lines (hr.mono (by decide)) rfl (pa_of (qa_c (pv 4) qa_nil)) (he := star_plain _ _ _ rfl) (hpl := plain_any rfl)))) (qss_cons (qs_of (ps_fld (pv 0) (pv 1) rfl)) (qss_cons (qs_of (ps_fld (pv 0) (pv 2) rfl)) (qss_cons (qs_of (ps_fld (pv 0) (pv 3) rfl)) (qss_one (qs_of (ps_fld (pv 0) (pe_ifExp (pt_cmp (pc_isN (pv 4))) (pe_lst (pa_of qa_nil)) pe_nv) rfl))))))))))), ?_⟩
  walk_at "w"
  refine ⟨z, rfl, z0, z1, ?_⟩
  walk_at "w"
  refine ⟨x, rfl, hv.old, ?_⟩
  walk_at "w"
  refine ⟨k, x, rfl, wk, hk, ?_⟩
  walk_at "w"
  refine ⟨(), rfl, ?_⟩
  walk_at "w"
  obtain ⟨e3, e2, e1⟩ := put3 (n1 := "zone") (n2 := "quiet") (n3 := "wake") (v1 := .int z) (v2 := x) (v3 := k) (by decide) (by decide) (by decide)
  refine ⟨_, _, _, hp, B.ck_Wishes.cl, B.na_Wishes_zone, by decide, _, _, _, upd_same, B.ck_Wishes.cl, B.na_Wishes_quiet, by rw [e1]; decide, _, _, _, upd_same, B.ck_Wishes.cl, B.na_Wishes_wake, by rw [e2]; decide, ?_⟩
  walk_at "w"
  refine ⟨Nat.zero_le _, fun l hl => ?_⟩
  have hlp : p ≠ l := fun z => by rw [← z, upd_same] at hl; cases hl
  refine ⟨_, _, _, by rw [upd_ne hlp]; exact upd_same, B.ck_Wishes.cl, B.na_Wishes_lines, by rw [e3]; show 3 < 1000; decide, ?_⟩
  refine q l _ (fun c o n e => ?_) ?_
  · have hc : c ≠ l := fun z => by
      rw [← z, upd_ne n, upd_ne n, upd_ne n] at hl
      rw [hl] at e
      cases e
    rw [upd_ne n, upd_ne hc, upd_ne n, upd_ne n, upd_ne n]
    exact e
  · rw [upd_same, e3, put4 (by decide) (by decide) (by decide)]
theorem ok_may_wake (B : Bt K mg a)  (F : Fun K "may_wake" "may_wake" s_may_wake f fd) : FnOk P w K mg base CX0 1 f fd ["wishes", "weight"] (sp_may_wake K a) := by
  refine F.ok sc_may_wake (fun vs H Q E h => ?_) (fun cdv A outer s H vs Q E hr h => ?_)
  · obtain ⟨p, z, x, k, n, rfl, _⟩ := h
    rfl
  obtain ⟨p, z, x, k, n, rfl, hw, wk, q⟩ := h
  refine ⟨_, (pss_of (qss_one (qs_ret (qe_of (pe_and (pe_cmp (pc_notN (pe_fld (pv 0) rfl))) (pe_one (pe_cmpR op_ge (pv 1) (pe_fld (pv 0) rfl) (nomark _)))))))), ?_⟩
  obtain ⟨dx, l, e⟩ := hw
  walk_at "w"
  refine ⟨_, _, _, e, B.ck_Wishes.cl, B.na_Wishes_wake, k, rfl, ?_⟩
  cases k with
  | non =>
    walk_at "w"
    exact q
  | int i =>
    walk_at "w"
    refine ⟨_, _, _, e, B.ck_Wishes.cl, B.na_Wishes_wake, .int i, rfl, ?_⟩
    walk_at "w"
    exact q
  | _ => exact wk.elim
theorem ok_can_be_used (B : Bt K mg a) (C_may_wake : CalX P w K mg base "may_wake" ["wishes", "weight"] 1 (sp_may_wake K a)) (C_is_quiet : CalX P w K mg base "is_quiet" ["quiet", "zone", "moment"] 6 (sp_is_quiet K a)) (F : Fun K "can_be_used" "can_be_used" s_can_be_used f fd) : FnOk P w K mg base CX0 7 f fd ["road", "wishes", "weight", "moment"] (sp_can_be_used K a) := by
  refine F.ok sc_can_be_used (fun vs H Q E h => ?_) (fun cdv A outer s H vs Q E hr h => ?_)
  · obtain ⟨r, p, u, s, b, z, x, k, qh, n, m, rfl, _⟩ := h
    rfl
  obtain ⟨r, p, u, s, b, z, x, k, qh, n, m, rfl, hr1, hw, hv, z0, z1, wk, q⟩ := h
  refine ⟨_, (pss_of (qss_one (qs_ret (qe_of (pe_or (pe_calN C_may_wake (hr.mono (by decide)) rfl (pa_of (qa_c (pv 1) (qa_c (pv 2) qa_nil))) (he := star_plain _ _ _ rfl) (hpl := plain_any rfl)) (pe_one (pe_not (pe_calN C_is_quiet (hr.mono (by decide)) rfl (pa_of (qa_c (pe_fld (pv 1) rfl) (qa_c (pe_fld (pv 1) rfl) (qa_c (pe_op op_add (pv 3) (pe_fld (pv 0) rfl)) qa_nil)))) (he := star_plain _ _ _ rfl) (hpl := plain_any rfl))))))))), ?_⟩
  obtain ⟨dr, er⟩ := id hr1
  obtain ⟨dx, l, e⟩ := id hw
  walk_at "w"
  refine ⟨p, z, x, k, n, rfl, hw, wk, ?_⟩
  walk_at "w"
  by_cases hk : wakes k n = true
  · rw [if_pos hk]
    rw [hk, Bool.true_or] at q
    exact q _ fun _ _ z => z
  · rw [if_neg hk]
    rw [Bool.eq_false_iff.mpr hk, Bool.false_or] at q
    refine ⟨_, _, _, e, B.ck_Wishes.cl, B.na_Wishes_quiet, x, rfl, ?_⟩
    walk_at "w"
    refine ⟨_, _, _, e, B.ck_Wishes.cl, B.na_Wishes_zone, .int z, rfl, ?_⟩
    walk_at "w"
    refine ⟨_, _, _, er, B.ck_Road.cl, B.na_Road_slow, .int s, rfl, ?_⟩
    walk_at "w"
    refine ⟨x, qh, z, m + s, rfl, z0, z1, hv, fun H1 S1 => ?_⟩
    walk_at "w"
    exact q _ S1
end
end Bw
set_option Elab.async false
set_option linter.all false
set_option maxRecDepth 100000
set_option maxHeartbeats 8000000
namespace Bw
open PySem L2
local macro_rules | `(tactic| walk_at "w") => `(tactic| try simp only [w_seq, w_next, w_ifS, w_ret, w_retN, w_drop, w_asg, w_gName, w_gSub, w_var, w_c, w_op, w_un, w_rU, w_rI0, w_rI, w_test, w_b, w_and, w_or, w_not, w_andV, w_orV, w_notV, w_if, w_cons, w_nil, w_tup, w_lst, w_call, w_cB, w_eq, w_ne, w_isN, w_notN, w_chain, w_sl, w_part, w_noPart, w_forL, w_for1, w_for2, w_K, w_for3, w_isnotB, w_raise, w_try, w_KX, w_cut, w_compL, w_comp1, w_comp2, w_yes, w_pick0, w_pickN, w_pickS, w_bm, w_bm0, w_tyS, w_addS, w_slS, w_blkK, w_strs, w_methD, w_makeN, w_make, w_fld, w_gTup, w_gCons, w_gNil, w_sFld, w_compS, w_tryB, w_bmake, w_noKeys, w_nev, w_never, Option.getD_some,  exists_const, false_or, or_false, exists_false, w_s1, w_s2, w_s3, w_s4, w_s5, L2.start, List.map_cons, List.map_nil, List.length_cons, List.length_nil, List.replicate, List.replicate_zero, List.replicate_succ, Nat.reduceAdd, Nat.reduceSub, Nat.reduceLeDiff, List.cons_append, List.nil_append, List.append_nil, List.set_cons_zero, List.set_cons_succ, List.getElem?_cons_zero, List.getElem?_cons_succ, Option.some.injEq, V.int.injEq, V.bl.injEq, V.ref.injEq, V.str.injEq, V.ty.injEq, List.cons.injEq, and_true, true_and, exists_eq_left, exists_eq_left', exists_and_left, exists_eq, exists_eq', and_self, decide_eq_true_eq, Bool.not_eq_true', decide_eq_false_iff_not, Bool.true_eq_false, Bool.false_eq_true, if_true, if_false, ite_true, ite_false, false_and, and_false, and_assoc, reduceCtorEq])
section
variable {P : Program} {w : World} {K : PySem.W.Frag} {mg : Str → Option Value} {base : Heap} {f : Addr} {fd : FuncData} {a : Ad}
theorem ok_law_cell_at (B : Bt K mg a)  (F : Fun K "_law_cell_at" "_law_cell_at" s_law_cell_at f fd) : FnOk P w K mg base CX0 1 f fd ["_law_script", "_law_k"] (sp_law_cell_at K a) := by
  refine F.ok sc_law_cell_at (fun vs H Q E h => ?_) (fun cdv A outer s H vs Q E hr h => ?_)
  · obtain ⟨b, ns, k, rfl, _⟩ := h
    rfl
  obtain ⟨b, ns, k, rfl, hS, k0, q⟩ := h
  refine ⟨_, (pss_of (qss_cons (qs_if (pt_cmpR op_lt (pv 1) (pe_callB call_len rfl B.len PySem.boot_len (pa_of (qa_c (pv 0) qa_nil))) (nomark _)) (qss_one (qs_ret (qe_of (pe_ix ix_list (pv 0) (pv 1) (fun _ _ => rfl))))) qss_nil) (qss_one (qs_ret (qe_of pe_int))))), ?_⟩
  walk_at "w"
  refine ⟨_, .inl ⟨_, hS, rfl⟩, ?_⟩
  walk_at "w"
  split
  · rename_i hk
    rw [List.length_map] at hk
    obtain ⟨z, _, ez⟩ := at_mem k0 hk
    exact ixl hS ez (q z)
  · exact q 0
theorem ok_law_mixed (B : Bt K mg a)  (F : Fun K "_law_mixed" "_law_mixed" s_law_mixed f fd) : FnOk P w K mg base CX0 1 f fd ["_law_cell", "_law_k"] (sp_law_mixed K a) := by
  refine F.ok sc_law_mixed (fun vs H Q E h => ?_) (fun cdv A outer s H vs Q E hr h => ?_)
  · obtain ⟨c, k, rfl, _⟩ := h
    rfl
  obtain ⟨c, k, rfl, q⟩ := h
  refine ⟨_, (pss_of (qss_cons (qs_set (i := 2) sc_law_mixed.nd rfl (Or.inl rfl) (qe_of (pe_op op_mod (pe_op op_mul (pe_op op_add (pe_op op_add (pv 0) (pe_op op_mul pe_int (pv 1))) pe_int) pe_int) pe_int)) (by kernel_rfl)) (qss_cons (qs_set (i := 2) sc_law_mixed.nd rfl (Or.inl rfl) (qe_of (pe_op op_mod (pe_op op_mul (pv 2) (pe_op op_add (pe_op op_fdivL (pv 2) pe_int) pe_int)) pe_int)) (by kernel_rfl)) (qss_one (qs_ret (qe_of (pe_op op_mod (pe_op op_mul (pv 2) (pe_op op_add (pe_op op_add (pe_op op_fdivL (pv 2) pe_int) pe_int) (pv 1))) pe_int))))))), ?_⟩
  walk_at "w"
  have e1 := Int.emod_nonneg ((c + 7919 * k + 1) * 48271) (b := 2147483647) (by decide)
  have e2 := Int.emod_lt_of_pos ((c + 7919 * k + 1) * 48271) (b := 2147483647) (by decide)
  generalize (c + 7919 * k + 1) * 48271 % 2147483647 = x at *
  have e3 := Int.emod_nonneg (x * (x / 1009 + 69621)) (b := 2147483647) (by decide)
  have e4 := Int.emod_lt_of_pos (x * (x / 1009 + 69621)) (b := 2147483647) (by decide)
  generalize x * (x / 1009 + 69621) % 2147483647 = y at *
  refine ⟨.inl ⟨by decide, by decide⟩, .inr ⟨by decide, by decide⟩, by decide, ⟨by decide, by decide⟩, .inl ⟨by omega, by omega⟩, by decide, ⟨by decide, by decide⟩, .inl ⟨by omega, by omega⟩, by decide, q _⟩
theorem ok_law_well (B : Bt K mg a)  (F : Fun K "_law_well" "_law_well" s_law_well f fd) : FnOk P w K mg base CX0 1 f fd ["_law_cell"] (sp_law_well K a) := by
  refine F.ok sc_law_well (fun vs H Q E h => ?_) (fun cdv A outer s H vs Q E hr h => ?_)
  · obtain ⟨c, rfl, _⟩ := h
    rfl
  obtain ⟨c, rfl, q⟩ := h
  refine ⟨_, (pss_of (qss_one (qs_ret (qe_lst (qa_c (pe_op op_fdivL (pv 0) pe_int) (qa_c (pe_op op_mod (pv 0) pe_int) (qa_c (pe_op op_mod (pv 0) pe_int) (qa_c pe_int qa_nil)))))))), ?_⟩
  walk_at "w"
  exact ⟨⟨by decide, by decide⟩, by decide, by decide, sz8 (by decide), fun p hp => q p _ _ _ _ hp⟩
theorem ok_law_draw (B : Bt K mg a) (C_law_mixed : CalX P w K mg base "_law_mixed" ["_law_cell", "_law_k"] 1 (sp_law_mixed K a)) (F : Fun K "_law_draw" "_law_draw" s_law_draw f fd) : FnOk P w K mg base CX0 2 f fd ["_law_well_here", "_law_most"] (sp_law_draw K a) := by
  refine F.ok sc_law_draw (fun vs H Q E h => ?_) (fun cdv A outer s H vs Q E hr h => ?_)
  · obtain ⟨wl, m, rfl, _⟩ := h
    rfl
  obtain ⟨wl, m, rfl, W, m0, m1, q⟩ := h
  refine ⟨_, (pss_of (qss_cons (qs_if (L2.PW.pt (pw_and (pt_cmpR op_eq (pe_ix ix_list (pv 0) pe_int (fun _ _ => rfl)) pe_int (nomark _)) (pw_and1 (pt_cmpR op_gt (pe_ix ix_list (pv 0) pe_int (fun _ _ => rfl)) pe_int (nomark _))))) (qss_cons (qs_set (i := 2) sc_law_draw.nd rfl (Or.inl rfl) (qe_of (pe_op op_mod (pe_ix ix_list (pv 0) pe_int (fun _ _ => rfl)) (pv 1))) (by kernel_rfl)) (qss_cons (qs_of (ps_asg (pe_op op_fdivL (pe_ix ix_list (pv 0) pe_int (fun _ _ => rfl)) (pv 1)) (pg_sub (pv 0) pe_int set_list))) (qss_one (qs_ret (qe_of (pv 2)))))) qss_nil) (qss_cons (qs_set (i := 2) sc_law_draw.nd rfl (Or.inl rfl) (qe_of pe_int) (by kernel_rfl)) (qss_cons (qs_of (ps_for PassesOwn.never rfl (pi_range1 rfl B.range (pa_of (qa_c (pe_op op_add pe_int (pe_op op_mul pe_int (pe_callTy call_int1 rfl B.int PyProof.Rows.boot_int (pa_of (qa_c (pe_cmpR op_gt (pv 1) (pe_op op_pow pe_int pe_int) (nomark _)) qa_nil))))) qa_nil))) (pg_name (i := 3) sc_law_draw.nd rfl (Or.inl rfl)) (pss_of (qss_cons (qs_of (ps_asg (pe_op op_add (pe_ix ix_list (pv 0) pe_int (fun _ _ => rfl)) pe_int) (pg_sub (pv 0) pe_int set_list))) (qss_one (qs_set (i := 2) sc_law_draw.nd rfl (Or.inl rfl) (qe_of (pe_op op_add (pe_op op_mul (pv 2) pe_int) (pe_calN C_law_mixed (hr.mono (by decide)) rfl (pa_of (qa_c (pe_ix ix_list (pv 0) pe_int (fun _ _ => rfl)) (qa_c (pe_ix ix_list (pv 0) pe_int (fun _ _ => rfl)) qa_nil))) (he := star_plain _ _ _ rfl) (hpl := plain_any rfl)))) (by kernel_rfl))))))) (qss_one (qs_ret (qe_of (pe_op op_mod (pv 2) (pv 1))))))))), ?_⟩
  obtain ⟨a, b, c, d, hw⟩ := W
  have fin : ∀ r : Int, 0 < m → 0 ≤ r % m ∧ r % m < m := fun r h => ⟨Int.emod_nonneg _ (by omega), Int.emod_lt_of_pos _ h⟩
  walk_at "w"
  refine ixl (SqL.of hw) (v := .int b) rfl ?_
  walk_at "w"
  by_cases hb : b = 0
  · rw [if_pos hb]
    refine ixl (SqL.of hw) (v := .int a) rfl ?_
    walk_at "w"
    by_cases ha : 0 < a
    · rw [if_pos ha]
      refine ixl (SqL.of hw) (v := .int a) rfl ?_
      walk_at "w"
      refine ⟨m0, ixl (SqL.of hw) (v := .int a) rfl ?_⟩
      walk_at "w"
      refine ⟨⟨m0, m1⟩, setl hw (j := 0) rfl ?_⟩
      walk_at "w"
      exact q _ _ (fin a m0).1 (fin a m0).2 ⟨_, _, _, _, upd_same⟩ (But.upd _)
    · rw [if_neg ha]
      refine ⟨⟨by decide, by decide, by decide⟩, ?_⟩
      have he : 0 ≤ (if (10 : Int) ^ Int.toNat 6 < m then (1 : Int) else 0) ∧ (if (10 : Int) ^ Int.toNat 6 < m then (1 : Int) else 0) ≤ 1 := by split <;> omega
      generalize (if (10 : Int) ^ Int.toNat 6 < m then (1 : Int) else 0) = e at *
      refine ⟨.inl ⟨by decide, by decide⟩, by omega, by omega, ?_⟩
      refine ForR.by (fun _ σ H1 => ∃ (fv : Int) (tv : Option V), σ = [some (.ref wl), some (.int m), some (.int fv), tv] ∧ Well H1 wl ∧ But wl H H1) ⟨0, none, rfl, ⟨a, b, c, d, hw⟩, But.refl _ _⟩ ?_ ?_
      · rintro i σ H1 hi ⟨fv, tv, rfl, ⟨a', b', c', d', hw1⟩, B1⟩
        walk_at "w"
        refine ixl (SqL.of hw1) (v := .int d') rfl ?_
        walk_at "w"
        refine setl hw1 (j := 3) rfl ?_
        walk_at "w"
        refine ⟨.inr ⟨by decide, by decide⟩, ?_⟩
        refine ixl (SqL.of upd_same) (v := .int c') rfl ?_
        walk_at "w"
        refine ixl (SqL.of upd_same) (v := .int (d' + 1)) rfl ?_
        walk_at "w"
        refine ⟨_, _, rfl, fun r => ?_⟩
        walk_at "w"
        exact ⟨⟨_, _, _, _, upd_same⟩, B1.trans (But.upd _)⟩
      · rintro σ H1 ⟨fv, tv, rfl, W1, B1⟩
        walk_at "w"
        exact ⟨m0, q _ H1 (fin fv m0).1 (fin fv m0).2 W1 B1⟩
  · rw [if_neg hb]
    refine ⟨⟨by decide, by decide, by decide⟩, ?_⟩
    have he : 0 ≤ (if (10 : Int) ^ Int.toNat 6 < m then (1 : Int) else 0) ∧ (if (10 : Int) ^ Int.toNat 6 < m then (1 : Int) else 0) ≤ 1 := by split <;> omega
    generalize (if (10 : Int) ^ Int.toNat 6 < m then (1 : Int) else 0) = e at *
    refine ⟨.inl ⟨by decide, by decide⟩, by omega, by omega, ?_⟩
    refine ForR.by (fun _ σ H1 => ∃ (fv : Int) (tv : Option V), σ = [some (.ref wl), some (.int m), some (.int fv), tv] ∧ Well H1 wl ∧ But wl H H1) ⟨0, none, rfl, ⟨a, b, c, d, hw⟩, But.refl _ _⟩ ?_ ?_
    · rintro i σ H1 hi ⟨fv, tv, rfl, ⟨a', b', c', d', hw1⟩, B1⟩
      walk_at "w"
      refine ixl (SqL.of hw1) (v := .int d') rfl ?_
      walk_at "w"
      refine setl hw1 (j := 3) rfl ?_
      walk_at "w"
      refine ⟨.inr ⟨by decide, by decide⟩, ?_⟩
      refine ixl (SqL.of upd_same) (v := .int c') rfl ?_
      walk_at "w"
      refine ixl (SqL.of upd_same) (v := .int (d' + 1)) rfl ?_
      walk_at "w"
      refine ⟨_, _, rfl, fun r => ?_⟩
      walk_at "w"
      exact ⟨⟨_, _, _, _, upd_same⟩, B1.trans (But.upd _)⟩
    · rintro σ H1 ⟨fv, tv, rfl, W1, B1⟩
      walk_at "w"
      exact ⟨m0, q _ H1 (fin fv m0).1 (fin fv m0).2 W1 B1⟩
theorem let_app {u v : Str} (hu : LetS u) (hv : LetS v) : LetS (u ++ v) := fun c hc => by
  rw [app_toList] at hc
  rcases List.mem_append.mp hc with z | z
  · exact hu c z
  · exact hv c z
theorem let_slice {u : Str} (hu : LetS u) (l r : Option Int) : LetS (Txt.slice u l r) := fun c hc => hu c (slice_mem hc)
theorem let_one {c : Nat} (h0 : 97 ≤ c) (h1 : c ≤ 122) : LetS ⟨#[c]⟩ := fun d hd => by
  have e : d = c := by simpa using hd
  rw [e]
  exact ⟨h0, h1⟩
theorem slice_len {x : Str} {l u : Option Int} : (Txt.slice x l u).length ≤ (Builtin.Str.strSliceIndices l u 1 x.length).length := by
  unfold Txt.slice
  split
  · rename_i h
    have : (Builtin.Str.strSliceIndices l u 1 x.length).length = x.length := by simpa using h
    omega
  · show (List.filterMap _ (Builtin.Str.strSliceIndices l u 1 x.length)).toArray.size ≤ _
    rw [List.size_toArray]
    exact List.length_filterMap_le _ _
theorem slice_two {x : Str} {r : Int} (h6 : x.length ≤ 6) (r0 : 0 ≤ r) (r1 : r ≤ x.length) : (Txt.slice x none (some r)).length + (Txt.slice x (some r) none).length ≤ 6 := by
  have q : ∀ n k : Fin 7, k.val ≤ n.val → (Builtin.Str.strSliceIndices none (some ((k.val : Nat) : Int)) 1 n.val).length + (Builtin.Str.strSliceIndices (some ((k.val : Nat) : Int)) none 1 n.val).length ≤ 6 := by decide +kernel
  have z := q ⟨x.length, by omega⟩ ⟨r.toNat, by omega⟩ (by show r.toNat ≤ x.length; omega)
  have e : ((r.toNat : Nat) : Int) = r := by omega
  rw [e] at z
  have a := slice_len (x := x) (l := none) (u := some r)
  have b := slice_len (x := x) (l := some r) (u := none)
  exact Nat.le_trans (Nat.add_le_add a b) z
theorem let_empty : LetS Str.empty := fun d hd => by cases hd
theorem join_let {ts : List Str} (h : ∀ t ∈ ts, ∃ c, t = ⟨#[c]⟩ ∧ 97 ≤ c ∧ c ≤ 122) (h8 : ts.length ≤ 8) : JoinOk Str.empty ts = true ∧ (Txt.join Str.empty ts).length = ts.length ∧ LetS (Txt.join Str.empty ts) := by
  obtain ⟨i1, i2⟩ := join_one ts h
  have hj : Txt.join Str.empty ts = Str.join Str.empty ts := StrLaws.glued_eq_join _ _
  by_cases h0 : ts = []
  · subst h0
    exact ⟨by decide +kernel, by decide +kernel, by rw [hj]; exact i2⟩
  · have : 1 ≤ ts.length := by
      cases ts with
      | nil => exact absurd rfl h0
      | cons x r => simp
    exact ⟨(join_good h this h8).1, by rw [hj]; exact i1, by rw [hj]; exact i2⟩
theorem ok_law_names (B : Bt K mg a) (C_law_draw : CalX P w K mg base "_law_draw" ["_law_well_here", "_law_most"] 2 (sp_law_draw K a)) (F : Fun K "_law_names" "_law_names" s_law_names f fd) : FnOk P w K mg base CX0 3 f fd ["_law_well_here", "_law_many"] (sp_law_names K a) := by
  refine F.ok sc_law_names (fun vs H Q E h => ?_) (fun cdv A outer s H vs Q E hr h => ?_)
  · obtain ⟨wl, n, rfl, _⟩ := h
    rfl
  obtain ⟨wl, n, rfl, n0, n1, W, q⟩ := h
  refine ⟨_, (pss_of (qss_cons (qs_set (i := 2) sc_law_names.nd rfl (Or.inr rfl) (qe_of pe_str) (by kernel_rfl)) (qss_cons (qs_set (i := 3) sc_law_names.nd rfl (Or.inl rfl) (qe_of (pe_bm PySem.F.plainAttrs_str PySem.F.slot_str_join PySem.F.type_str_join mt_join pe_str (pa_of (qa_c (pe_compB ["_law_k", "_law_letters", "_law_well_here"] [none, some 2, some 0] rfl (by kernel_rfl) (pi_range1 rfl B.range (pa_of (qa_c (pe_calN C_law_draw (hr.mono (by decide)) rfl (pa_of (qa_c (pv 0) (qa_c pe_int qa_nil))) (he := star_plain _ _ _ rfl) (hpl := plain_any rfl)) qa_nil))) (fun cl C s H fp => ⟨(pg_name (i := 0) (by decide : List.Nodup (["_law_k", "_law_letters", "_law_well_here"] : List Str)) rfl (Or.inl (by kernel_rfl)) (Or.inr (by kernel_rfl))), pts_nil, (pe_ix ix_str (pv 1 (hv := Or.inr (Or.inl (by kernel_rfl)))) (pe_calN C_law_draw (hr.mono (by decide)) (gl_of (by kernel_rfl)) (pa_of (qa_c (pv 2 (hv := Or.inr (Or.inl (by kernel_rfl)))) (qa_c pe_int qa_nil))) (he := star_plain _ _ _ rfl) (hpl := plain_any rfl)) (fun _ _ => rfl))⟩)) qa_nil)))) (by kernel_rfl)) (qss_cons (qs_set (i := 4) sc_law_names.nd rfl (Or.inl rfl) (qe_of (pe_calN C_law_draw (hr.mono (by decide)) rfl (pa_of (qa_c (pv 0) (qa_c (pe_op op_add (pe_callB call_len_str rfl B.len PySem.boot_len (pa_of (qa_c (pv 3) qa_nil))) pe_int) qa_nil))) (he := star_plain _ _ _ rfl) (hpl := plain_any rfl))) (by kernel_rfl)) (qss_cons (qs_set (i := 5) sc_law_names.nd rfl (Or.inl rfl) (qe_of (pe_calN C_law_draw (hr.mono (by decide)) rfl (pa_of (qa_c (pv 0) (qa_c pe_int qa_nil))) (he := star_plain _ _ _ rfl) (hpl := plain_any rfl))) (by kernel_rfl)) (qss_cons (qs_set (i := 6) sc_law_names.nd rfl (Or.inl rfl) (qe_ix ix_list (qe_lst (qa_c pe_int (qa_c pe_int (qa_c pe_int (qa_c pe_int qa_nil))))) (qe_of (pe_calN C_law_draw (hr.mono (by decide)) rfl (pa_of (qa_c (pv 0) (qa_c pe_int qa_nil))) (he := star_plain _ _ _ rfl) (hpl := plain_any rfl))) (fun _ _ => rfl)) (by kernel_rfl)) (qss_cons (qs_set (i := 7) sc_law_names.nd rfl (Or.inl rfl) (qe_lst qa_nil) (by kernel_rfl)) (qss_cons (qs_of (ps_for PassesOwn.never rfl (pi_range1 rfl B.range (pa_of (qa_c (pv 1) qa_nil))) (pg_name (i := 8) sc_law_names.nd rfl (Or.inl rfl)) (pss_of (qss_cons (qs_set (i := 9) sc_law_names.nd rfl (Or.inl rfl) (qe_of (pe_op op_add_str (pe_op op_add_str (pe_slice sl_str (pv 3) po_none (po_some (pv 4))) (pe_ix ix_str (pv 2) (pe_op op_mod (pe_op op_add (pv 5) (pe_op op_mul (pv 6) (pv 8))) pe_int) (fun _ _ => rfl))) (pe_slice sl_str (pv 3) (po_some (pv 4)) po_none))) (by kernel_rfl)) (qss_one (qs_of (ps_expr (pe_bm PySem.F.plainAttrs_list PySem.F.slot_list_append PySem.F.type_list_append mt_append (pv 7) (pa_of (qa_c (pe_op op_add_str (pv 9) (pe_op op_mul01 (pe_ix ix_str (pv 2) (pe_calN C_law_draw (hr.mono (by decide)) rfl (pa_of (qa_c (pv 0) (qa_c pe_int qa_nil))) (he := star_plain _ _ _ rfl) (hpl := plain_any rfl)) (fun _ _ => rfl)) (pe_calN C_law_draw (hr.mono (by decide)) rfl (pa_of (qa_c (pv 0) (qa_c pe_int qa_nil))) (he := star_plain _ _ _ rfl) (hpl := plain_any rfl)))) qa_nil)))))))))) (qss_one (qs_ret (qe_of (pv 7)))))))))))), ?_⟩
  walk_at "w"
  refine drw W (by decide) (by decide) fun r1 H1 a1 b1 W1 B1 => ?_
  walk_at "w"
  refine ⟨by omega, by omega, ?_⟩
  refine CompR.by (fun i acc σ H' => (∃ ts : List Str, acc = ts.map V.str ∧ ts.length = i ∧ ∀ t ∈ ts, ∃ c, t = ⟨#[c]⟩ ∧ 97 ≤ c ∧ c ≤ 122) ∧ (∃ v, σ = [v, some (.str letters), some (.ref wl)]) ∧ Well H' wl ∧ But wl H1 H') (sz8 (by omega)) ⟨⟨[], rfl, rfl, fun t ht => by cases ht⟩, ⟨_, rfl⟩, W1, But.refl _ _⟩ ?_ ?_ ?_
  · rintro i acc σ H' hi ⟨⟨ts, rfl, hl, ht⟩, ⟨v, rfl⟩, W3, B3⟩
    walk_at "w"
    refine drw W3 (by decide) (by decide) fun r3 H3 a3 b3 W4 B4 => ?_
    obtain ⟨c, ec, c0, c1⟩ := letter_at a3 b3
    refine ixs (u := letters) (sz8 (by decide)) ec ?_
    have new : ∃ us : List Str, ts.map V.str ++ [V.str ⟨#[c]⟩] = us.map V.str ∧ us.length = i + 1 ∧ ∀ t ∈ us, ∃ c, t = ⟨#[c]⟩ ∧ 97 ≤ c ∧ c ≤ 122 := by
      refine ⟨ts ++ [⟨#[c]⟩], by rw [List.map_append]; rfl, by rw [List.length_append, hl]; rfl, fun t h => ?_⟩
      rcases List.mem_append.mp h with z | z
      · exact ht t z
      · rw [List.mem_singleton.mp z]
        exact ⟨c, rfl, c0, c1⟩
    first | exact ⟨new, ⟨_, rfl⟩, W4, B3.trans B4⟩ | exact ⟨new, W4, B3.trans B4⟩
  · rintro i acc σ H' ⟨⟨ts, rfl, hl, _⟩, _⟩
    rw [List.length_map, hl]
    exact Nat.le_refl _
  · rintro acc σ H' ⟨⟨ts, rfl, hl, ht⟩, ⟨v, rfl⟩, W3, B3⟩ D hD
    have hn : ts.length = r1.toNat := hl
    obtain ⟨j1, j2, j3⟩ := join_let ht (by omega)
    have S9 := same_new hD (.lst (ts.map V.str))
    refine ⟨Str.empty, D, ts, rfl, rfl, upd_same, j1, ?_⟩
    generalize hst : Txt.join Str.empty ts = st at *
    have W4 := W3.same S9
    have B4 := B1.trans (B3.trans (Same.but S9))
    generalize upd H' D (.lst (ts.map V.str)) = H4 at *
    have stl : st.length ≤ 6 := by omega
    clear hst ht hl hn j1 j2 S9 B3 W3 hD
    walk_at "w"
    refine ⟨sz8 (by omega), ?_⟩
    refine drw W4 (by omega) (by omega) fun r2 H5 a2 b2 W5 B5 => ?_
    walk_at "w"
    refine drw W5 (by decide) (by decide) fun r3 H6 a3 b3 W6 B6 => ?_
    walk_at "w"
    refine ⟨sz8 (by decide), fun p1 h1 => ?_⟩
    have S1 := same_new h1 (.lst [.int 1, .int 3, .int 5, .int 7])
    refine drw (W6.same S1) (by decide) (by decide) fun r4 H7 a4 b4 W7 B7 => ?_
    have e7 := B7 p1 _ (W6.ne h1) upd_same
    obtain ⟨sp, hsp, esp⟩ := at_mem (ns := [1, 3, 5, 7]) a4 b4
    refine ixl (SqL.of e7) esp ?_
    have BB := B4.trans (B5.trans (B6.trans ((Same.but S1).trans B7)))
    clear B4 B5 B6 B7 S1 e7 esp h1 W4 W5 W6 a4 b4
    walk_at "w"
    refine ⟨Nat.zero_le _, fun pf hf => ?_⟩
    have hpf0 : H pf = none := by
      cases e : H pf with
      | none => rfl
      | some o =>
        have z := BB pf o (W7.ne hf) e
        rw [hf] at z
        cases z
    have nw := W7.ne hf
    have S8 := same_new hf (.lst [])
    have W8 := W7.same S8
    have B8 := BB.trans (Same.but (w := wl) S8)
    have e8 : upd H7 pf (.lst []) pf = some (.lst (([] : List Str).map V.str)) := upd_same
    generalize upd H7 pf (.lst []) = H8 at *
    clear BB S8 hf W7
    refine ⟨by omega, by omega, ?_⟩
    refine ForR.by (fun i σ H' => (∃ us : List Str, us.length = i ∧ (∀ u ∈ us, goodN u) ∧ H' pf = some (.lst (us.map V.str))) ∧ (∃ v8 v9, σ = [some (.ref wl), some (.int n), some (.str letters), some (.str st), some (.int r2), some (.int r3), some (.int sp), some (.ref pf), v8, v9]) ∧ Well H' wl ∧ But wl H H') ⟨⟨[], rfl, (fun u hu => absurd hu List.not_mem_nil), e8⟩, ⟨_, _, rfl⟩, W8, B8⟩ ?_ ?_
    · rintro i σ H9 hi ⟨⟨us, ul, ug, ue⟩, ⟨v8, v9, rfl⟩, W9, B9⟩
      walk_at "w"
      have hil : i < 100 := by omega
      have hsp8 : 0 ≤ sp ∧ sp ≤ 7 := by simp only [List.mem_cons, List.not_mem_nil, or_false] at hsp; omega
      have m1 := Int.emod_nonneg (r3 + sp * (0 + (i : Int))) (b := 26) (by decide)
      have m2 := Int.emod_lt_of_pos (r3 + sp * (0 + (i : Int))) (b := 26) (by decide)
      obtain ⟨c, ec, c0, c1⟩ := letter_at m1 m2
      have k1 := Txt.slice_le st none (some r2)
      have k2 := Txt.slice_le st (some r2) none
      refine ⟨sz8 (by omega), .inl ⟨by omega, by omega⟩, by decide, ?_⟩
      refine ixs (u := letters) (sz8 (by decide)) ec ?_
      walk_at "w"
      have k3 := slice_two (x := st) (r := r2) stl a2 (by omega)
      have l1 : (⟨#[c]⟩ : Str).length = 1 := rfl
      have l2 : (Txt.slice st none (some r2) ++ ⟨#[c]⟩ : Str).length = (Txt.slice st none (some r2)).length + 1 := by rw [Str.length_append, l1]
      refine ⟨sz8 (by omega), sz8 (by omega), sz8 (by omega), .inl ⟨rfl, _, SqL.of ue⟩, ?_⟩
      refine drw W9 (by decide) (by decide) fun r5 G1 a5 b5 W10 B10 => ?_
      obtain ⟨d, ed, d0, d1⟩ := letter_at a5 b5
      refine ixs (u := letters) (sz8 (by decide)) ed ?_
      refine drw W10 (by decide) (by decide) fun r6 G2 a6 b6 W11 B11 => ?_
      refine ⟨⟨#[d]⟩, r6, rfl, rfl, by omega, ?_⟩
      walk_at "w"
      have lt : ∀ x : Str, x = (if r6 = 1 then ⟨#[d]⟩ else Str.empty) → LetS x ∧ x.length ≤ 1 := by
        intro x hx
        rw [hx]
        split
        · exact ⟨let_one d0 d1, Nat.le_refl _⟩
        · exact ⟨let_empty, by decide⟩
      generalize (if r6 = 1 then (⟨#[d]⟩ : Str) else Str.empty) = tl at *
      obtain ⟨t1, t2⟩ := lt tl rfl
      have l3 : (Txt.slice st none (some r2) ++ ⟨#[c]⟩ ++ Txt.slice st (some r2) none : Str).length = (Txt.slice st none (some r2)).length + 1 + (Txt.slice st (some r2) none).length := by rw [Str.length_append, l2]
      have gd : goodN (Txt.slice st none (some r2) ++ ⟨#[c]⟩ ++ Txt.slice st (some r2) none ++ tl) := by
        refine ⟨?_, ?_, let_app (let_app (let_app (let_slice j3 _ _) (let_one c0 c1)) (let_slice j3 _ _)) t1⟩
        · rw [Str.length_append, l3]; omega
        · rw [Str.length_append, l3]; omega
      refine ⟨sz8 (by omega), ?_⟩
      have ue2 := B11 pf _ nw (B10 pf _ nw ue)
      refine ⟨pf, _, _, rfl, rfl, ue2, ?_, ?_⟩
      · rw [List.length_map, ul]
        exact Nat.lt_of_le_of_lt (by omega : i ≤ 1000) (by decide)
      · generalize Txt.slice st none (some r2) ++ ⟨#[c]⟩ ++ Txt.slice st (some r2) none ++ tl = nu at *
        have W12 : Well (upd G2 pf (.lst (us.map V.str ++ [.str nu]))) wl := by
          obtain ⟨x1, x2, x3, x4, e⟩ := W11
          exact ⟨x1, x2, x3, x4, by rw [upd_ne (fun z => nw z.symm)]; exact e⟩
        refine ⟨⟨us ++ [nu], by rw [List.length_append, ul]; rfl, fun y hy => ?_, by rw [upd_same, List.map_append]; rfl⟩, W12, fun b o nb e => ?_⟩
        · rcases List.mem_append.mp hy with z | z
          · exact ug y z
          · rw [List.mem_singleton.mp z]; exact gd
        · rw [upd_ne (ne_of_none e hpf0)]
          exact B11 b o nb (B10 b o nb (B9 b o nb e))
    · rintro σ H9 ⟨⟨us, ul, ug, ue⟩, ⟨v8, v9, rfl⟩, W9, B9⟩
      walk_at "w"
      exact q pf us H9 ul ug W9 B9 hpf0 ue
end
end Bw
set_option Elab.async false
set_option linter.all false
set_option maxRecDepth 100000
set_option maxHeartbeats 8000000
namespace Bw
open PySem L2
local macro_rules | `(tactic| walk_at "w") => `(tactic| try simp only [w_seq, w_next, w_ifS, w_ret, w_retN, w_drop, w_asg, w_gName, w_gSub, w_var, w_c, w_op, w_un, w_rU, w_rI0, w_rI, w_test, w_b, w_and, w_or, w_not, w_andV, w_orV, w_notV, w_if, w_cons, w_nil, w_tup, w_lst, w_call, w_cB, w_eq, w_ne, w_isN, w_notN, w_chain, w_sl, w_part, w_noPart, w_forL, w_for1, w_for2, w_K, w_for3, w_isnotB, w_raise, w_try, w_KX, w_cut, w_compL, w_comp1, w_comp2, w_yes, w_pick0, w_pickN, w_pickS, w_bm, w_bm0, w_tyS, w_addS, w_slS, w_blkK, w_strs, w_methD, w_makeN, w_make, w_fld, w_gTup, w_gCons, w_gNil, w_sFld, w_compS, w_tryB, w_bmake, w_noKeys, w_nev, w_never, Option.getD_some,  exists_const, false_or, or_false, exists_false, w_s1, w_s2, w_s3, w_s4, w_s5, L2.start, List.map_cons, List.map_nil, List.length_cons, List.length_nil, List.replicate, List.replicate_zero, List.replicate_succ, Nat.reduceAdd, Nat.reduceSub, Nat.reduceLeDiff, List.cons_append, List.nil_append, List.append_nil, List.set_cons_zero, List.set_cons_succ, List.getElem?_cons_zero, List.getElem?_cons_succ, Option.some.injEq, V.int.injEq, V.bl.injEq, V.ref.injEq, V.str.injEq, V.ty.injEq, List.cons.injEq, and_true, true_and, exists_eq_left, exists_eq_left', exists_and_left, exists_eq, exists_eq', and_self, decide_eq_true_eq, Bool.not_eq_true', decide_eq_false_iff_not, Bool.true_eq_false, Bool.false_eq_true, if_true, if_false, ite_true, ite_false, false_and, and_false, and_assoc, reduceCtorEq])
section
variable {P : Program} {w : World} {K : PySem.W.Frag} {mg : Str → Option Value} {base : Heap} {f : Addr} {fd : FuncData} {a : Ad}
theorem ok_law_marks (B : Bt K mg a)  (F : Fun K "_law_marks" "_law_marks" s_law_marks f fd) : FnOk P w K mg base CX0 1 f fd ["_law_quiet_here"] (sp_law_marks K a) := by
  refine F.ok sc_law_marks (fun vs H Q E h => ?_) (fun cdv A outer s H vs Q E hr h => ?_)
  · obtain ⟨x, qh, rfl, _⟩ := h
    rfl
  obtain ⟨x, qh, rfl, hv, q⟩ := h
  refine ⟨_, (pss_of (qss_cons (qs_set (i := 1) sc_law_marks.nd rfl (Or.inl rfl) (qe_of (pe_op op_rep (pe_lst (pa_of (qa_c pe_bl qa_nil))) pe_int)) (by kernel_rfl)) (qss_cons (qs_if (pt_cmp (pc_isN (pv 0))) (qss_one (qs_ret (qe_of (pv 1)))) qss_nil) (qss_cons (qs_set (i := 2) sc_law_marks.nd rfl (Or.inl rfl) (qe_of (pe_ix ix_tup (pv 0) pe_int (fun _ _ => rfl))) (by kernel_rfl)) (qss_cons (qs_of (ps_while PassesOwn.never (pt_cmpR op_ne (pv 2) (pe_ix ix_tup (pv 0) pe_int (fun _ _ => rfl)) (nomark _)) (pss_of (qss_cons (qs_of (ps_asg pe_bl (pg_sub (pv 1) (pv 2) set_list))) (qss_one (qs_set (i := 2) sc_law_marks.nd rfl (Or.inl rfl) (qe_of (pe_op op_mod (pe_op op_add (pv 2) pe_int) pe_int)) (by kernel_rfl))))))) (qss_one (qs_ret (qe_of (pv 1))))))))), ?_⟩
  walk_at "w"
  refine ⟨sz8 (by decide), fun p0 hp0 => ?_⟩
  refine ⟨p0, 1440, _, rfl, rfl, upd_same, by decide, by decide, by decide, fun l hl => ?_⟩
  have s1 := same_new hp0 (.lst [V.bl false])
  have s2 := same_new hl (.lst (List.replicate (Int.toNat 1440) [V.bl false]).flatten)
  have sm := s1.trans s2
  match qh, hv, q with
  | none, hn, q =>
    have en : x = .non := hn
    subst en
    walk_at "w"
    refine q l _ sm ?_
    rw [upd_same, flat_one]
    rfl
  | some (s, e), ⟨p, ex, hq⟩, q =>
    subst ex
    have hl1 : upd (upd H p0 (.lst [V.bl false])) l (.lst (List.replicate (Int.toNat 1440) [V.bl false]).flatten) l = some (.lst (marksK V.bl s 0)) := by
      rw [upd_same, marksK_zero, flat_one]; rfl
    generalize upd (upd H p0 (.lst [V.bl false])) l (.lst (List.replicate (Int.toNat 1440) [V.bl false]).flatten) = H1 at *
    have hs0 := hq.s0
    have hs1 := hq.s1
    have he0 := hq.e0
    have he1 := hq.e1
    have hne := hq.ne
    walk_at "w"
    refine ixt (SqT.of (sm _ _ hq.at_)) (v := .int s) rfl ?_
    walk_at "w"
    refine whl (fun σ H2 => ∃ k : Int, σ = [some (.ref p), some (.ref l), some (.int ((s + k) % 1440))] ∧ 0 ≤ k ∧ k ≤ (e - s) % 1440 ∧ H2 l = some (.lst (marksK V.bl s k)) ∧ Same H H2 ∧ QOk H2 p s e) (fun σ _ => match σ with | [_, _, some (.int a)] => ((e - a) % 1440).toNat | _ => 0) ⟨0, ?_, by omega, by omega, hl1, sm, hq.same sm⟩ ?_
    · have e0 : (s + 0) % 1440 = s := by omega
      rw [e0]
    rintro σ H2 ⟨k, rfl, k0, k1, hl2, sm2, hq2⟩
    walk_at "w"
    refine ixt (SqT.of hq2.at_) (v := .int e) rfl ?_
    walk_at "w"
    by_cases hk : (s + k) % 1440 = e
    · rw [if_neg (by simpa using hk)]
      walk_at "w"
      have ek : k = (e - s) % 1440 := by omega
      rw [ek] at hl2
      exact q l H2 sm2 hl2
    · rw [if_pos (by simpa using hk)]
      walk_at "w"
      have hlt : k < (e - s) % 1440 := by omega
      refine ⟨fun σ' H' => ∃ k', k' = k + 1 ∧ σ' = [some (.ref p), some (.ref l), some (.int ((s + k') % 1440))] ∧ H' l = some (.lst (marksK V.bl s k')) ∧ Same H H' ∧ QOk H' p s e, ?_, ?_⟩
      · rintro σ' H' ⟨k', rfl, rfl, h3, sm3, hq3⟩
        refine ⟨_, ?_, rfl, k + 1, rfl, by omega, by omega, h3, sm3, hq3⟩
        simp only []
        omega
      · refine setl hl2 (ixN_of (by omega) (by rw [marksK_length]; omega)) ?_
        walk_at "w"
        refine ⟨by decide, ?_⟩
        have pl : p ≠ l := ne_of hq2.at_ hl2 (by intro z; cases z)
        have e1 : ((s + k) % 1440 + 1) % 1440 = (s + (k + 1)) % 1440 := by omega
        have st : (marksK V.bl s k).set ((s + k) % 1440).toNat (V.bl true) = marksK V.bl s (k + 1) := marksK_step V.bl k0 (by omega)
        have hh : ∀ b o, b ≠ l → H2 b = some o → upd H2 l (.lst ((marksK V.bl s k).set ((s + k) % 1440).toNat (V.bl true))) b = some o := fun b o n h => by rw [upd_ne n]; exact h
        have hn : H l = none := Same.free s1 hl
        refine ⟨e1, by rw [upd_same, st], fun b o h => hh b o (fun z => by subst z; rw [hn] at h; cases h) (sm2 b o h), ⟨hh _ _ pl hq2.at_, hs0, hs1, he0, he1, hne⟩⟩
theorem ok_law_quiet (B : Bt K mg a) (C_law_draw : CalX P w K mg base "_law_draw" ["_law_well_here", "_law_most"] 2 (sp_law_draw K a)) (F : Fun K "_law_quiet" "_law_quiet" s_law_quiet f fd) : FnOk P w K mg base CX0 3 f fd ["_law_well_here"] (sp_law_quiet K a) := by
  refine F.ok sc_law_quiet (fun vs H Q E h => ?_) (fun cdv A outer s H vs Q E hr h => ?_)
  · obtain ⟨wl, rfl, _⟩ := h
    rfl
  obtain ⟨wl, rfl, W, q⟩ := h
  refine ⟨_, (pss_of (qss_cons (qs_set (i := 1) sc_law_quiet.nd rfl (Or.inl rfl) (qe_ix ix_list (qe_lst (qa_c pe_int (qa_c pe_int (qa_c (pe_calN C_law_draw (hr.mono (by decide)) rfl (pa_of (qa_c (pv 0) (qa_c pe_int qa_nil))) (he := star_plain _ _ _ rfl) (hpl := plain_any rfl)) (qa_c (pe_calN C_law_draw (hr.mono (by decide)) rfl (pa_of (qa_c (pv 0) (qa_c pe_int qa_nil))) (he := star_plain _ _ _ rfl) (hpl := plain_any rfl)) qa_nil))))) (qe_of (pe_calN C_law_draw (hr.mono (by decide)) rfl (pa_of (qa_c (pv 0) (qa_c pe_int qa_nil))) (he := star_plain _ _ _ rfl) (hpl := plain_any rfl))) (fun _ _ => rfl)) (by kernel_rfl)) (qss_cons (qs_set (i := 2) sc_law_quiet.nd rfl (Or.inl rfl) (qe_ix ix_list (qe_lst (qa_c pe_int (qa_c pe_int (qa_c (pe_op op_add pe_int (pe_calN C_law_draw (hr.mono (by decide)) rfl (pa_of (qa_c (pv 0) (qa_c pe_int qa_nil))) (he := star_plain _ _ _ rfl) (hpl := plain_any rfl))) (qa_c (pe_op op_add pe_int (pe_calN C_law_draw (hr.mono (by decide)) rfl (pa_of (qa_c (pv 0) (qa_c pe_int qa_nil))) (he := star_plain _ _ _ rfl) (hpl := plain_any rfl))) qa_nil))))) (qe_of (pe_calN C_law_draw (hr.mono (by decide)) rfl (pa_of (qa_c (pv 0) (qa_c pe_int qa_nil))) (he := star_plain _ _ _ rfl) (hpl := plain_any rfl))) (fun _ _ => rfl)) (by kernel_rfl)) (qss_cons (qs_set (i := 3) sc_law_quiet.nd rfl (Or.inl rfl) (qe_of (pe_tup (pa_of (qa_c (pv 1) (qa_c (pe_op op_mod (pe_op op_add (pv 1) (pv 2)) pe_int) qa_nil))))) (by kernel_rfl)) (qss_one (qs_ret (qe_ix ix_list (qe_lst (qa_c (pv 3) (qa_c (pv 3) (qa_c (pv 3) (qa_c pe_non qa_nil))))) (qe_of (pe_calN C_law_draw (hr.mono (by decide)) rfl (pa_of (qa_c (pv 0) (qa_c pe_int qa_nil))) (he := star_plain _ _ _ rfl) (hpl := plain_any rfl))) (fun _ _ => rfl)))))))), ?_⟩
  walk_at "w"
  refine drw W (by decide) (by decide) fun r1 H1 a1 b1 W1 B1 => ?_
  walk_at "w"
  refine drw W1 (by decide) (by decide) fun r2 H2 a2 b2 W2 B2 => ?_
  walk_at "w"
  refine ⟨sz8 (by decide), fun p hp => ?_⟩
  refine drw (W2.same (same_new hp _)) (by decide) (by decide) fun r3 H3 a3 b3 W3 B3 => ?_
  have e3 := B3 p _ (W2.ne hp) upd_same
  obtain ⟨st, hs, es⟩ := at_mem (ns := [0, 1439, r1, r2]) a3 b3
  refine ixl (SqL.of e3) es ?_
  have sb : 0 ≤ st ∧ st ≤ 1439 := by simp only [List.mem_cons, List.not_mem_nil, or_false] at hs; omega
  walk_at "w"
  refine drw W3 (by decide) (by decide) fun r4 H4 a4 b4 W4 B4 => ?_
  walk_at "w"
  refine drw W4 (by decide) (by decide) fun r5 H5 a5 b5 W5 B5 => ?_
  walk_at "w"
  refine ⟨sz8 (by decide), fun p2 hp2 => ?_⟩
  refine drw (W5.same (same_new hp2 _)) (by decide) (by decide) fun r6 H6 a6 b6 W6 B6 => ?_
  have e6 := B6 p2 _ (W5.ne hp2) upd_same
  obtain ⟨fr, hf, ef⟩ := at_mem (ns := [1, 1439, 1 + r4, 1 + r5]) a6 b6
  refine ixl (SqL.of e6) ef ?_
  have fb : 1 ≤ fr ∧ fr ≤ 1439 := by simp only [List.mem_cons, List.not_mem_nil, or_false] at hf; omega
  walk_at "w"
  refine ⟨by decide, sz8 (by decide), fun p3 hp3 => ?_⟩
  have Q3 : QOk (upd H6 p3 (.tup [.int st, .int ((st + fr) % 1440)])) p3 st ((st + fr) % 1440) := ⟨upd_same, sb.1, sb.2, by omega, by omega, by omega⟩
  have W7 := W6.same (same_new hp3 (.tup [.int st, .int ((st + fr) % 1440)]))
  have B7 := B1.trans (B2.trans ((Same.but (same_new hp _)).trans (B3.trans (B4.trans (B5.trans ((Same.but (same_new hp2 _)).trans (B6.trans (Same.but (same_new hp3 (.tup [.int st, .int ((st + fr) % 1440)]))))))))))
  generalize upd H6 p3 (.tup [.int st, .int ((st + fr) % 1440)]) = H7 at *
  walk_at "w"
  refine ⟨sz8 (by decide), fun p4 hp4 => ?_⟩
  have S8 := same_new hp4 (.lst [.ref p3, .ref p3, .ref p3, .non])
  have W8 := W7.same S8
  refine drw W8 (by decide) (by decide) fun r7 H8 a7 b7 W9 B9 => ?_
  have e8 := B9 p4 _ (W7.ne hp4) upd_same
  have Q8 := (Q3.same S8).but W8 B9
  have BB := B7.trans ((Same.but S8).trans B9)
  obtain ⟨v, hv, ev⟩ := at_memV (xs := [.ref p3, .ref p3, .ref p3, .non]) a7 (by simpa using b7)
  refine ixl (SqL.of e8) ev ?_
  simp only [List.mem_cons, List.not_mem_nil, or_false] at hv
  rcases hv with rfl | rfl | rfl | rfl
  · exact q _ (some (st, (st + fr) % 1440)) _ W9 BB ⟨p3, rfl, Q8⟩
  · exact q _ (some (st, (st + fr) % 1440)) _ W9 BB ⟨p3, rfl, Q8⟩
  · exact q _ (some (st, (st + fr) % 1440)) _ W9 BB ⟨p3, rfl, Q8⟩
  · exact q _ none _ W9 BB rfl
theorem ok_law_moment (B : Bt K mg a) (C_law_draw : CalX P w K mg base "_law_draw" ["_law_well_here", "_law_most"] 2 (sp_law_draw K a)) (F : Fun K "_law_moment" "_law_moment" s_law_moment f fd) : FnOk P w K mg base CX0 3 f fd ["_law_well_here", "_law_zone", "_law_quiet_here", "_law_slow"] (sp_law_moment K a) := by
  refine F.ok sc_law_moment (fun vs H Q E h => ?_) (fun cdv A outer s H vs Q E hr h => ?_)
  · obtain ⟨wl, z, sl, x, qh, rfl, _⟩ := h
    rfl
  obtain ⟨wl, z, sl, x, qh, rfl, W, hv, q⟩ := h
  refine ⟨_, (pss_of (qss_cons (qs_set (i := 4) sc_law_moment.nd rfl (Or.inl rfl) (qe_of (pe_calN C_law_draw (hr.mono (by decide)) rfl (pa_of (qa_c (pv 0) (qa_c pe_int qa_nil))) (he := star_plain _ _ _ rfl) (hpl := plain_any rfl))) (by kernel_rfl)) (qss_cons (qs_if (L2.PW.pt (pw_or (pt_cmpR op_eq (pv 4) pe_int (nomark _)) (pw_or1 (pt_cmp (pc_isN (pv 2)))))) (qss_one (qs_ret (qe_of (pe_op op_sub (pe_calN C_law_draw (hr.mono (by decide)) rfl (pa_of (qa_c (pv 0) (qa_c (pe_op op_mul pe_int (pe_op op_pow pe_int pe_int)) qa_nil))) (he := star_plain _ _ _ rfl) (hpl := plain_any rfl)) (pe_op op_pow pe_int pe_int))))) qss_nil) (qss_cons (qs_set (i := 5) sc_law_moment.nd rfl (Or.inl rfl) (qe_ix ix_list (qe_lst (qa_c (pe_op op_sub (pe_calN C_law_draw (hr.mono (by decide)) rfl (pa_of (qa_c (pv 0) (qa_c pe_int qa_nil))) (he := star_plain _ _ _ rfl) (hpl := plain_any rfl)) pe_int) (qa_c (pe_op op_sub (pe_calN C_law_draw (hr.mono (by decide)) rfl (pa_of (qa_c (pv 0) (qa_c (pe_op op_pow pe_int pe_int) qa_nil))) (he := star_plain _ _ _ rfl) (hpl := plain_any rfl)) (pe_op op_mul pe_int (pe_op op_pow pe_int pe_int))) qa_nil))) (qe_of (pe_calN C_law_draw (hr.mono (by decide)) rfl (pa_of (qa_c (pv 0) (qa_c pe_int qa_nil))) (he := star_plain _ _ _ rfl) (hpl := plain_any rfl))) (fun _ _ => rfl)) (by kernel_rfl)) (qss_one (qs_ret (qe_of (pe_op op_sub (pe_op op_add (pe_op op_sub (pe_op op_sub (pe_op op_add (pe_op op_mul (pv 5) pe_int) (pe_ix ix_tup (pv 2) (pv 4) (fun _ _ => rfl))) (pv 1)) (pv 3)) (pe_calN C_law_draw (hr.mono (by decide)) rfl (pa_of (qa_c (pv 0) (qa_c pe_int qa_nil))) (he := star_plain _ _ _ rfl) (hpl := plain_any rfl))) pe_int)))))))), ?_⟩
  have far : ∀ (H1 : Hp), Well H1 wl → But wl H H1 → (∀ (r : Int) (H' : Hp), 0 ≤ r → r < 2 * 10 ^ Int.toNat 12 → Well H' wl → But wl H1 H' → Q (.int (r - 10 ^ Int.toNat 12)) H') := fun H1 W1 B1 r H' _ _ W2 B2 => q _ _ W2 (B1.trans B2)
  walk_at "w"
  refine drw W (by decide) (by decide) fun r1 H1 a1 b1 W1 B1 => ?_
  have hv1 := hv.but W B1
  walk_at "w"
  by_cases h2 : r1 = 2
  · rw [if_pos h2]
    refine ⟨⟨by decide, by decide, by decide⟩, .inl ⟨by decide, by decide⟩, ?_⟩
    refine drw W1 (by decide) (by decide) fun r2 H2 a2 b2 W2 B2 => ?_
    walk_at "w"
    exact ⟨⟨by decide, by decide, by decide⟩, far _ W1 B1 _ _ a2 b2 W2 B2⟩
  · rw [if_neg h2]
    match qh, hv1 with
    | none, hn =>
      have en : x = .non := hn
      subst en
      walk_at "w"
      refine ⟨⟨by decide, by decide, by decide⟩, .inl ⟨by decide, by decide⟩, ?_⟩
      refine drw W1 (by decide) (by decide) fun r2 H2 a2 b2 W2 B2 => ?_
      walk_at "w"
      exact ⟨⟨by decide, by decide, by decide⟩, far _ W1 B1 _ _ a2 b2 W2 B2⟩
    | some (s, e), ⟨p, ex, hq1⟩ =>
      subst ex
      walk_at "w"
      refine drw W1 (by decide) (by decide) fun r2 H2 a2 b2 W2 B2 => ?_
      have hq2 := hq1.but W1 B2
      walk_at "w"
      refine ⟨⟨by decide, by decide, by decide⟩, ?_⟩
      refine drw W2 (by decide) (by decide) fun r3 H3 a3 b3 W3 B3 => ?_
      have hq3 := hq2.but W2 B3
      walk_at "w"
      refine ⟨⟨by decide, by decide, by decide⟩, .inl ⟨by decide, by decide⟩, sz8 (by decide), fun pp hp => ?_⟩
      have hq3' := hq3.same (same_new hp (.lst [.int (r2 - 3), .int (r3 - 5 * 10 ^ Int.toNat 7)]))
      have W3' := W3.same (same_new hp (.lst [.int (r2 - 3), .int (r3 - 5 * 10 ^ Int.toNat 7)]))
      refine drw W3' (by decide) (by decide) fun r4 H4 a4 b4 W4 B4 => ?_
      have hq4 := hq3'.but W3' B4
      have e4 := B4 pp _ (W3.ne hp) upd_same
      obtain ⟨y, hy, ey⟩ := at_mem (ns := [r2 - 3, r3 - 5 * 10 ^ Int.toNat 7]) a4 b4
      refine ixl (SqL.of e4) ey ?_
      walk_at "w"
      refine ⟨.inr ⟨by decide, by decide⟩, ?_⟩
      obtain ⟨u, hu, eu⟩ := at_mem (ns := [s, e]) a1 (show r1 < ((2 : Nat) : Int) by omega)
      refine ixt (SqT.of hq4.at_) eu ?_
      walk_at "w"
      refine drw W4 (by decide) (by decide) fun r5 H5 a5 b5 W5 B5 => ?_
      walk_at "w"
      exact q _ _ W5 (B1.trans (B2.trans (B3.trans ((Same.but (same_new hp _)).trans (B4.trans B5)))))
end
end Bw
set_option Elab.async false
set_option linter.all false
set_option maxRecDepth 100000
set_option maxHeartbeats 8000000
namespace Bw
open PySem L2
local macro_rules | `(tactic| walk_at "w") => `(tactic| try simp only [w_seq, w_next, w_ifS, w_ret, w_retN, w_drop, w_asg, w_gName, w_gSub, w_var, w_c, w_op, w_un, w_rU, w_rI0, w_rI, w_test, w_b, w_and, w_or, w_not, w_andV, w_orV, w_notV, w_if, w_cons, w_nil, w_tup, w_lst, w_call, w_cB, w_eq, w_ne, w_isN, w_notN, w_chain, w_sl, w_part, w_noPart, w_forL, w_for1, w_for2, w_K, w_for3, w_isnotB, w_raise, w_try, w_KX, w_cut, w_compL, w_comp1, w_comp2, w_yes, w_pick0, w_pickN, w_pickS, w_bm, w_bm0, w_tyS, w_addS, w_slS, w_blkK, w_strs, w_methD, w_makeN, w_make, w_fld, w_gTup, w_gCons, w_gNil, w_sFld, w_compS, w_tryB, w_bmake, w_noKeys, w_nev, w_never, Option.getD_some,  exists_const, false_or, or_false, exists_false, w_s1, w_s2, w_s3, w_s4, w_s5, L2.start, List.map_cons, List.map_nil, List.length_cons, List.length_nil, List.replicate, List.replicate_zero, List.replicate_succ, Nat.reduceAdd, Nat.reduceSub, Nat.reduceLeDiff, List.cons_append, List.nil_append, List.append_nil, List.set_cons_zero, List.set_cons_succ, List.getElem?_cons_zero, List.getElem?_cons_succ, Option.some.injEq, V.int.injEq, V.bl.injEq, V.ref.injEq, V.str.injEq, V.ty.injEq, List.cons.injEq, and_true, true_and, exists_eq_left, exists_eq_left', exists_and_left, exists_eq, exists_eq', and_self, decide_eq_true_eq, Bool.not_eq_true', decide_eq_false_iff_not, Bool.true_eq_false, Bool.false_eq_true, if_true, if_false, ite_true, ite_false, false_and, and_false, and_assoc, reduceCtorEq])
section
variable {P : Program} {w : World} {K : PySem.W.Frag} {mg : Str → Option Value} {base : Heap} {f : Addr} {fd : FuncData} {a : Ad}
theorem ok_loud_from (B : Bt K mg a) (C_is_quiet : CalX P w K mg base "is_quiet" ["quiet", "zone", "moment"] 6 (sp_is_quiet K a)) (C_next_day : CalX P w K mg base "next_day" ["minute", "zone", "moment"] 5 (sp_next_day K a)) (F : Fun K "loud_from" "loud_from" s_loud_from f fd) : FnOk P w K mg base CX0 7 f fd ["quiet", "zone", "moment"] (sp_loud_from K a) := by
  refine F.ok sc_loud_from (fun vs H Q E h => ?_) (fun cdv A outer s H vs Q E hr h => ?_)
  · obtain ⟨x, qh, z, m, rfl, _⟩ := h
    rfl
  obtain ⟨x, qh, z, m, rfl, z0, z1, hv, q⟩ := h
  refine ⟨_, (pss_of (qss_cons (qs_if (pt_val (pe_calN C_is_quiet (hr.mono (by decide)) rfl (pa_of (qa_c (pv 0) (qa_c (pv 1) (qa_c (pv 2) qa_nil)))) (he := star_plain _ _ _ rfl) (hpl := plain_any rfl))) (qss_one (qs_ret (qe_of (pe_calN C_next_day (hr.mono (by decide)) rfl (pa_of (qa_c (pe_ix ix_tup (pv 0) pe_int (fun _ _ => rfl)) (qa_c (pv 1) (qa_c (pv 2) qa_nil)))) (he := star_plain _ _ _ rfl) (hpl := plain_any rfl))))) qss_nil) (qss_one (qs_ret (qe_of (pv 2)))))), ?_⟩
  walk_at "w"
  refine ⟨x, qh, z, m, rfl, z0, z1, hv, fun H1 S1 => ?_⟩
  walk_at "w"
  match qh, hv, q with
  | none, hn, q =>
    have en : x = .non := hn
    subst en
    try simp only [qB, w_seq, w_next, w_ifS, w_ret, w_retN, w_drop, w_asg, w_gName, w_gSub, w_var, w_c, w_op, w_un, w_rU, w_rI0, w_rI, w_test, w_b, w_and, w_or, w_not, w_andV, w_orV, w_notV, w_if, w_cons, w_nil, w_tup, w_lst, w_call, w_cB, w_eq, w_ne, w_isN, w_notN, w_chain, w_sl, w_part, w_noPart, w_forL, w_for1, w_for2, w_K, w_for3, w_isnotB, w_raise, w_try, w_KX, w_cut, w_compL, w_comp1, w_comp2, w_yes, w_pick0, w_pickN, w_pickS, w_bm, w_bm0, w_tyS, w_addS, w_slS, w_blkK, w_strs, w_methD, w_makeN, w_make, w_fld, w_gTup, w_gCons, w_gNil, w_sFld, w_compS, w_tryB, w_bmake, w_noKeys, w_nev, w_never, Option.getD_some,  exists_const, false_or, or_false, exists_false, w_s1, w_s2, w_s3, w_s4, w_s5, L2.start, List.map_cons, List.map_nil, List.length_cons, List.length_nil, List.replicate, List.replicate_zero, List.replicate_succ, Nat.reduceAdd, Nat.reduceSub, Nat.reduceLeDiff, List.cons_append, List.nil_append, List.append_nil, List.set_cons_zero, List.set_cons_succ, List.getElem?_cons_zero, List.getElem?_cons_succ, Option.some.injEq, V.int.injEq, V.bl.injEq, V.ref.injEq, V.str.injEq, V.ty.injEq, List.cons.injEq, and_true, true_and, exists_eq_left, exists_eq_left', exists_and_left, exists_eq, exists_eq', and_self, decide_eq_true_eq, Bool.not_eq_true', decide_eq_false_iff_not, Bool.true_eq_false, Bool.false_eq_true, if_true, if_false, ite_true, ite_false, false_and, and_false, and_assoc, reduceCtorEq]
    exact q _ S1
  | some (s, e), ⟨p, ex, hq⟩, q =>
    subst ex
    have q1 := q _ S1
    unfold loudQ at q1
    by_cases h : qB (some (s, e)) ((m + z) % 1440) = true
    · try simp only [h, w_seq, w_next, w_ifS, w_ret, w_retN, w_drop, w_asg, w_gName, w_gSub, w_var, w_c, w_op, w_un, w_rU, w_rI0, w_rI, w_test, w_b, w_and, w_or, w_not, w_andV, w_orV, w_notV, w_if, w_cons, w_nil, w_tup, w_lst, w_call, w_cB, w_eq, w_ne, w_isN, w_notN, w_chain, w_sl, w_part, w_noPart, w_forL, w_for1, w_for2, w_K, w_for3, w_isnotB, w_raise, w_try, w_KX, w_cut, w_compL, w_comp1, w_comp2, w_yes, w_pick0, w_pickN, w_pickS, w_bm, w_bm0, w_tyS, w_addS, w_slS, w_blkK, w_strs, w_methD, w_makeN, w_make, w_fld, w_gTup, w_gCons, w_gNil, w_sFld, w_compS, w_tryB, w_bmake, w_noKeys, w_nev, w_never, Option.getD_some,  exists_const, false_or, or_false, exists_false, w_s1, w_s2, w_s3, w_s4, w_s5, L2.start, List.map_cons, List.map_nil, List.length_cons, List.length_nil, List.replicate, List.replicate_zero, List.replicate_succ, Nat.reduceAdd, Nat.reduceSub, Nat.reduceLeDiff, List.cons_append, List.nil_append, List.append_nil, List.set_cons_zero, List.set_cons_succ, List.getElem?_cons_zero, List.getElem?_cons_succ, Option.some.injEq, V.int.injEq, V.bl.injEq, V.ref.injEq, V.str.injEq, V.ty.injEq, List.cons.injEq, and_true, true_and, exists_eq_left, exists_eq_left', exists_and_left, exists_eq, exists_eq', and_self, decide_eq_true_eq, Bool.not_eq_true', decide_eq_false_iff_not, Bool.true_eq_false, Bool.false_eq_true, if_true, if_false, ite_true, ite_false, false_and, and_false, and_assoc, reduceCtorEq]
      try simp only [h, w_seq, w_next, w_ifS, w_ret, w_retN, w_drop, w_asg, w_gName, w_gSub, w_var, w_c, w_op, w_un, w_rU, w_rI0, w_rI, w_test, w_b, w_and, w_or, w_not, w_andV, w_orV, w_notV, w_if, w_cons, w_nil, w_tup, w_lst, w_call, w_cB, w_eq, w_ne, w_isN, w_notN, w_chain, w_sl, w_part, w_noPart, w_forL, w_for1, w_for2, w_K, w_for3, w_isnotB, w_raise, w_try, w_KX, w_cut, w_compL, w_comp1, w_comp2, w_yes, w_pick0, w_pickN, w_pickS, w_bm, w_bm0, w_tyS, w_addS, w_slS, w_blkK, w_strs, w_methD, w_makeN, w_make, w_fld, w_gTup, w_gCons, w_gNil, w_sFld, w_compS, w_tryB, w_bmake, w_noKeys, w_nev, w_never, Option.getD_some,  exists_const, false_or, or_false, exists_false, w_s1, w_s2, w_s3, w_s4, w_s5, L2.start, List.map_cons, List.map_nil, List.length_cons, List.length_nil, List.replicate, List.replicate_zero, List.replicate_succ, Nat.reduceAdd, Nat.reduceSub, Nat.reduceLeDiff, List.cons_append, List.nil_append, List.append_nil, List.set_cons_zero, List.set_cons_succ, List.getElem?_cons_zero, List.getElem?_cons_succ, Option.some.injEq, V.int.injEq, V.bl.injEq, V.ref.injEq, V.str.injEq, V.ty.injEq, List.cons.injEq, and_true, true_and, exists_eq_left, exists_eq_left', exists_and_left, exists_eq, exists_eq', and_self, decide_eq_true_eq, Bool.not_eq_true', decide_eq_false_iff_not, Bool.true_eq_false, Bool.false_eq_true, if_true, if_false, ite_true, ite_false, false_and, and_false, and_assoc, reduceCtorEq] at q1
      refine ixt (SqT.of (hq.same S1).at_) (v := .int e) rfl ?_
      exact ⟨e, z, m, rfl, hq.e0, hq.e1, z0, z1, q1⟩
    · have h' := Bool.eq_false_iff.mpr h
      try simp only [h', w_seq, w_next, w_ifS, w_ret, w_retN, w_drop, w_asg, w_gName, w_gSub, w_var, w_c, w_op, w_un, w_rU, w_rI0, w_rI, w_test, w_b, w_and, w_or, w_not, w_andV, w_orV, w_notV, w_if, w_cons, w_nil, w_tup, w_lst, w_call, w_cB, w_eq, w_ne, w_isN, w_notN, w_chain, w_sl, w_part, w_noPart, w_forL, w_for1, w_for2, w_K, w_for3, w_isnotB, w_raise, w_try, w_KX, w_cut, w_compL, w_comp1, w_comp2, w_yes, w_pick0, w_pickN, w_pickS, w_bm, w_bm0, w_tyS, w_addS, w_slS, w_blkK, w_strs, w_methD, w_makeN, w_make, w_fld, w_gTup, w_gCons, w_gNil, w_sFld, w_compS, w_tryB, w_bmake, w_noKeys, w_nev, w_never, Option.getD_some,  exists_const, false_or, or_false, exists_false, w_s1, w_s2, w_s3, w_s4, w_s5, L2.start, List.map_cons, List.map_nil, List.length_cons, List.length_nil, List.replicate, List.replicate_zero, List.replicate_succ, Nat.reduceAdd, Nat.reduceSub, Nat.reduceLeDiff, List.cons_append, List.nil_append, List.append_nil, List.set_cons_zero, List.set_cons_succ, List.getElem?_cons_zero, List.getElem?_cons_succ, Option.some.injEq, V.int.injEq, V.bl.injEq, V.ref.injEq, V.str.injEq, V.ty.injEq, List.cons.injEq, and_true, true_and, exists_eq_left, exists_eq_left', exists_and_left, exists_eq, exists_eq', and_self, decide_eq_true_eq, Bool.not_eq_true', decide_eq_false_iff_not, Bool.true_eq_false, Bool.false_eq_true, if_true, if_false, ite_true, ite_false, false_and, and_false, and_assoc, reduceCtorEq]
      try simp only [h', w_seq, w_next, w_ifS, w_ret, w_retN, w_drop, w_asg, w_gName, w_gSub, w_var, w_c, w_op, w_un, w_rU, w_rI0, w_rI, w_test, w_b, w_and, w_or, w_not, w_andV, w_orV, w_notV, w_if, w_cons, w_nil, w_tup, w_lst, w_call, w_cB, w_eq, w_ne, w_isN, w_notN, w_chain, w_sl, w_part, w_noPart, w_forL, w_for1, w_for2, w_K, w_for3, w_isnotB, w_raise, w_try, w_KX, w_cut, w_compL, w_comp1, w_comp2, w_yes, w_pick0, w_pickN, w_pickS, w_bm, w_bm0, w_tyS, w_addS, w_slS, w_blkK, w_strs, w_methD, w_makeN, w_make, w_fld, w_gTup, w_gCons, w_gNil, w_sFld, w_compS, w_tryB, w_bmake, w_noKeys, w_nev, w_never, Option.getD_some,  exists_const, false_or, or_false, exists_false, w_s1, w_s2, w_s3, w_s4, w_s5, L2.start, List.map_cons, List.map_nil, List.length_cons, List.length_nil, List.replicate, List.replicate_zero, List.replicate_succ, Nat.reduceAdd, Nat.reduceSub, Nat.reduceLeDiff, List.cons_append, List.nil_append, List.append_nil, List.set_cons_zero, List.set_cons_succ, List.getElem?_cons_zero, List.getElem?_cons_succ, Option.some.injEq, V.int.injEq, V.bl.injEq, V.ref.injEq, V.str.injEq, V.ty.injEq, List.cons.injEq, and_true, true_and, exists_eq_left, exists_eq_left', exists_and_left, exists_eq, exists_eq', and_self, decide_eq_true_eq, Bool.not_eq_true', decide_eq_false_iff_not, Bool.true_eq_false, Bool.false_eq_true, if_true, if_false, ite_true, ite_false, false_and, and_false, and_assoc, reduceCtorEq] at q1
      exact q1
theorem ok_first_use_of (B : Bt K mg a) (C_may_wake : CalX P w K mg base "may_wake" ["wishes", "weight"] 1 (sp_may_wake K a)) (C_loud_from : CalX P w K mg base "loud_from" ["quiet", "zone", "moment"] 7 (sp_loud_from K a)) (F : Fun K "first_use_of" "first_use_of" s_first_use_of f fd) : FnOk P w K mg base CX0 8 f fd ["road", "wishes", "weight", "moment"] (sp_first_use_of K a) := by
  refine F.ok sc_first_use_of (fun vs H Q E h => ?_) (fun cdv A outer s H vs Q E hr h => ?_)
  · obtain ⟨r, p, u, s, b, z, x, k, qh, n, m, rfl, _⟩ := h
    rfl
  obtain ⟨r, p, u, s, b, z, x, k, qh, n, m, rfl, hr1, hw, hv, z0, z1, wk, q⟩ := h
  refine ⟨_, (pss_of (qss_cons (qs_if (pt_val (pe_calN C_may_wake (hr.mono (by decide)) rfl (pa_of (qa_c (pv 1) (qa_c (pv 2) qa_nil))) (he := star_plain _ _ _ rfl) (hpl := plain_any rfl))) (qss_one (qs_ret (qe_of (pv 3)))) qss_nil) (qss_one (qs_ret (qe_of (pe_op op_sub (pe_calN C_loud_from (hr.mono (by decide)) rfl (pa_of (qa_c (pe_fld (pv 1) rfl) (qa_c (pe_fld (pv 1) rfl) (qa_c (pe_op op_add (pv 3) (pe_fld (pv 0) rfl)) qa_nil)))) (he := star_plain _ _ _ rfl) (hpl := plain_any rfl)) (pe_fld (pv 0) rfl))))))), ?_⟩
  obtain ⟨dr, er⟩ := id hr1
  obtain ⟨dx, l, e⟩ := id hw
  walk_at "w"
  refine ⟨p, z, x, k, n, rfl, hw, wk, ?_⟩
  unfold fu at q
  by_cases hk : wakes k n = true
  · try simp only [hk, w_seq, w_next, w_ifS, w_ret, w_retN, w_drop, w_asg, w_gName, w_gSub, w_var, w_c, w_op, w_un, w_rU, w_rI0, w_rI, w_test, w_b, w_and, w_or, w_not, w_andV, w_orV, w_notV, w_if, w_cons, w_nil, w_tup, w_lst, w_call, w_cB, w_eq, w_ne, w_isN, w_notN, w_chain, w_sl, w_part, w_noPart, w_forL, w_for1, w_for2, w_K, w_for3, w_isnotB, w_raise, w_try, w_KX, w_cut, w_compL, w_comp1, w_comp2, w_yes, w_pick0, w_pickN, w_pickS, w_bm, w_bm0, w_tyS, w_addS, w_slS, w_blkK, w_strs, w_methD, w_makeN, w_make, w_fld, w_gTup, w_gCons, w_gNil, w_sFld, w_compS, w_tryB, w_bmake, w_noKeys, w_nev, w_never, Option.getD_some,  exists_const, false_or, or_false, exists_false, w_s1, w_s2, w_s3, w_s4, w_s5, L2.start, List.map_cons, List.map_nil, List.length_cons, List.length_nil, List.replicate, List.replicate_zero, List.replicate_succ, Nat.reduceAdd, Nat.reduceSub, Nat.reduceLeDiff, List.cons_append, List.nil_append, List.append_nil, List.set_cons_zero, List.set_cons_succ, List.getElem?_cons_zero, List.getElem?_cons_succ, Option.some.injEq, V.int.injEq, V.bl.injEq, V.ref.injEq, V.str.injEq, V.ty.injEq, List.cons.injEq, and_true, true_and, exists_eq_left, exists_eq_left', exists_and_left, exists_eq, exists_eq', and_self, decide_eq_true_eq, Bool.not_eq_true', decide_eq_false_iff_not, Bool.true_eq_false, Bool.false_eq_true, if_true, if_false, ite_true, ite_false, false_and, and_false, and_assoc, reduceCtorEq]
    try simp only [hk, w_seq, w_next, w_ifS, w_ret, w_retN, w_drop, w_asg, w_gName, w_gSub, w_var, w_c, w_op, w_un, w_rU, w_rI0, w_rI, w_test, w_b, w_and, w_or, w_not, w_andV, w_orV, w_notV, w_if, w_cons, w_nil, w_tup, w_lst, w_call, w_cB, w_eq, w_ne, w_isN, w_notN, w_chain, w_sl, w_part, w_noPart, w_forL, w_for1, w_for2, w_K, w_for3, w_isnotB, w_raise, w_try, w_KX, w_cut, w_compL, w_comp1, w_comp2, w_yes, w_pick0, w_pickN, w_pickS, w_bm, w_bm0, w_tyS, w_addS, w_slS, w_blkK, w_strs, w_methD, w_makeN, w_make, w_fld, w_gTup, w_gCons, w_gNil, w_sFld, w_compS, w_tryB, w_bmake, w_noKeys, w_nev, w_never, Option.getD_some,  exists_const, false_or, or_false, exists_false, w_s1, w_s2, w_s3, w_s4, w_s5, L2.start, List.map_cons, List.map_nil, List.length_cons, List.length_nil, List.replicate, List.replicate_zero, List.replicate_succ, Nat.reduceAdd, Nat.reduceSub, Nat.reduceLeDiff, List.cons_append, List.nil_append, List.append_nil, List.set_cons_zero, List.set_cons_succ, List.getElem?_cons_zero, List.getElem?_cons_succ, Option.some.injEq, V.int.injEq, V.bl.injEq, V.ref.injEq, V.str.injEq, V.ty.injEq, List.cons.injEq, and_true, true_and, exists_eq_left, exists_eq_left', exists_and_left, exists_eq, exists_eq', and_self, decide_eq_true_eq, Bool.not_eq_true', decide_eq_false_iff_not, Bool.true_eq_false, Bool.false_eq_true, if_true, if_false, ite_true, ite_false, false_and, and_false, and_assoc, reduceCtorEq] at q
    exact q _ fun _ _ z => z
  · have hk' := Bool.eq_false_iff.mpr hk
    try simp only [hk', w_seq, w_next, w_ifS, w_ret, w_retN, w_drop, w_asg, w_gName, w_gSub, w_var, w_c, w_op, w_un, w_rU, w_rI0, w_rI, w_test, w_b, w_and, w_or, w_not, w_andV, w_orV, w_notV, w_if, w_cons, w_nil, w_tup, w_lst, w_call, w_cB, w_eq, w_ne, w_isN, w_notN, w_chain, w_sl, w_part, w_noPart, w_forL, w_for1, w_for2, w_K, w_for3, w_isnotB, w_raise, w_try, w_KX, w_cut, w_compL, w_comp1, w_comp2, w_yes, w_pick0, w_pickN, w_pickS, w_bm, w_bm0, w_tyS, w_addS, w_slS, w_blkK, w_strs, w_methD, w_makeN, w_make, w_fld, w_gTup, w_gCons, w_gNil, w_sFld, w_compS, w_tryB, w_bmake, w_noKeys, w_nev, w_never, Option.getD_some,  exists_const, false_or, or_false, exists_false, w_s1, w_s2, w_s3, w_s4, w_s5, L2.start, List.map_cons, List.map_nil, List.length_cons, List.length_nil, List.replicate, List.replicate_zero, List.replicate_succ, Nat.reduceAdd, Nat.reduceSub, Nat.reduceLeDiff, List.cons_append, List.nil_append, List.append_nil, List.set_cons_zero, List.set_cons_succ, List.getElem?_cons_zero, List.getElem?_cons_succ, Option.some.injEq, V.int.injEq, V.bl.injEq, V.ref.injEq, V.str.injEq, V.ty.injEq, List.cons.injEq, and_true, true_and, exists_eq_left, exists_eq_left', exists_and_left, exists_eq, exists_eq', and_self, decide_eq_true_eq, Bool.not_eq_true', decide_eq_false_iff_not, Bool.true_eq_false, Bool.false_eq_true, if_true, if_false, ite_true, ite_false, false_and, and_false, and_assoc, reduceCtorEq]
    try simp only [hk', w_seq, w_next, w_ifS, w_ret, w_retN, w_drop, w_asg, w_gName, w_gSub, w_var, w_c, w_op, w_un, w_rU, w_rI0, w_rI, w_test, w_b, w_and, w_or, w_not, w_andV, w_orV, w_notV, w_if, w_cons, w_nil, w_tup, w_lst, w_call, w_cB, w_eq, w_ne, w_isN, w_notN, w_chain, w_sl, w_part, w_noPart, w_forL, w_for1, w_for2, w_K, w_for3, w_isnotB, w_raise, w_try, w_KX, w_cut, w_compL, w_comp1, w_comp2, w_yes, w_pick0, w_pickN, w_pickS, w_bm, w_bm0, w_tyS, w_addS, w_slS, w_blkK, w_strs, w_methD, w_makeN, w_make, w_fld, w_gTup, w_gCons, w_gNil, w_sFld, w_compS, w_tryB, w_bmake, w_noKeys, w_nev, w_never, Option.getD_some,  exists_const, false_or, or_false, exists_false, w_s1, w_s2, w_s3, w_s4, w_s5, L2.start, List.map_cons, List.map_nil, List.length_cons, List.length_nil, List.replicate, List.replicate_zero, List.replicate_succ, Nat.reduceAdd, Nat.reduceSub, Nat.reduceLeDiff, List.cons_append, List.nil_append, List.append_nil, List.set_cons_zero, List.set_cons_succ, List.getElem?_cons_zero, List.getElem?_cons_succ, Option.some.injEq, V.int.injEq, V.bl.injEq, V.ref.injEq, V.str.injEq, V.ty.injEq, List.cons.injEq, and_true, true_and, exists_eq_left, exists_eq_left', exists_and_left, exists_eq, exists_eq', and_self, decide_eq_true_eq, Bool.not_eq_true', decide_eq_false_iff_not, Bool.true_eq_false, Bool.false_eq_true, if_true, if_false, ite_true, ite_false, false_and, and_false, and_assoc, reduceCtorEq] at q
    refine ⟨_, _, _, e, B.ck_Wishes.cl, B.na_Wishes_quiet, x, rfl, ?_⟩
    walk_at "w"
    refine ⟨_, _, _, e, B.ck_Wishes.cl, B.na_Wishes_zone, .int z, rfl, ?_⟩
    walk_at "w"
    refine ⟨_, _, _, er, B.ck_Road.cl, B.na_Road_slow, .int s, rfl, ?_⟩
    walk_at "w"
    refine ⟨x, qh, z, m + s, rfl, z0, z1, hv, fun H1 S1 => ?_⟩
    walk_at "w"
    refine ⟨_, _, _, S1 _ _ er, B.ck_Road.cl, B.na_Road_slow, .int s, rfl, ?_⟩
    walk_at "w"
    exact q _ S1
theorem ok_first_use (B : Bt K mg a) (C_first_use_of : CalX P w K mg base "first_use_of" ["road", "wishes", "weight", "moment"] 8 (sp_first_use_of K a)) (C_can_be_used : CalX P w K mg base "can_be_used" ["road", "wishes", "weight", "moment"] 7 (sp_can_be_used K a)) (F : Fun K "first_use" "first_use" s_first_use f fd) : FnOk P w K mg base CX0 9 f fd ["roads", "wishes", "weight", "moment"] (sp_first_use K a) := by
  refine F.ok sc_first_use (fun vs H Q E h => ?_) (fun cdv A outer s H vs Q E hr h => ?_)
  · obtain ⟨l, p, rs, z, x, k, qh, n, m, rfl, _⟩ := h
    rfl
  obtain ⟨l, p, rs, z, x, k, qh, n, m, rfl, hR, hne, h100, hw, hv, z0, z1, wk, q⟩ := h
  refine ⟨_, (pss_of (qss_cons (qs_set (i := 4) sc_first_use.nd rfl (Or.inr rfl) (qe_of (pe_callB (call_minL rfl) rfl B.min PyProof.Rows.boot_min (pa_of (qa_c (pe_compB ["road", "wishes", "weight", "moment"] [none, some 1, some 2, some 3] rfl (by kernel_rfl) (pi_list (pv 0)) (fun cl C s H fp => ⟨(pg_name (i := 0) (by decide : List.Nodup (["road", "wishes", "weight", "moment"] : List Str)) rfl (Or.inl (by kernel_rfl)) (Or.inr (by kernel_rfl))), pts_nil, (pe_calN C_first_use_of (hr.mono (by decide)) (gl_of (by kernel_rfl)) (pa_of (qa_c (pv 0 (hv := Or.inl (by kernel_rfl))) (qa_c (pv 1 (hv := Or.inr (Or.inl (by kernel_rfl)))) (qa_c (pv 2 (hv := Or.inr (Or.inl (by kernel_rfl)))) (qa_c (pv 3 (hv := Or.inr (Or.inl (by kernel_rfl)))) qa_nil))))) (he := star_plain _ _ _ rfl) (hpl := plain_any rfl))⟩)) qa_nil)) (he := star_plain _ _ _ rfl) (hpl := plain_any rfl))) (by kernel_rfl)) (qss_one (qs_ret (qe_of (pe_tup (pa_of (qa_c (pv 4) (qa_c (pe_compB ["road", "wishes", "weight", "least"] [none, some 1, some 2, some 4] rfl (by kernel_rfl) (pi_list (pv 0)) (fun cl C s H fp => ⟨(pg_name (i := 0) (by decide : List.Nodup (["road", "wishes", "weight", "least"] : List Str)) rfl (Or.inl (by kernel_rfl)) (Or.inr (by kernel_rfl))), (pts_one (pt_val (pe_calN C_can_be_used (hr.mono (by decide)) (gl_of (by kernel_rfl)) (pa_of (qa_c (pv 0 (hv := Or.inl (by kernel_rfl))) (qa_c (pv 1 (hv := Or.inr (Or.inl (by kernel_rfl)))) (qa_c (pv 2 (hv := Or.inr (Or.inl (by kernel_rfl)))) (qa_c (pv 3 (hv := Or.inr (Or.inl (by kernel_rfl)))) qa_nil))))) (he := star_plain _ _ _ rfl) (hpl := plain_any rfl)))), (pv 0 (hv := Or.inl (by kernel_rfl)))⟩)) qa_nil))))))))), ?_⟩
  walk_at "w"
  refine ⟨⟨_, SqL.of hR.1⟩, ?_⟩
  refine CompL.by (xs := rs.map fun r => V.ref r.1) (fun i acc σ H' => acc = (rs.take i).map (fun r => V.int (fu (wakes k n) qh z m r.2.2.1)) ∧ (∃ v, σ = [v, some (.ref p), some (.int n), some (.int m)]) ∧ Same H H') (sz8 (by rw [List.length_map]; omega)) ⟨rfl, ⟨_, rfl⟩, fun _ _ z => z⟩ (fun i acc σ H' _ h => SqL.of (h.2.2 _ _ hR.1)) ?_ ?_ ?_
  · rintro i y acc σ H' hy ⟨rfl, ⟨v, rfl⟩, S1⟩
    rw [List.getElem?_map] at hy
    obtain ⟨r, er, ey⟩ := Option.map_eq_some_iff.mp hy
    subst ey
    have hr1 := ((hR.same S1).2 r (List.mem_of_getElem? er))
    have ea : (rs.take i).map (fun r => V.int (fu (wakes k n) qh z m r.2.2.1)) ++ [V.int (fu (wakes k n) qh z m r.2.2.1)] = (rs.take (i + 1)).map (fun r => V.int (fu (wakes k n) qh z m r.2.2.1)) := by
      rw [List.take_succ, er, List.map_append]
      rfl
    walk_at "w"
    refine ⟨r.1, p, r.2.1, r.2.2.1, r.2.2.2, z, x, k, qh, n, m, rfl, hr1, hw.same S1, hv.same S1, z0, z1, wk, fun H2 S2 => ?_⟩
    first | exact ⟨ea, ⟨_, rfl⟩, S1.trans S2⟩ | exact ⟨ea, S1.trans S2⟩
  · rintro i acc σ H' ⟨rfl, _, _⟩
    rw [List.length_map, List.length_take]
    omega
  · rintro acc σ H' ⟨rfl, ⟨v, rfl⟩, S1⟩ D hD
    have ef : (rs.take (rs.map fun r => V.ref r.1).length).map (fun r => V.int (fu (wakes k n) qh z m r.2.2.1)) = ((rs.map (·.2.2.1)).map fun s => fu (wakes k n) qh z m s).map V.int := by
      rw [List.length_map, List.take_length, List.map_map, List.map_map]
      rfl
    rw [ef]
    have S2 := S1.trans (same_new hD (.lst (((rs.map (·.2.2.1)).map fun s => fu (wakes k n) qh z m s).map V.int)))
    refine ⟨D, rfl, _, SqL.of upd_same, ?_, fun M hM lM => ?_⟩
    · rw [List.length_map, List.length_map]
      exact List.length_pos_iff.mpr hne
    have LU : LeastU (wakes k n) qh z m (rs.map (·.2.2.1)) M := by
      obtain ⟨s, hs, e⟩ := List.mem_map.mp hM
      exact ⟨⟨s, hs, e.symm⟩, fun t ht => lM _ (List.mem_map.mpr ⟨t, ht, rfl⟩)⟩
    generalize upd H' D (.lst (((rs.map (·.2.2.1)).map fun s => fu (wakes k n) qh z m s).map V.int)) = H2 at *
    clear hM lM ef hD S1
    walk_at "w"
    refine ⟨⟨_, SqL.of (S2 _ _ hR.1)⟩, ?_⟩
    refine CompL.by (xs := rs.map fun r => V.ref r.1) (fun i acc σ H' => acc = ((rs.take i).filter fun r => useB (wakes k n) qh z M r.2.2.1).map (fun r => V.ref r.1) ∧ (∃ v, σ = [v, some (.ref p), some (.int n), some (.int M)]) ∧ Same H H') (sz8 (by rw [List.length_map]; omega)) ⟨rfl, ⟨_, rfl⟩, S2⟩ (fun i acc σ H' _ h => SqL.of (h.2.2 _ _ hR.1)) ?_ ?_ ?_
    · rintro i y acc σ H' hy ⟨rfl, ⟨v, rfl⟩, S1⟩
      rw [List.getElem?_map] at hy
      obtain ⟨r, er, ey⟩ := Option.map_eq_some_iff.mp hy
      subst ey
      have hr1 := ((hR.same S1).2 r (List.mem_of_getElem? er))
      have ea : ((rs.take (i + 1)).filter fun r => useB (wakes k n) qh z M r.2.2.1).map (fun r => V.ref r.1) = ((rs.take i).filter fun r => useB (wakes k n) qh z M r.2.2.1).map (fun r => V.ref r.1) ++ (if useB (wakes k n) qh z M r.2.2.1 = true then [V.ref r.1] else []) := by
        rw [List.take_succ, er, List.filter_append, List.map_append]
        congr 1
        simp only [Option.toList_some, List.filter_cons, List.filter_nil]
        split <;> rfl
      walk_at "w"
      refine ⟨r.1, p, r.2.1, r.2.2.1, r.2.2.2, z, x, k, qh, n, M, rfl, hr1, hw.same S1, hv.same S1, z0, z1, wk, fun H2 S2 => ?_⟩
      have eu : (wakes k n || !qB qh ((M + r.2.2.1 + z) % 1440)) = useB (wakes k n) qh z M r.2.2.1 := rfl
      rw [eu]
      by_cases hu : useB (wakes k n) qh z M r.2.2.1 = true
      · rw [if_pos hu] at ea
        try simp only [hu, w_seq, w_next, w_ifS, w_ret, w_retN, w_drop, w_asg, w_gName, w_gSub, w_var, w_c, w_op, w_un, w_rU, w_rI0, w_rI, w_test, w_b, w_and, w_or, w_not, w_andV, w_orV, w_notV, w_if, w_cons, w_nil, w_tup, w_lst, w_call, w_cB, w_eq, w_ne, w_isN, w_notN, w_chain, w_sl, w_part, w_noPart, w_forL, w_for1, w_for2, w_K, w_for3, w_isnotB, w_raise, w_try, w_KX, w_cut, w_compL, w_comp1, w_comp2, w_yes, w_pick0, w_pickN, w_pickS, w_bm, w_bm0, w_tyS, w_addS, w_slS, w_blkK, w_strs, w_methD, w_makeN, w_make, w_fld, w_gTup, w_gCons, w_gNil, w_sFld, w_compS, w_tryB, w_bmake, w_noKeys, w_nev, w_never, Option.getD_some,  exists_const, false_or, or_false, exists_false, w_s1, w_s2, w_s3, w_s4, w_s5, L2.start, List.map_cons, List.map_nil, List.length_cons, List.length_nil, List.replicate, List.replicate_zero, List.replicate_succ, Nat.reduceAdd, Nat.reduceSub, Nat.reduceLeDiff, List.cons_append, List.nil_append, List.append_nil, List.set_cons_zero, List.set_cons_succ, List.getElem?_cons_zero, List.getElem?_cons_succ, Option.some.injEq, V.int.injEq, V.bl.injEq, V.ref.injEq, V.str.injEq, V.ty.injEq, List.cons.injEq, and_true, true_and, exists_eq_left, exists_eq_left', exists_and_left, exists_eq, exists_eq', and_self, decide_eq_true_eq, Bool.not_eq_true', decide_eq_false_iff_not, Bool.true_eq_false, Bool.false_eq_true, if_true, if_false, ite_true, ite_false, false_and, and_false, and_assoc, reduceCtorEq]
        first | exact ⟨ea.symm, ⟨_, rfl⟩, S1.trans S2⟩ | exact ⟨ea.symm, S1.trans S2⟩
      · rw [if_neg hu, List.append_nil] at ea
        have hu' := Bool.eq_false_iff.mpr hu
        try simp only [hu', w_seq, w_next, w_ifS, w_ret, w_retN, w_drop, w_asg, w_gName, w_gSub, w_var, w_c, w_op, w_un, w_rU, w_rI0, w_rI, w_test, w_b, w_and, w_or, w_not, w_andV, w_orV, w_notV, w_if, w_cons, w_nil, w_tup, w_lst, w_call, w_cB, w_eq, w_ne, w_isN, w_notN, w_chain, w_sl, w_part, w_noPart, w_forL, w_for1, w_for2, w_K, w_for3, w_isnotB, w_raise, w_try, w_KX, w_cut, w_compL, w_comp1, w_comp2, w_yes, w_pick0, w_pickN, w_pickS, w_bm, w_bm0, w_tyS, w_addS, w_slS, w_blkK, w_strs, w_methD, w_makeN, w_make, w_fld, w_gTup, w_gCons, w_gNil, w_sFld, w_compS, w_tryB, w_bmake, w_noKeys, w_nev, w_never, Option.getD_some,  exists_const, false_or, or_false, exists_false, w_s1, w_s2, w_s3, w_s4, w_s5, L2.start, List.map_cons, List.map_nil, List.length_cons, List.length_nil, List.replicate, List.replicate_zero, List.replicate_succ, Nat.reduceAdd, Nat.reduceSub, Nat.reduceLeDiff, List.cons_append, List.nil_append, List.append_nil, List.set_cons_zero, List.set_cons_succ, List.getElem?_cons_zero, List.getElem?_cons_succ, Option.some.injEq, V.int.injEq, V.bl.injEq, V.ref.injEq, V.str.injEq, V.ty.injEq, List.cons.injEq, and_true, true_and, exists_eq_left, exists_eq_left', exists_and_left, exists_eq, exists_eq', and_self, decide_eq_true_eq, Bool.not_eq_true', decide_eq_false_iff_not, Bool.true_eq_false, Bool.false_eq_true, if_true, if_false, ite_true, ite_false, false_and, and_false, and_assoc, reduceCtorEq]
        first | exact ⟨ea.symm, ⟨_, rfl⟩, S1.trans S2⟩ | exact ⟨ea.symm, S1.trans S2⟩
    · rintro i acc σ H' ⟨rfl, _, _⟩
      rw [List.length_map]
      have := List.length_filter_le (fun r : RI => useB (wakes k n) qh z M r.2.2.1) (rs.take i)
      rw [List.length_take] at this
      omega
    · rintro acc σ H' ⟨rfl, ⟨v, rfl⟩, S1⟩ D2 hD2
      rw [List.length_map, List.take_length]
      walk_at "w"
      refine ⟨sz8 (by decide), fun t ht => ?_⟩
      have S3 := same_new hD2 (.lst ((rs.filter fun r => useB (wakes k n) qh z M r.2.2.1).map fun r => V.ref r.1))
      have S4 := same_new ht (.tup [.int M, .ref D2])
      exact q M t D2 _ LU (S1.trans (S3.trans S4)) (S1.free hD2) upd_same (S4 _ _ upd_same)
end
end Bw
set_option Elab.async false
set_option linter.all false
set_option maxRecDepth 100000
set_option maxHeartbeats 8000000
namespace Bw
open PySem L2
local macro_rules | `(tactic| walk_at "w") => `(tactic| try simp only [w_seq, w_next, w_ifS, w_ret, w_retN, w_drop, w_asg, w_gName, w_gSub, w_var, w_c, w_op, w_un, w_rU, w_rI0, w_rI, w_test, w_b, w_and, w_or, w_not, w_andV, w_orV, w_notV, w_if, w_cons, w_nil, w_tup, w_lst, w_call, w_cB, w_eq, w_ne, w_isN, w_notN, w_chain, w_sl, w_part, w_noPart, w_forL, w_for1, w_for2, w_K, w_for3, w_isnotB, w_raise, w_try, w_KX, w_cut, w_compL, w_comp1, w_comp2, w_yes, w_pick0, w_pickN, w_pickS, w_bm, w_bm0, w_tyS, w_addS, w_slS, w_blkK, w_strs, w_methD, w_makeN, w_make, w_fld, w_gTup, w_gCons, w_gNil, w_sFld, w_compS, w_tryB, w_bmake, w_noKeys, w_nev, w_never, Option.getD_some,  exists_const, false_or, or_false, exists_false, w_s1, w_s2, w_s3, w_s4, w_s5, L2.start, List.map_cons, List.map_nil, List.length_cons, List.length_nil, List.replicate, List.replicate_zero, List.replicate_succ, Nat.reduceAdd, Nat.reduceSub, Nat.reduceLeDiff, List.cons_append, List.nil_append, List.append_nil, List.set_cons_zero, List.set_cons_succ, List.getElem?_cons_zero, List.getElem?_cons_succ, Option.some.injEq, V.int.injEq, V.bl.injEq, V.ref.injEq, V.str.injEq, V.ty.injEq, List.cons.injEq, and_true, true_and, exists_eq_left, exists_eq_left', exists_and_left, exists_eq, exists_eq', and_self, decide_eq_true_eq, Bool.not_eq_true', decide_eq_false_iff_not, Bool.true_eq_false, Bool.false_eq_true, if_true, if_false, ite_true, ite_false, false_and, and_false, and_assoc, reduceCtorEq])
section
variable {P : Program} {w : World} {K : PySem.W.Frag} {mg : Str → Option Value} {base : Heap} {f : Addr} {fd : FuncData} {a : Ad}
theorem ok_law_slows (B : Bt K mg a) (C_law_draw : CalX P w K mg base "_law_draw" ["_law_well_here", "_law_most"] 2 (sp_law_draw K a)) (F : Fun K "_law_slows" "_law_slows" s_law_slows f fd) : FnOk P w K mg base CX0 3 f fd ["_law_well_here", "_law_many"] (sp_law_slows K a) := by
  refine F.ok sc_law_slows (fun vs H Q E h => ?_) (fun cdv A outer s H vs Q E hr h => ?_)
  · obtain ⟨wl, n, rfl, _⟩ := h
    rfl
  obtain ⟨wl, n, rfl, n0, n1, W, q⟩ := h
  refine ⟨_, (pss_of (qss_cons (qs_set (i := 2) sc_law_slows.nd rfl (Or.inl rfl) (qe_of (pe_calN C_law_draw (hr.mono (by decide)) rfl (pa_of (qa_c (pv 0) (qa_c pe_int qa_nil))) (he := star_plain _ _ _ rfl) (hpl := plain_any rfl))) (by kernel_rfl)) (qss_cons (qs_set (i := 3) sc_law_slows.nd rfl (Or.inl rfl) (qe_lst qa_nil) (by kernel_rfl)) (qss_cons (qs_of (ps_for PassesOwn.never rfl (pi_range1 rfl B.range (pa_of (qa_c (pv 1) qa_nil))) (pg_name (i := 4) sc_law_slows.nd rfl (Or.inl rfl)) (pss_of (qss_cons (qs_set (i := 5) sc_law_slows.nd rfl (Or.inl rfl) (qe_lst (qa_c (pv 2) (qa_c (pe_op op_add (pv 2) (pe_op op_mul pe_int (pe_calN C_law_draw (hr.mono (by decide)) rfl (pa_of (qa_c (pv 0) (qa_c pe_int qa_nil))) (he := star_plain _ _ _ rfl) (hpl := plain_any rfl)))) (qa_c (pe_calN C_law_draw (hr.mono (by decide)) rfl (pa_of (qa_c (pv 0) (qa_c pe_int qa_nil))) (he := star_plain _ _ _ rfl) (hpl := plain_any rfl)) (qa_c (pe_calN C_law_draw (hr.mono (by decide)) rfl (pa_of (qa_c (pv 0) (qa_c (pe_op op_pow pe_int pe_int) qa_nil))) (he := star_plain _ _ _ rfl) (hpl := plain_any rfl)) qa_nil))))) (by kernel_rfl)) (qss_one (qs_of (ps_expr (pe_bm PySem.F.plainAttrs_list PySem.F.slot_list_append PySem.F.type_list_append mt_append (pv 3) (pa_of (qa_c (pe_ix ix_list (pv 5) (pe_calN C_law_draw (hr.mono (by decide)) rfl (pa_of (qa_c (pv 0) (qa_c pe_int qa_nil))) (he := star_plain _ _ _ rfl) (hpl := plain_any rfl)) (fun _ _ => rfl)) qa_nil)))))))))) (qss_one (qs_ret (qe_of (pv 3)))))))), ?_⟩
  walk_at "w"
  refine drw W (by decide) (by decide) fun far H1 a1 b1 W1 B1 => ?_
  walk_at "w"
  refine ⟨Nat.zero_le _, fun pf hf => ?_⟩
  have hpf0 : H pf = none := by
    cases e : H pf with
    | none => rfl
    | some o =>
      have z := B1 pf o (W1.ne hf) e
      rw [hf] at z
      cases z
  have nw := W1.ne hf
  have S8 := same_new hf (.lst [])
  have W8 := W1.same S8
  have B8 := B1.trans (Same.but (w := wl) S8)
  have e8 : upd H1 pf (.lst []) pf = some (.lst (([] : List Int).map V.int)) := upd_same
  generalize upd H1 pf (.lst []) = H8 at *
  clear B1 S8 hf W1
  refine ⟨by omega, by omega, ?_⟩
  refine ForR.by (fun i σ H' => (∃ ss : List Int, ss.length = i ∧ (∀ s ∈ ss, 0 ≤ s) ∧ H' pf = some (.lst (ss.map V.int))) ∧ (∃ v8 v9, σ = [some (.ref wl), some (.int n), some (.int far), some (.ref pf), v8, v9]) ∧ Well H' wl ∧ But wl H H') ⟨⟨[], rfl, (fun u hu => absurd hu List.not_mem_nil), e8⟩, ⟨_, _, rfl⟩, W8, B8⟩ ?_ ?_
  · rintro i σ H9 hi ⟨⟨ss, ul, ug, ue⟩, ⟨v8, v9, rfl⟩, W9, B9⟩
    walk_at "w"
    refine drw W9 (by decide) (by decide) fun r1 G1 c1 d1 X1 Y1 => ?_
    walk_at "w"
    refine ⟨.inl ⟨by decide, by decide⟩, ?_⟩
    refine drw X1 (by decide) (by decide) fun r2 G2 c2 d2 X2 Y2 => ?_
    walk_at "w"
    refine ⟨⟨by decide, by decide, by decide⟩, ?_⟩
    refine drw X2 (by decide) (by decide) fun r3 G3 c3 d3 X3 Y3 => ?_
    walk_at "w"
    refine ⟨sz8 (by decide), fun ps hps => ?_⟩
    have T1 := same_new hps (.lst [.int far, .int (far + 1440 * r1), .int r2, .int r3])
    have ep : upd G3 ps (.lst [.int far, .int (far + 1440 * r1), .int r2, .int r3]) ps = some (.lst ([far, far + 1440 * r1, r2, r3].map V.int)) := upd_same
    have X4 := X3.same T1
    have nps := X3.ne hps
    have YY := Y1.trans (Y2.trans (Y3.trans (Same.but (w := wl) T1)))
    have ue4 := YY pf _ nw ue
    generalize upd G3 ps (.lst [.int far, .int (far + 1440 * r1), .int r2, .int r3]) = G4 at *
    refine ⟨.inl ⟨rfl, _, SqL.of ue4⟩, ?_⟩
    refine drw X4 (by decide) (by decide) fun r4 G5 c4 d4 X5 Y5 => ?_
    obtain ⟨v, hv, ev⟩ := at_mem (ns := [far, far + 1440 * r1, r2, r3]) c4 d4
    refine ixl (SqL.of (Y5 ps _ nps ep)) ev ?_
    have v0 : 0 ≤ v := by simp only [List.mem_cons, List.not_mem_nil, or_false] at hv; omega
    have ue5 := Y5 pf _ nw ue4
    refine ⟨pf, _, _, rfl, rfl, ue5, ?_, ?_⟩
    · rw [List.length_map, ul]
      exact Nat.lt_of_le_of_lt (by omega : i ≤ 1000) (by decide)
    · have W12 : Well (upd G5 pf (.lst (ss.map V.int ++ [.int v]))) wl := by
        obtain ⟨x1, x2, x3, x4, e⟩ := X5
        exact ⟨x1, x2, x3, x4, by rw [upd_ne (fun z => nw z.symm)]; exact e⟩
      have fin9 : (∃ ss : List Int, ss.length = i + 1 ∧ (∀ s ∈ ss, 0 ≤ s) ∧ upd G5 pf (.lst ((ss.map V.int ++ [.int v] : List V))) pf = some (.lst (ss.map V.int))) → True := fun _ => trivial
      refine ⟨⟨ss ++ [v], by rw [List.length_append, ul]; rfl, fun y hy => ?_, by rw [upd_same, List.map_append]; rfl⟩, W12, fun b o nb e => ?_⟩
      · rcases List.mem_append.mp hy with z | z
        · exact ug y z
        · rw [List.mem_singleton.mp z]; exact v0
      · rw [upd_ne (ne_of_none e hpf0)]
        exact Y5 b o nb (YY b o nb (B9 b o nb e))
  · rintro σ H9 ⟨⟨ss, ul, ug, ue⟩, ⟨v8, v9, rfl⟩, W9, B9⟩
    walk_at "w"
    exact q pf ss H9 ul ug W9 B9 hpf0 ue
theorem ok_law_usable (B : Bt K mg a)  (F : Fun K "_law_usable" "_law_usable" s_law_usable f fd) : FnOk P w K mg base CX0 1 f fd ["_law_slows_here", "_law_marks_here", "_law_zone", "_law_wakes", "_law_moment_here"] (sp_law_usable K a) := by
  refine F.ok sc_law_usable (fun vs H Q E h => ?_) (fun cdv A outer s H vs Q E hr h => ?_)
  · obtain ⟨sp, l, ss, x, qh, z, m, b, rfl, _⟩ := h
    rfl
  obtain ⟨sp, l, ss, x, qh, z, m, b, rfl, hs, h100, hv, hl, q⟩ := h
  refine ⟨_, (pss_of (qss_one (qs_ret (qe_of (pe_compB ["_law_k", "_law_wakes", "_law_marks_here", "_law_zone", "_law_moment_here", "_law_slows_here"] [none, some 3, some 1, some 2, some 4, some 0] rfl (by kernel_rfl) (pi_range1 rfl B.range (pa_of (qa_c (pe_callB call_len rfl B.len PySem.boot_len (pa_of (qa_c (pv 0) qa_nil))) qa_nil))) (fun cl C s H fp => ⟨(pg_name (i := 0) (by decide : List.Nodup (["_law_k", "_law_wakes", "_law_marks_here", "_law_zone", "_law_moment_here", "_law_slows_here"] : List Str)) rfl (Or.inl (by kernel_rfl)) (Or.inr (by kernel_rfl))), (pts_one (L2.PW.pt (pw_or (pt_val (pv 1 (hv := Or.inr (Or.inl (by kernel_rfl))))) (pw_or1 (pt_not (pt_val (pe_ix (ixL_at (K := K) rfl) (pv 2 (hv := Or.inr (Or.inl (by kernel_rfl)))) (pe_op op_mod (pe_op op_add (pe_op op_add (pv 4 (hv := Or.inr (Or.inl (by kernel_rfl)))) (pe_ix (ixL_at (K := K) rfl) (pv 5 (hv := Or.inr (Or.inl (by kernel_rfl)))) (pv 0 (hv := Or.inl (by kernel_rfl))) (fun _ _ => rfl))) (pv 3 (hv := Or.inr (Or.inl (by kernel_rfl))))) pe_int) (fun _ _ => rfl)))))))), (pv 0 (hv := Or.inl (by kernel_rfl)))⟩)))))), ?_⟩
  walk_at "w"
  refine ⟨_, .inl ⟨_, SqL.of hs, rfl⟩, ?_⟩
  rw [List.length_map]
  refine ⟨by omega, by omega, ?_⟩
  refine CompR.by (fun i acc σ H' => acc = (useIx (useB b qh z m) 0 (ss.take i)).map (fun i => V.int (i : Nat)) ∧ (∃ v, σ = [v, some (.bl b), some (.ref l), some (.int z), some (.int m), some (.ref sp)]) ∧ H' = H) (sz8 (by omega)) ⟨rfl, ⟨_, rfl⟩, rfl⟩ ?_ ?_ ?_
  · rintro i acc σ H' hi ⟨rfl, ⟨v, rfl⟩, rfl⟩
    have hi' : i < ss.length := by omega
    obtain ⟨s, es⟩ : ∃ s, ss[i]? = some s := ⟨ss[i], List.getElem?_eq_getElem hi'⟩
    have ix : atI (ss.map V.int) (0 + (i : Int)) = some (.int s) := by
      have q1 : atI (ss.map V.int) ((i : Nat) : Int) = some (.int s) := atI_nat (by rw [List.getElem?_map, es]; rfl)
      rw [Int.zero_add]
      exact q1
    have ea : (useIx (useB b qh z m) 0 (ss.take (i + 1))).map (fun i => V.int (i : Nat)) = (useIx (useB b qh z m) 0 (ss.take i)).map (fun i => V.int (i : Nat)) ++ (if useB b qh z m s = true then [V.int (0 + (i : Int))] else []) := by
      rw [List.take_succ, es, Option.toList_some, useIx_snoc, List.map_append]
      congr 1
      rw [List.length_take, Nat.min_eq_left (by omega), Nat.zero_add, Int.zero_add]
      split <;> rfl
    walk_at "w"
    cases b with
    | true =>
      have hu : useB true qh z m s = true := rfl
      rw [if_pos hu] at ea
      walk_at "w"
      first | exact ⟨ea.symm, ⟨_, rfl⟩, rfl⟩ | exact ea.symm | exact ⟨ea.symm, rfl⟩
    | false =>
      walk_at "w"
      refine ixl (SqL.of hs) ix ?_
      walk_at "w"
      refine ⟨by decide, ixl (SqL.of hl) (hv.at (by omega) (by omega)) ?_⟩
      walk_at "w"
      cases hq : qB qh ((m + s + z) % 1440) with
      | false =>
        have hu : useB false qh z m s = true := by unfold useB; rw [hq]; rfl
        rw [if_pos hu] at ea
        try simp only [Bool.not_false, w_seq, w_next, w_ifS, w_ret, w_retN, w_drop, w_asg, w_gName, w_gSub, w_var, w_c, w_op, w_un, w_rU, w_rI0, w_rI, w_test, w_b, w_and, w_or, w_not, w_andV, w_orV, w_notV, w_if, w_cons, w_nil, w_tup, w_lst, w_call, w_cB, w_eq, w_ne, w_isN, w_notN, w_chain, w_sl, w_part, w_noPart, w_forL, w_for1, w_for2, w_K, w_for3, w_isnotB, w_raise, w_try, w_KX, w_cut, w_compL, w_comp1, w_comp2, w_yes, w_pick0, w_pickN, w_pickS, w_bm, w_bm0, w_tyS, w_addS, w_slS, w_blkK, w_strs, w_methD, w_makeN, w_make, w_fld, w_gTup, w_gCons, w_gNil, w_sFld, w_compS, w_tryB, w_bmake, w_noKeys, w_nev, w_never, Option.getD_some,  exists_const, false_or, or_false, exists_false, w_s1, w_s2, w_s3, w_s4, w_s5, L2.start, List.map_cons, List.map_nil, List.length_cons, List.length_nil, List.replicate, List.replicate_zero, List.replicate_succ, Nat.reduceAdd, Nat.reduceSub, Nat.reduceLeDiff, List.cons_append, List.nil_append, List.append_nil, List.set_cons_zero, List.set_cons_succ, List.getElem?_cons_zero, List.getElem?_cons_succ, Option.some.injEq, V.int.injEq, V.bl.injEq, V.ref.injEq, V.str.injEq, V.ty.injEq, List.cons.injEq, and_true, true_and, exists_eq_left, exists_eq_left', exists_and_left, exists_eq, exists_eq', and_self, decide_eq_true_eq, Bool.not_eq_true', decide_eq_false_iff_not, Bool.true_eq_false, Bool.false_eq_true, if_true, if_false, ite_true, ite_false, false_and, and_false, and_assoc, reduceCtorEq]
        first | exact ⟨ea.symm, ⟨_, rfl⟩, rfl⟩ | exact ea.symm | exact ⟨ea.symm, rfl⟩
      | true =>
        have hu : useB false qh z m s = false := by unfold useB; rw [hq]; rfl
        rw [if_neg (by rw [hu]; exact Bool.false_ne_true), List.append_nil] at ea
        try simp only [Bool.not_true, w_seq, w_next, w_ifS, w_ret, w_retN, w_drop, w_asg, w_gName, w_gSub, w_var, w_c, w_op, w_un, w_rU, w_rI0, w_rI, w_test, w_b, w_and, w_or, w_not, w_andV, w_orV, w_notV, w_if, w_cons, w_nil, w_tup, w_lst, w_call, w_cB, w_eq, w_ne, w_isN, w_notN, w_chain, w_sl, w_part, w_noPart, w_forL, w_for1, w_for2, w_K, w_for3, w_isnotB, w_raise, w_try, w_KX, w_cut, w_compL, w_comp1, w_comp2, w_yes, w_pick0, w_pickN, w_pickS, w_bm, w_bm0, w_tyS, w_addS, w_slS, w_blkK, w_strs, w_methD, w_makeN, w_make, w_fld, w_gTup, w_gCons, w_gNil, w_sFld, w_compS, w_tryB, w_bmake, w_noKeys, w_nev, w_never, Option.getD_some,  exists_const, false_or, or_false, exists_false, w_s1, w_s2, w_s3, w_s4, w_s5, L2.start, List.map_cons, List.map_nil, List.length_cons, List.length_nil, List.replicate, List.replicate_zero, List.replicate_succ, Nat.reduceAdd, Nat.reduceSub, Nat.reduceLeDiff, List.cons_append, List.nil_append, List.append_nil, List.set_cons_zero, List.set_cons_succ, List.getElem?_cons_zero, List.getElem?_cons_succ, Option.some.injEq, V.int.injEq, V.bl.injEq, V.ref.injEq, V.str.injEq, V.ty.injEq, List.cons.injEq, and_true, true_and, exists_eq_left, exists_eq_left', exists_and_left, exists_eq, exists_eq', and_self, decide_eq_true_eq, Bool.not_eq_true', decide_eq_false_iff_not, Bool.true_eq_false, Bool.false_eq_true, if_true, if_false, ite_true, ite_false, false_and, and_false, and_assoc, reduceCtorEq]
        first | exact ⟨ea.symm, ⟨_, rfl⟩, rfl⟩ | exact ea.symm | exact ⟨ea.symm, rfl⟩
  · rintro i acc σ H' ⟨rfl, _, _⟩
    rw [List.length_map]
    have := useIx_len (useB b qh z m) (ss.take i) 0
    rw [List.length_take] at this
    omega
  · rintro acc σ H' ⟨rfl, ⟨v, rfl⟩, rfl⟩ D hD
    have et : ss.take (Int.toNat ((ss.length : Nat) : Int)) = ss := by rw [Int.toNat_natCast, List.take_length]
    rw [et]
    exact q D _ (same_new hD _) hD upd_same
theorem ok_law_told (B : Bt K mg a) (C_law_whole : CalX P w K mg base "_law_whole" ["_law_found"] 1 (sp_law_whole K a)) (F : Fun K "_law_told" "_law_told" s_law_told f fd) : FnOk P w K mg base CX0 2 f fd ["_law_found", "_law_due", "_law_names_here"] (sp_law_told K a) := by
  refine F.ok sc_law_told (fun vs H Q E h => ?_) (fun cdv A outer s H vs Q E hr h => ?_)
  · obtain ⟨t, fl, d, dl, np, M, us, ix, rs, rfl, _⟩ := h
    rfl
  obtain ⟨t, fl, d, dl, np, M, us, ix, rs, rfl, ht, hR, hd, hdl, hnp, gu, hix, r100, u100, q⟩ := h
  refine ⟨_, (pss_of (qss_cons (qs_if (L2.PW.pt (pw_or (pt_not (pt_val (pe_callB call_isi_tuple rfl B.isinstance PyProof.Rows.boot_isinstance (pa_of (qa_c (pv 0) (qa_c (pe_bltn (v := .ty "tuple") rfl B.tuple PyProof.Rows.boot_tuple rfl) qa_nil))) (he := star_plain _ _ _ rfl) (hpl := plain_any rfl)))) (pw_or (pt_cmpR op_ne (pe_callB call_len rfl B.len PySem.boot_len (pa_of (qa_c (pv 0) qa_nil))) pe_int (nomark _)) (pw_or (pt_not (pt_val (pe_calN C_law_whole (hr.mono (by decide)) rfl (pa_of (qa_c (pe_ix ix_tup (pv 0) pe_int (fun _ _ => rfl)) qa_nil)) (he := star_plain _ _ _ rfl) (hpl := plain_any rfl)))) (pw_or1 (pt_not (pt_val (pe_callB call_isi_listT rfl B.isinstance PyProof.Rows.boot_isinstance (pa_of (qa_c (pe_ix ix_tup (pv 0) pe_int (fun _ _ => rfl)) (qa_c (pe_bltn (v := .ty "list") rfl B.list PyProof.Rows.boot_list rfl) qa_nil))) (he := star_plain _ _ _ rfl) (hpl := plain_any rfl))))))))) (qss_one (qs_ret (qe_of pe_bl))) qss_nil) (qss_one (qs_ret (qe_of (pe_and (pe_cmpR op_eq (pe_ix ix_tup (pv 0) pe_int (fun _ _ => rfl)) (pe_ix ix_tup (pv 1) pe_int (fun _ _ => rfl)) (nomark _)) (pe_one (pe_cmpR (op_eqD hr.units) (pe_compB ["_law_road"] [none] rfl (by kernel_rfl) (pi_list (pe_ix ix_tup (pv 0) pe_int (fun _ _ => rfl))) (fun cl C s H fp => ⟨(pg_name (i := 0) (by decide : List.Nodup (["_law_road"] : List Str)) rfl (Or.inl (by kernel_rfl)) (Or.inr (by kernel_rfl))), pts_nil, (fld_at (K := K) rfl (pv 0 (hv := Or.inl (by kernel_rfl))) rfl)⟩)) (pe_compB ["_law_k", "_law_names_here"] [none, some 2] rfl (by kernel_rfl) (pi_list (pe_ix ix_tup (pv 1) pe_int (fun _ _ => rfl))) (fun cl C s H fp => ⟨(pg_name (i := 0) (by decide : List.Nodup (["_law_k", "_law_names_here"] : List Str)) rfl (Or.inl (by kernel_rfl)) (Or.inr (by kernel_rfl))), pts_nil, (pe_ix (ixL_at (K := K) rfl) (pv 1 (hv := Or.inr (Or.inl (by kernel_rfl)))) (pv 0 (hv := Or.inl (by kernel_rfl))) (fun _ _ => rfl))⟩)) (nomark _))))))))), ?_⟩
  have et : isTupV H (.ref t) = true := by simp [isTupV, ht]
  have hil : ix.length = rs.length := by have := congrArg List.length hix; simpa using this
  have hat : ∀ (i k : Nat) (r : RI), ix[i]? = some k → rs[i]? = some r → us[k]? = some r.2.1 := fun i k r hk hr => by
    have e := congrArg (·[i]?) hix
    simp only [List.getElem?_map, hk, hr, Option.map_some] at e
    exact Option.some.inj e
  have gd : ∀ r ∈ rs, goodN r.2.1 := fun r hr => by
    obtain ⟨i, hi, e⟩ := List.getElem_of_mem hr
    obtain ⟨k, hk⟩ : ∃ k, ix[i]? = some k := ⟨ix[i]'(by omega), List.getElem?_eq_getElem (by omega)⟩
    exact gu _ (List.mem_of_getElem? (hat i k r hk (by rw [List.getElem?_eq_getElem hi, e])))
  have hsh : SeqAt.shaped (.list ((rs.map (·.2.1)).map PyData.str)) = true := (shaped_of (Nat.zero_le _) (lay_strs fun u hu => by
    obtain ⟨r, hr, e⟩ := List.mem_map.mp hu
    subst e
    exact good_str (gd r hr))).1
  walk_at "w"
  refine ⟨.inr ⟨_, ht⟩, ?_⟩
  try simp only [et, w_seq, w_next, w_ifS, w_ret, w_retN, w_drop, w_asg, w_gName, w_gSub, w_var, w_c, w_op, w_un, w_rU, w_rI0, w_rI, w_test, w_b, w_and, w_or, w_not, w_andV, w_orV, w_notV, w_if, w_cons, w_nil, w_tup, w_lst, w_call, w_cB, w_eq, w_ne, w_isN, w_notN, w_chain, w_sl, w_part, w_noPart, w_forL, w_for1, w_for2, w_K, w_for3, w_isnotB, w_raise, w_try, w_KX, w_cut, w_compL, w_comp1, w_comp2, w_yes, w_pick0, w_pickN, w_pickS, w_bm, w_bm0, w_tyS, w_addS, w_slS, w_blkK, w_strs, w_methD, w_makeN, w_make, w_fld, w_gTup, w_gCons, w_gNil, w_sFld, w_compS, w_tryB, w_bmake, w_noKeys, w_nev, w_never, Option.getD_some,  exists_const, false_or, or_false, exists_false, w_s1, w_s2, w_s3, w_s4, w_s5, L2.start, List.map_cons, List.map_nil, List.length_cons, List.length_nil, List.replicate, List.replicate_zero, List.replicate_succ, Nat.reduceAdd, Nat.reduceSub, Nat.reduceLeDiff, List.cons_append, List.nil_append, List.append_nil, List.set_cons_zero, List.set_cons_succ, List.getElem?_cons_zero, List.getElem?_cons_succ, Option.some.injEq, V.int.injEq, V.bl.injEq, V.ref.injEq, V.str.injEq, V.ty.injEq, List.cons.injEq, and_true, true_and, exists_eq_left, exists_eq_left', exists_and_left, exists_eq, exists_eq', and_self, decide_eq_true_eq, Bool.not_eq_true', decide_eq_false_iff_not, Bool.true_eq_false, Bool.false_eq_true, if_true, if_false, ite_true, ite_false, false_and, and_false, and_assoc, reduceCtorEq]
  refine ⟨_, .inr ⟨_, SqT.of ht, rfl⟩, ?_⟩
  walk_at "w"
  refine (if_neg (by simp)).mpr ?_
  refine ixt (SqT.of ht) (v := .int M) rfl ?_
  refine ⟨_, rfl, trivial, ?_⟩
  try simp only [wholeV, w_seq, w_next, w_ifS, w_ret, w_retN, w_drop, w_asg, w_gName, w_gSub, w_var, w_c, w_op, w_un, w_rU, w_rI0, w_rI, w_test, w_b, w_and, w_or, w_not, w_andV, w_orV, w_notV, w_if, w_cons, w_nil, w_tup, w_lst, w_call, w_cB, w_eq, w_ne, w_isN, w_notN, w_chain, w_sl, w_part, w_noPart, w_forL, w_for1, w_for2, w_K, w_for3, w_isnotB, w_raise, w_try, w_KX, w_cut, w_compL, w_comp1, w_comp2, w_yes, w_pick0, w_pickN, w_pickS, w_bm, w_bm0, w_tyS, w_addS, w_slS, w_blkK, w_strs, w_methD, w_makeN, w_make, w_fld, w_gTup, w_gCons, w_gNil, w_sFld, w_compS, w_tryB, w_bmake, w_noKeys, w_nev, w_never, Option.getD_some,  exists_const, false_or, or_false, exists_false, w_s1, w_s2, w_s3, w_s4, w_s5, L2.start, List.map_cons, List.map_nil, List.length_cons, List.length_nil, List.replicate, List.replicate_zero, List.replicate_succ, Nat.reduceAdd, Nat.reduceSub, Nat.reduceLeDiff, List.cons_append, List.nil_append, List.append_nil, List.set_cons_zero, List.set_cons_succ, List.getElem?_cons_zero, List.getElem?_cons_succ, Option.some.injEq, V.int.injEq, V.bl.injEq, V.ref.injEq, V.str.injEq, V.ty.injEq, List.cons.injEq, and_true, true_and, exists_eq_left, exists_eq_left', exists_and_left, exists_eq, exists_eq', and_self, decide_eq_true_eq, Bool.not_eq_true', decide_eq_false_iff_not, Bool.true_eq_false, Bool.false_eq_true, if_true, if_false, ite_true, ite_false, false_and, and_false, and_assoc, reduceCtorEq]
  refine ixt (SqT.of ht) (v := .ref fl) rfl ?_
  refine ⟨fl, rfl, _, hR.1, ?_⟩
  walk_at "w"
  refine ixt (SqT.of ht) (v := .int M) rfl ?_
  walk_at "w"
  refine ixt (SqT.of hd) (v := .int M) rfl ?_
  try simp only [decide_true, w_seq, w_next, w_ifS, w_ret, w_retN, w_drop, w_asg, w_gName, w_gSub, w_var, w_c, w_op, w_un, w_rU, w_rI0, w_rI, w_test, w_b, w_and, w_or, w_not, w_andV, w_orV, w_notV, w_if, w_cons, w_nil, w_tup, w_lst, w_call, w_cB, w_eq, w_ne, w_isN, w_notN, w_chain, w_sl, w_part, w_noPart, w_forL, w_for1, w_for2, w_K, w_for3, w_isnotB, w_raise, w_try, w_KX, w_cut, w_compL, w_comp1, w_comp2, w_yes, w_pick0, w_pickN, w_pickS, w_bm, w_bm0, w_tyS, w_addS, w_slS, w_blkK, w_strs, w_methD, w_makeN, w_make, w_fld, w_gTup, w_gCons, w_gNil, w_sFld, w_compS, w_tryB, w_bmake, w_noKeys, w_nev, w_never, Option.getD_some,  exists_const, false_or, or_false, exists_false, w_s1, w_s2, w_s3, w_s4, w_s5, L2.start, List.map_cons, List.map_nil, List.length_cons, List.length_nil, List.replicate, List.replicate_zero, List.replicate_succ, Nat.reduceAdd, Nat.reduceSub, Nat.reduceLeDiff, List.cons_append, List.nil_append, List.append_nil, List.set_cons_zero, List.set_cons_succ, List.getElem?_cons_zero, List.getElem?_cons_succ, Option.some.injEq, V.int.injEq, V.bl.injEq, V.ref.injEq, V.str.injEq, V.ty.injEq, List.cons.injEq, and_true, true_and, exists_eq_left, exists_eq_left', exists_and_left, exists_eq, exists_eq', and_self, decide_eq_true_eq, Bool.not_eq_true', decide_eq_false_iff_not, Bool.true_eq_false, Bool.false_eq_true, if_true, if_false, ite_true, ite_false, false_and, and_false, and_assoc, reduceCtorEq]
  refine ixt (SqT.of ht) (v := .ref fl) rfl ?_
  walk_at "w"
  refine ⟨⟨_, SqL.of hR.1⟩, ?_⟩
  refine CompL.by (xs := rs.map fun r => V.ref r.1) (fun i acc σ H' => acc = (rs.take i).map (fun r => V.str r.2.1) ∧ (∃ v, σ = [v]) ∧ H' = H) (sz8 (by rw [List.length_map]; omega)) ⟨rfl, ⟨_, rfl⟩, rfl⟩ (fun i acc σ H' _ h => by rw [h.2.2]; exact SqL.of hR.1) ?_ ?_ ?_
  · rintro i y acc σ H' hy ⟨rfl, ⟨v, rfl⟩, rfl⟩
    rw [List.getElem?_map] at hy
    obtain ⟨r, er, ey⟩ := Option.map_eq_some_iff.mp hy
    subst ey
    obtain ⟨dr, err⟩ := hR.2 r (List.mem_of_getElem? er)
    have ea : (rs.take i).map (fun r => V.str r.2.1) ++ [V.str r.2.1] = (rs.take (i + 1)).map (fun r => V.str r.2.1) := by
      rw [List.take_succ, er, List.map_append]
      rfl
    walk_at "w"
    refine ⟨_, _, _, err, B.ck_Road.cl, B.na_Road_name, .str r.2.1, rfl, ?_⟩
    first | exact ⟨ea, ⟨_, rfl⟩, rfl⟩ | exact ea | exact ⟨ea, rfl⟩
  · rintro i acc σ H' ⟨rfl, _, _⟩
    rw [List.length_map, List.length_take]
    omega
  · rintro acc σ H' ⟨rfl, ⟨v, rfl⟩, rfl⟩ D hD
    have ef : (rs.take (rs.map fun r => V.ref r.1).length).map (fun r => V.str r.2.1) = (rs.map (·.2.1)).map V.str := by
      rw [List.length_map, List.take_length, List.map_map]
      rfl
    rw [ef]
    have S1 := same_new hD (.lst ((rs.map (·.2.1)).map V.str))
    have e1 : upd H' D (.lst ((rs.map (·.2.1)).map V.str)) D = _ := upd_same
    generalize upd H' D (.lst ((rs.map (·.2.1)).map V.str)) = H1 at *
    refine ixt (SqT.of (S1 _ _ hd)) (v := .ref dl) rfl ?_
    walk_at "w"
    refine ⟨⟨_, SqL.of (S1 _ _ hdl)⟩, ?_⟩
    refine CompL.by (xs := ix.map fun i => V.int (i : Nat)) (fun i acc σ H2 => acc = (rs.take i).map (fun r => V.str r.2.1) ∧ (∃ v, σ = [v, some (.ref np)]) ∧ H2 = H1) (sz8 (by rw [List.length_map]; omega)) ⟨rfl, ⟨_, rfl⟩, rfl⟩ (fun i acc σ H2 _ h => by rw [h.2.2]; exact SqL.of (S1 _ _ hdl)) ?_ ?_ ?_
    · rintro i y acc σ H2 hy ⟨rfl, ⟨v, rfl⟩, rfl⟩
      rw [List.getElem?_map] at hy
      obtain ⟨k, ek, ey⟩ := Option.map_eq_some_iff.mp hy
      subst ey
      have hi : i < ix.length := (List.getElem?_eq_some_iff.mp ek).1
      obtain ⟨r, er⟩ : ∃ r, rs[i]? = some r := ⟨rs[i]'(by omega), List.getElem?_eq_getElem (by omega)⟩
      have eu := hat i k r ek er
      have ea : (rs.take i).map (fun r => V.str r.2.1) ++ [V.str r.2.1] = (rs.take (i + 1)).map (fun r => V.str r.2.1) := by
        rw [List.take_succ, er, List.map_append]
        rfl
      walk_at "w"
      refine ixl (SqL.of (S1 _ _ hnp)) (v := .str r.2.1) (atI_nat (by rw [List.getElem?_map, eu]; rfl)) ?_
      first | exact ⟨ea, ⟨_, rfl⟩, rfl⟩ | exact ea | exact ⟨ea, rfl⟩
    · rintro i acc σ H2 ⟨rfl, _, _⟩
      rw [List.length_map, List.length_take]
      omega
    · rintro acc σ H2 ⟨rfl, ⟨v, rfl⟩, rfl⟩ D2 hD2
      have ef2 : (rs.take (ix.map fun i => V.int (i : Nat)).length).map (fun r => V.str r.2.1) = (rs.map (·.2.1)).map V.str := by
        rw [List.length_map, hil, List.take_length, List.map_map]
        rfl
      rw [ef2]
      have S2 := same_new hD2 (.lst ((rs.map (·.2.1)).map V.str))
      refine eqd (.lst (S2 _ _ e1) (rds_strs _)) (.lst upd_same (rds_strs _)) hsh ?_
      exact q _ (S1.trans S2)
end
end Bw
set_option Elab.async false
set_option linter.all false
set_option maxRecDepth 100000
set_option maxHeartbeats 8000000
namespace Bw
open PySem L2
local macro_rules | `(tactic| walk_at "w") => `(tactic| try simp only [w_seq, w_next, w_ifS, w_ret, w_retN, w_drop, w_asg, w_gName, w_gSub, w_var, w_c, w_op, w_un, w_rU, w_rI0, w_rI, w_test, w_b, w_and, w_or, w_not, w_andV, w_orV, w_notV, w_if, w_cons, w_nil, w_tup, w_lst, w_call, w_cB, w_eq, w_ne, w_isN, w_notN, w_chain, w_sl, w_part, w_noPart, w_forL, w_for1, w_for2, w_K, w_for3, w_isnotB, w_raise, w_try, w_KX, w_cut, w_compL, w_comp1, w_comp2, w_yes, w_pick0, w_pickN, w_pickS, w_bm, w_bm0, w_tyS, w_addS, w_slS, w_blkK, w_strs, w_methD, w_makeN, w_make, w_fld, w_gTup, w_gCons, w_gNil, w_sFld, w_compS, w_tryB, w_bmake, w_noKeys, w_nev, w_never, Option.getD_some,  exists_const, false_or, or_false, exists_false, w_s1, w_s2, w_s3, w_s4, w_s5, L2.start, List.map_cons, List.map_nil, List.length_cons, List.length_nil, List.replicate, List.replicate_zero, List.replicate_succ, Nat.reduceAdd, Nat.reduceSub, Nat.reduceLeDiff, List.cons_append, List.nil_append, List.append_nil, List.set_cons_zero, List.set_cons_succ, List.getElem?_cons_zero, List.getElem?_cons_succ, Option.some.injEq, V.int.injEq, V.bl.injEq, V.ref.injEq, V.str.injEq, V.ty.injEq, List.cons.injEq, and_true, true_and, exists_eq_left, exists_eq_left', exists_and_left, exists_eq, exists_eq', and_self, decide_eq_true_eq, Bool.not_eq_true', decide_eq_false_iff_not, Bool.true_eq_false, Bool.false_eq_true, if_true, if_false, ite_true, ite_false, false_and, and_false, and_assoc, reduceCtorEq])
section
variable {P : Program} {w : World} {K : PySem.W.Frag} {mg : Str → Option Value} {base : Heap} {f : Addr} {fd : FuncData} {a : Ad}
theorem ok_law (B : Bt K mg a) (C_law_well : CalX P w K mg base "_law_well" ["_law_cell"] 1 (sp_law_well K a)) (C_law_quiet : CalX P w K mg base "_law_quiet" ["_law_well_here"] 3 (sp_law_quiet K a)) (C_law_marks : CalX P w K mg base "_law_marks" ["_law_quiet_here"] 1 (sp_law_marks K a)) (CD_Wishes_3 : CalD P w K mg base "Wishes" a.Wishes ["self", "zone", "quiet", "wake", "lines"] 6 [.non] (sp_Wishes___init__ K a)) (C_law_cell_at : CalX P w K mg base "_law_cell_at" ["_law_script", "_law_k"] 1 (sp_law_cell_at K a)) (C_law_draw : CalX P w K mg base "_law_draw" ["_law_well_here", "_law_most"] 2 (sp_law_draw K a)) (C_law_slows : CalX P w K mg base "_law_slows" ["_law_well_here", "_law_many"] 3 (sp_law_slows K a)) (C_law_names : CalX P w K mg base "_law_names" ["_law_well_here", "_law_many"] 3 (sp_law_names K a)) (C_law_moment : CalX P w K mg base "_law_moment" ["_law_well_here", "_law_zone", "_law_quiet_here", "_law_slow"] 3 (sp_law_moment K a)) (C_first_use : CalX P w K mg base "first_use" ["roads", "wishes", "weight", "moment"] 9 (sp_first_use K a)) (CD_Road_3 : CalD P w K mg base "Road" a.Road ["self", "name", "slow", "knows"] 3 [] (sp_Road___init__ K a)) (C_law_usable : CalX P w K mg base "_law_usable" ["_law_slows_here", "_law_marks_here", "_law_zone", "_law_wakes", "_law_moment_here"] 1 (sp_law_usable K a)) (C_law_told : CalX P w K mg base "_law_told" ["_law_found", "_law_due", "_law_names_here"] 2 (sp_law_told K a)) (F : Fun K "law" "law" s_law f fd) : FnOk P w K mg base CX0 10 f fd ["_law_script"] (sp_law K a) := by
  refine F.ok sc_law (fun vs H Q E h => ?_) (fun cdv A outer s H vs Q E hr h => ?_)
  · obtain ⟨sc, ns, rfl, _⟩ := h
    rfl
  obtain ⟨sc, ns, rfl, hS, h63, q⟩ := h
  refine ⟨_, (pss_of (qss_cons (qs_set (i := 1) sc_law.nd rfl (Or.inr rfl) (qe_of (pe_calN C_law_well (hr.mono (by decide)) rfl (pa_of (qa_c (pe_calN C_law_cell_at (hr.mono (by decide)) rfl (pa_of (qa_c (pv 0) (qa_c pe_int qa_nil))) (he := star_plain _ _ _ rfl) (hpl := plain_any rfl)) qa_nil)) (he := star_plain _ _ _ rfl) (hpl := plain_any rfl))) (by kernel_rfl)) (qss_cons (qs_set (i := 2) sc_law.nd rfl (Or.inl rfl) (qe_ix ix_list (qe_lst (qa_c pe_int (qa_c pe_int (qa_c (pe_un un_neg pe_int) (qa_c (pe_op op_sub (pe_calN C_law_draw (hr.mono (by decide)) rfl (pa_of (qa_c (pv 1) (qa_c pe_int qa_nil))) (he := star_plain _ _ _ rfl) (hpl := plain_any rfl)) pe_int) qa_nil))))) (qe_of (pe_calN C_law_draw (hr.mono (by decide)) rfl (pa_of (qa_c (pv 1) (qa_c pe_int qa_nil))) (he := star_plain _ _ _ rfl) (hpl := plain_any rfl))) (fun _ _ => rfl)) (by kernel_rfl)) (qss_cons (qs_set (i := 3) sc_law.nd rfl (Or.inl rfl) (qe_of (pe_calN C_law_quiet (hr.mono (by decide)) rfl (pa_of (qa_c (pv 1) qa_nil)) (he := star_plain _ _ _ rfl) (hpl := plain_any rfl))) (by kernel_rfl)) (qss_cons (qs_set (i := 4) sc_law.nd rfl (Or.inl rfl) (qe_ix ix_list (qe_lst (qa_c pe_non (qa_c pe_non (qa_c (pe_calN C_law_draw (hr.mono (by decide)) rfl (pa_of (qa_c (pv 1) (qa_c pe_int qa_nil))) (he := star_plain _ _ _ rfl) (hpl := plain_any rfl)) qa_nil)))) (qe_of (pe_calN C_law_draw (hr.mono (by decide)) rfl (pa_of (qa_c (pv 1) (qa_c pe_int qa_nil))) (he := star_plain _ _ _ rfl) (hpl := plain_any rfl))) (fun _ _ => rfl)) (by kernel_rfl)) (qss_cut (qs_if (pt_cmp (pc_isN (pv 3))) (qss_one (qs_set (i := 4) sc_law.nd rfl (Or.inl rfl) (qe_of pe_non) (by kernel_rfl))) qss_nil) (qss_cons (qs_set (i := 5) sc_law.nd rfl (Or.inl rfl) (qe_of (pe_calN C_law_marks (hr.mono (by decide)) rfl (pa_of (qa_c (pv 3) qa_nil)) (he := star_plain _ _ _ rfl) (hpl := plain_any rfl))) (by kernel_rfl)) (qss_cons (qs_set (i := 6) sc_law.nd rfl (Or.inl rfl) (qe_of (pe_makD CD_Wishes_3 pass00 (hr.mono (by decide)) rfl (pa_of (qa_c (pv 2) (qa_c (pv 3) (qa_c (pv 4) qa_nil)))) (he := star_plain _ _ _ rfl) (hpl := plain_any rfl))) (by kernel_rfl)) (qss_cons (qs_of (ps_for PassesOwn.never rfl (pi_list (pe_op op_cat (pe_lst (pa_of (qa_c (pe_calN C_law_cell_at (hr.mono (by decide)) rfl (pa_of (qa_c (pv 0) (qa_c pe_int qa_nil))) (he := star_plain _ _ _ rfl) (hpl := plain_any rfl)) qa_nil))) (pe_slice sl_list (pv 0) (po_some pe_int) (po_some pe_int)))) (pg_name (i := 7) sc_law.nd rfl (Or.inl rfl)) (pss_of (qss_cons (qs_set (i := 1) sc_law.nd rfl (Or.inr rfl) (qe_of (pe_calN C_law_well (hr.mono (by decide)) rfl (pa_of (qa_c (pv 7) qa_nil)) (he := star_plain _ _ _ rfl) (hpl := plain_any rfl))) (by kernel_rfl)) (qss_cons (qs_set (i := 8) sc_law.nd rfl (Or.inl rfl) (qe_ix ix_list (qe_lst (qa_c pe_int (qa_c pe_int (qa_c pe_int (qa_c (pe_op op_add pe_int (pe_calN C_law_draw (hr.mono (by decide)) rfl (pa_of (qa_c (pv 1) (qa_c pe_int qa_nil))) (he := star_plain _ _ _ rfl) (hpl := plain_any rfl))) qa_nil))))) (qe_of (pe_calN C_law_draw (hr.mono (by decide)) rfl (pa_of (qa_c (pv 1) (qa_c pe_int qa_nil))) (he := star_plain _ _ _ rfl) (hpl := plain_any rfl))) (fun _ _ => rfl)) (by kernel_rfl)) (qss_cons (qs_set (i := 9) sc_law.nd rfl (Or.inr rfl) (qe_of (pe_calN C_law_slows (hr.mono (by decide)) rfl (pa_of (qa_c (pv 1) (qa_c (pv 8) qa_nil))) (he := star_plain _ _ _ rfl) (hpl := plain_any rfl))) (by kernel_rfl)) (qss_cons (qs_set (i := 10) sc_law.nd rfl (Or.inr rfl) (qe_of (pe_calN C_law_names (hr.mono (by decide)) rfl (pa_of (qa_c (pv 1) (qa_c (pv 8) qa_nil))) (he := star_plain _ _ _ rfl) (hpl := plain_any rfl))) (by kernel_rfl)) (qss_cons (qs_of (ps_compB (i := 11) ["_law_k", "_law_names_here", "_law_slows_here", "_law_well_here"] [none, some 10, some 9, some 1] rfl (by kernel_rfl) sc_law.nd rfl rfl (pi_range1 rfl B.range (pa_of (qa_c (pv 8) qa_nil))) (fun cl C s H fp => ⟨(pg_name (i := 0) (by decide : List.Nodup (["_law_k", "_law_names_here", "_law_slows_here", "_law_well_here"] : List Str)) rfl (Or.inl (by kernel_rfl)) (Or.inr (by kernel_rfl))), pts_nil, (pe_makD CD_Road_3 pass00 (hr.mono (by decide)) (gl_of (by kernel_rfl)) (pa_of (qa_c (pe_ix (ixL_at (K := K) rfl) (pv 1 (hv := Or.inr (Or.inl (by kernel_rfl)))) (pv 0 (hv := Or.inl (by kernel_rfl))) (fun _ _ => rfl)) (qa_c (pe_ix (ixL_at (K := K) rfl) (pv 2 (hv := Or.inr (Or.inl (by kernel_rfl)))) (pv 0 (hv := Or.inl (by kernel_rfl))) (fun _ _ => rfl)) (qa_c (pe_cmpR op_eq (pe_calN C_law_draw (hr.mono (by decide)) (gl_of (by kernel_rfl)) (pa_of (qa_c (pv 3 (hv := Or.inr (Or.inl (by kernel_rfl)))) (qa_c pe_int qa_nil))) (he := star_plain _ _ _ rfl) (hpl := plain_any rfl)) pe_int (nomark _)) qa_nil)))) (he := star_plain _ _ _ rfl) (hpl := plain_any rfl))⟩))) (qss_cons (qs_set (i := 12) sc_law.nd rfl (Or.inl rfl) (qe_of (pe_calN C_law_draw (hr.mono (by decide)) rfl (pa_of (qa_c (pv 1) (qa_c pe_int qa_nil))) (he := star_plain _ _ _ rfl) (hpl := plain_any rfl))) (by kernel_rfl)) (qss_cons (qs_set (i := 13) sc_law.nd rfl (Or.inl rfl) (qe_of (pe_calN C_law_moment (hr.mono (by decide)) rfl (pa_of (qa_c (pv 1) (qa_c (pv 2) (qa_c (pv 3) (qa_c (pe_ix ix_list (pv 9) pe_int (fun _ _ => rfl)) qa_nil))))) (he := star_plain _ _ _ rfl) (hpl := plain_any rfl))) (by kernel_rfl)) (qss_cut (qs_set (i := 14) sc_law.nd rfl (Or.inl rfl) (qe_of (pe_and (pe_cmp (pc_notN (pv 4))) (pe_one (pe_cmpR op_ge (pv 12) (pv 4) (nomark _))))) (by kernel_rfl)) (qss_cons (qs_set (i := 15) sc_law.nd rfl (Or.inl rfl) (qe_of (pv 13)) (by kernel_rfl)) (qss_cons (qs_of (ps_while PassesOwn.never (pt_cmpR (op_eqD hr.units) (pe_calN C_law_usable (hr.mono (by decide)) rfl (pa_of (qa_c (pv 9) (qa_c (pv 5) (qa_c (pv 2) (qa_c (pv 14) (qa_c (pv 15) qa_nil)))))) (he := star_plain _ _ _ rfl) (hpl := plain_any rfl)) (pe_lst (pa_of qa_nil)) (nomark _)) (pss_of (qss_one (qs_set (i := 15) sc_law.nd rfl (Or.inl rfl) (qe_of (pe_op op_add (pv 15) pe_int)) (by kernel_rfl)))))) (qss_cons (qs_set (i := 16) sc_law.nd rfl (Or.inl rfl) (qe_of (pe_tup (pa_of (qa_c (pv 15) (qa_c (pe_calN C_law_usable (hr.mono (by decide)) rfl (pa_of (qa_c (pv 9) (qa_c (pv 5) (qa_c (pv 2) (qa_c (pv 14) (qa_c (pv 15) qa_nil)))))) (he := star_plain _ _ _ rfl) (hpl := plain_any rfl)) qa_nil))))) (by kernel_rfl)) (qss_cons (qs_set (i := 17) sc_law.nd rfl (Or.inl rfl) (qe_of (pe_calN C_first_use (hr.mono (by decide)) rfl (pa_of (qa_c (pv 11) (qa_c (pv 6) (qa_c (pv 12) (qa_c (pv 13) qa_nil))))) (he := star_plain _ _ _ rfl) (hpl := plain_any rfl))) (by kernel_rfl)) (qss_cons (qs_if (L2.PW.pt (pw_or (pt_not (pt_val (pe_calN C_law_told (hr.mono (by decide)) rfl (pa_of (qa_c (pv 17) (qa_c (pv 16) (qa_c (pv 10) qa_nil)))) (he := star_plain _ _ _ rfl) (hpl := plain_any rfl)))) (pw_or1 (pt_cmpR (op_neD hr.units) (pe_compB ["_law_road"] [none] rfl (by kernel_rfl) (pi_list (pv 11)) (fun cl C s H fp => ⟨(pg_name (i := 0) (by decide : List.Nodup (["_law_road"] : List Str)) rfl (Or.inl (by kernel_rfl)) (Or.inr (by kernel_rfl))), pts_nil, (fld_at (K := K) rfl (pv 0 (hv := Or.inl (by kernel_rfl))) rfl)⟩)) (pv 10) (nomark _))))) (qss_one (qs_ret (qe_of pe_bl))) qss_nil) (qss_cons (qs_of (ps_expr (pe_bm0 PySem.F.plainAttrs_list PySem.F.slot_list_clear PySem.F.type_list_clear mt_clear (pe_ix ix_tup (pv 17) pe_int (fun _ _ => rfl))))) (qss_cons (qs_if (pt_not (pt_val (pe_calN C_law_told (hr.mono (by decide)) rfl (pa_of (qa_c (pe_calN C_first_use (hr.mono (by decide)) rfl (pa_of (qa_c (pv 11) (qa_c (pv 6) (qa_c (pv 12) (qa_c (pv 13) qa_nil))))) (he := star_plain _ _ _ rfl) (hpl := plain_any rfl)) (qa_c (pv 16) (qa_c (pv 10) qa_nil)))) (he := star_plain _ _ _ rfl) (hpl := plain_any rfl)))) (qss_one (qs_ret (qe_of pe_bl))) qss_nil) (qss_one (qs_if (pt_not (pt_val (pe_calN C_law_told (hr.mono (by decide)) rfl (pa_of (qa_c (pe_calN C_first_use (hr.mono (by decide)) rfl (pa_of (qa_c (pv 11) (qa_c (pv 6) (qa_c (pv 12) (qa_c (pv 15) qa_nil))))) (he := star_plain _ _ _ rfl) (hpl := plain_any rfl)) (qa_c (pv 16) (qa_c (pv 10) qa_nil)))) (he := star_plain _ _ _ rfl) (hpl := plain_any rfl)))) (qss_one (qs_ret (qe_of pe_bl))) qss_nil)))))))))))))))))))) (qss_one (qs_ret (qe_of pe_bl)))))))))))), ?_⟩
  walk_at "w"
  refine ⟨sc, ns, 0, rfl, hS, by decide, fun c0 => ?_⟩
  walk_at "w"
  refine ⟨c0, rfl, fun w0 wa wb wc wd hw0 => ?_⟩
  walk_at "w"
  have W0 : Well (upd H w0 (.lst [.int wa, .int wb, .int wc, .int wd])) w0 := ⟨_, _, _, _, upd_same⟩
  have S0 := same_new hw0 (.lst [.int wa, .int wb, .int wc, .int wd])
  generalize upd H w0 (.lst [.int wa, .int wb, .int wc, .int wd]) = H1 at *
  refine drw W0 (by decide) (by decide) fun r1 H2 a1 b1 W1 B1 => ?_
  walk_at "w"
  refine ⟨sz8 (by decide), fun p1 hp1 => ?_⟩
  refine drw (W1.same (same_new hp1 _)) (by decide) (by decide) fun r2 H3 a2 b2 W2 B2 => ?_
  have e2 := B2 p1 _ (W1.ne hp1) upd_same
  obtain ⟨z, hz, ez⟩ := at_mem (ns := [0, 1439, -1439, r1 - 1439]) a2 b2
  refine ixl (SqL.of e2) ez ?_
  have zb : -1439 ≤ z ∧ z ≤ 1439 := by simp only [List.mem_cons, List.not_mem_nil, or_false] at hz; omega
  have z0 := zb.1
  have z1 := zb.2
  have B12 := B1.trans ((Same.but (same_new hp1 _)).trans B2)
  clear ez hz e2 hp1
  walk_at "w"
  refine ⟨w0, rfl, W2, fun x qh H4 W4 B4 hv4 => ?_⟩
  walk_at "w"
  refine drw W4 (by decide) (by decide) fun r4 H6 a4 b4 W6 B6 => ?_
  have hv6 := hv4.but W4 B6
  walk_at "w"
  refine ⟨sz8 (by decide), fun p2 hp2 => ?_⟩
  have S6 := same_new hp2 (.lst [.non, .non, .int r4])
  have W7 := W6.same S6
  refine drw W7 (by decide) (by decide) fun r5 H7 a5 b5 W8 B8 => ?_
  have e7 := B8 p2 _ (W6.ne hp2) upd_same
  have hv7 := (hv6.same S6).but W7 B8
  have BB := B12.trans (B4.trans (B6.trans ((Same.but S6).trans B8)))
  obtain ⟨k0, hk0, ek⟩ := at_memV (xs := [.non, .non, .int r4]) a5 (by simpa using b5)
  refine ixl (SqL.of e7) ek ?_
  have wk0 : wakeOk k0 := by
    simp only [List.mem_cons, List.not_mem_nil, or_false] at hk0
    rcases hk0 with rfl | rfl | rfl
    · exact trivial
    · exact trivial
    · exact a4
  have hS7 : SqL K H7 sc (ns.map V.int) := sq_but hS hw0 S0 BB
  clear e7 ek hk0 hv6 hv4 hp2 W2 W4 W6 W7 W8 W0 W1 B1 B2 B4 B6 B8 S6 B12 BB S0 hS a4 b4 a5 b5
  walk_at "w"
  -- the wake, none without quiet hours
  refine ⟨fun σ' H' => ∃ k, wakeOk k ∧ (k = .non ∨ x ≠ .non) ∧ H' = H7 ∧ σ' = [some (.ref sc), some (.ref w0), some (.int z), some x, some k, none, none, none, none, none, none, none, none, none, none, none, none, none], ?_, ?_⟩
  · by_cases hx : x = .non
    · subst hx
      walk_at "w"
      first | exact ⟨.non, trivial, .inl rfl, rfl, rfl⟩ | exact ⟨trivial, .inl rfl⟩ | exact trivial | simp [wakeOk]
    · try simp only [hx, decide_false, w_seq, w_next, w_ifS, w_ret, w_retN, w_drop, w_asg, w_gName, w_gSub, w_var, w_c, w_op, w_un, w_rU, w_rI0, w_rI, w_test, w_b, w_and, w_or, w_not, w_andV, w_orV, w_notV, w_if, w_cons, w_nil, w_tup, w_lst, w_call, w_cB, w_eq, w_ne, w_isN, w_notN, w_chain, w_sl, w_part, w_noPart, w_forL, w_for1, w_for2, w_K, w_for3, w_isnotB, w_raise, w_try, w_KX, w_cut, w_compL, w_comp1, w_comp2, w_yes, w_pick0, w_pickN, w_pickS, w_bm, w_bm0, w_tyS, w_addS, w_slS, w_blkK, w_strs, w_methD, w_makeN, w_make, w_fld, w_gTup, w_gCons, w_gNil, w_sFld, w_compS, w_tryB, w_bmake, w_noKeys, w_nev, w_never, Option.getD_some,  exists_const, false_or, or_false, exists_false, w_s1, w_s2, w_s3, w_s4, w_s5, L2.start, List.map_cons, List.map_nil, List.length_cons, List.length_nil, List.replicate, List.replicate_zero, List.replicate_succ, Nat.reduceAdd, Nat.reduceSub, Nat.reduceLeDiff, List.cons_append, List.nil_append, List.append_nil, List.set_cons_zero, List.set_cons_succ, List.getElem?_cons_zero, List.getElem?_cons_succ, Option.some.injEq, V.int.injEq, V.bl.injEq, V.ref.injEq, V.str.injEq, V.ty.injEq, List.cons.injEq, and_true, true_and, exists_eq_left, exists_eq_left', exists_and_left, exists_eq, exists_eq', and_self, decide_eq_true_eq, Bool.not_eq_true', decide_eq_false_iff_not, Bool.true_eq_false, Bool.false_eq_true, if_true, if_false, ite_true, ite_false, false_and, and_false, and_assoc, reduceCtorEq]
      first | exact ⟨k0, wk0, .inr hx, rfl, rfl⟩ | exact ⟨wk0, .inr hx⟩ | exact ⟨wk0, hx⟩ | simp [wk0, hx]
  rintro σ' H' ⟨k, wk, hk, rfl, rfl⟩
  clear wk0
  walk_at "w"
  refine ⟨x, qh, rfl, hv7, fun l H8 S8 hl8 => ?_⟩
  have hv8 := hv7.same S8
  have hS8 := S8.seq hS7
  clear hv7 S8 hS7
  walk_at "w"
  intro x1 d1 hx1 hd1 n1
  have M1 := made_same hx1 hd1 (o := .own x1) (o' := .ins a.Wishes d1 [])
  refine ⟨x1, d1, z, x, k, qh, rfl, upd_same, z0, z1, hv8.same M1, wk, hk, fun l2 H9 B9 e9 => ?_⟩
  have S9 : Same H8 H9 := fun b o e => B9 b o (ne_of_none e hx1) (M1 b o e)
  have hw9 : WishAt a H9 x1 z x k := ⟨_, _, e9⟩
  have hv9 := hv8.same S9
  have hl9 := S9 _ _ hl8
  have hS9 := S9.seq hS8
  clear hv8 hl8 hS8 B9 M1 S9 e9 hx1 hd1 n1
  walk_at "w"
  refine ⟨sc, ns, 1, rfl, hS9, by decide, fun c1 => ?_⟩
  refine ⟨sz8 (by decide), fun p2 hp2 => ?_⟩
  refine ⟨sc, _, rfl, (same_new hp2 _).seq hS9, fun p3 hp3 => ?_⟩
  rw [cutI]
  refine ⟨p2, p3, [.int c1], _, rfl, rfl, ?_, upd_same, ?_, fun c hc => ?_⟩
  · rw [upd_ne (ne_of_none upd_same hp3)]; exact upd_same
  · have := cutI_len ns 2 5
    simp only [List.length_cons, List.length_nil, List.length_map]
    exact sz8 (by omega)
  have S6 := ((same_new hp2 (.lst [.int c1])).trans (same_new hp3 (.lst ((cutL ns 2 5).map V.int)))).trans (same_new hc (.lst ([.int c1] ++ (cutL ns 2 5).map V.int)))
  refine ⟨c, rfl, ⟨_, SqL.of upd_same⟩, ?_⟩
  refine ForL.by (xs := ([c1] ++ cutL ns 2 5).map V.int) (fun _ σ H1 => (∃ u1 u7 u8 u9 u10 u11 u12 u13 u14 u15 u16 u17, σ = [some (.ref sc), u1, some (.int z), some x, some k, some (.ref l), some (.ref x1), u7, u8, u9, u10, u11, u12, u13, u14, u15, u16, u17]) ∧ H1 c = some (.lst (([c1] ++ cutL ns 2 5).map V.int)) ∧ QV H1 x qh ∧ WishAt a H1 x1 z x k ∧ H1 l = some (.lst (qMk qh))) ⟨⟨_, _, _, _, _, _, _, _, _, _, _, _, rfl⟩, by rw [List.map_append]; exact upd_same, hv9.same S6, hw9.same S6, S6 _ _ hl9⟩ (fun i σ H1 _ h => SqL.of h.2.1) ?_ ?_
  · rintro i y σ H1 hy ⟨⟨u1, u7, u8, u9, u10, u11, u12, u13, u14, u15, u16, u17, rfl⟩, h1, hv1, hw1, hl1⟩
    obtain ⟨cc, rfl⟩ := int_at hy
    clear hy hv9 hw9 hl9 hS9 S6 hc hp3 hp2
    walk_at "w"
    refine ⟨cc, rfl, fun pw wa wb wc wd hpw => ?_⟩
    have W0 : Well (upd H1 pw (.lst [.int wa, .int wb, .int wc, .int wd])) pw := ⟨_, _, _, _, upd_same⟩
    have n1 : c ≠ pw := ne_of_none h1 hpw
    have n2 : l ≠ pw := ne_of_none hl1 hpw
    have S2 := same_new hpw (.lst [.int wa, .int wb, .int wc, .int wd])
    generalize upd H1 pw (.lst [.int wa, .int wb, .int wc, .int wd]) = H2 at *
    have A0 := hv1.same S2
    have A1 := hw1.same S2
    have A2 := S2 _ _ h1
    have A3 := S2 _ _ hl1
    clear hv1 hw1 h1 hl1 S2 hpw
    walk_at "w"
    -- how many
    refine drw W0 (by decide) (by decide) fun r1 H3 a1 b1 W1 B1 => ?_
    walk_at "w"
    refine ⟨sz8 (by decide), fun q1 hq1 => ?_⟩
    have S4 := same_new hq1 (.lst [.int 1, .int 2, .int 3, .int (1 + r1)])
    refine drw (W1.same S4) (by decide) (by decide) fun r3 H5 a3 b3 W3 B3 => ?_
    have e5 := B3 q1 _ (W1.ne hq1) upd_same
    obtain ⟨mn, hmn, emn⟩ := at_mem (ns := [1, 2, 3, 1 + r1]) a3 b3
    refine ixl (SqL.of e5) emn ?_
    have mn0 : 1 ≤ mn ∧ mn ≤ 8 := by simp only [List.mem_cons, List.not_mem_nil, or_false] at hmn; omega
    have BB := B1.trans ((Same.but S4).trans B3)
    have D0 := A0.but W0 BB
    have D1 := A1.but W0 BB
    have D2 := BB _ _ n1 A2
    have D3 := BB _ _ n2 A3
    clear A0 A1 A2 A3 BB B1 B3 S4 e5 emn hmn W0 W1 hq1 a1 b1 a3 b3
    walk_at "w"
    refine ⟨pw, mn, rfl, by omega, by omega, W3, fun ps ss H6 ls gs W4 B4 fr4 es => ?_⟩
    have A0 := D0.but W3 B4
    have A1 := D1.but W3 B4
    have A2 := B4 _ _ n1 D2
    have A3 := B4 _ _ n2 D3
    have nps : ps ≠ pw := W3.ne fr4
    clear D0 D1 D2 D3 B4 fr4 W3
    walk_at "w"
    refine ⟨pw, mn, rfl, by omega, by omega, W4, fun pn us H7' lu gu W5 B5 fr5 en => ?_⟩
    have D0 := A0.but W4 B5
    have D1 := A1.but W4 B5
    have D2 := B5 _ _ n1 A2
    have D3 := B5 _ _ n2 A3
    have D4 := B5 _ _ nps es
    have npn : pn ≠ pw := W4.ne fr5
    clear A0 A1 A2 A3 B5 fr5 W4 es
    walk_at "w"
    -- the roads
    refine ⟨by omega, by omega, ?_⟩
    refine CompR.by (fun i acc σ H' => (∃ rs : List RI, rs.length = i ∧ acc = rs.map (fun r => V.ref r.1) ∧ rs.map (·.2.1) = us.take i ∧ rs.map (·.2.2.1) = ss.take i ∧ ∀ r ∈ rs, RoadAt a H' r.1 r.2.1 r.2.2.1 r.2.2.2) ∧ (∃ v, σ = [v, some (.ref pn), some (.ref ps), some (.ref pw)]) ∧ Well H' pw ∧ But pw H7' H') (sz8 (by omega)) ⟨⟨[], rfl, rfl, rfl, rfl, fun r hr => by cases hr⟩, ⟨_, rfl⟩, W5, But.refl _ _⟩ ?_ ?_ ?_
    · rintro i acc σ H' hi ⟨⟨rs, lr, rfl, hn, hs, hr⟩, ⟨v, rfl⟩, W6, B6⟩
      have hi1 : i < us.length := by omega
      have hi2 : i < ss.length := by omega
      obtain ⟨u, eu⟩ : ∃ u, us[i]? = some u := ⟨us[i], List.getElem?_eq_getElem hi1⟩
      obtain ⟨s, es⟩ : ∃ s, ss[i]? = some s := ⟨ss[i], List.getElem?_eq_getElem hi2⟩
      have gu1 := gu u (List.mem_of_getElem? eu)
      have gs1 := gs s (List.mem_of_getElem? es)
      have xu : atI (us.map V.str) (0 + (i : Int)) = some (.str u) := by
        rw [Int.zero_add]
        exact atI_nat (by rw [List.getElem?_map, eu]; rfl)
      have xs : atI (ss.map V.int) (0 + (i : Int)) = some (.int s) := by
        rw [Int.zero_add]
        exact atI_nat (by rw [List.getElem?_map, es]; rfl)
      walk_at "w"
      refine ixl (SqL.of (B6 _ _ npn en)) xu ?_
      walk_at "w"
      refine ixl (SqL.of (B6 _ _ nps D4)) xs ?_
      walk_at "w"
      refine drw W6 (by decide) (by decide) fun r4 G1 a4 b4 W7 B7 => ?_
      walk_at "w"
      intro x2 d2 hx2 hd2 n3
      have M1 := made_same hx2 hd2 (o := .own x2) (o' := .ins a.Road d2 [])
      refine ⟨x2, d2, u, s, _, rfl, upd_same, gu1, gs1, fun H8 B8 e8 => ?_⟩
      have S8 : Same G1 H8 := fun b o e => B8 b o (ne_of_none e hx2) (M1 b o e)
      have hr8 : RoadAt a H8 x2 u s (decide (r4 = 1)) := ⟨_, e8⟩
      have fin8 : ∃ rs' : List RI, rs'.length = i + 1 ∧ rs.map (fun r => V.ref r.1) ++ [V.ref x2] = rs'.map (fun r => V.ref r.1) ∧ rs'.map (·.2.1) = us.take (i + 1) ∧ rs'.map (·.2.2.1) = ss.take (i + 1) ∧ ∀ r ∈ rs', RoadAt a H8 r.1 r.2.1 r.2.2.1 r.2.2.2 := by
        refine ⟨rs ++ [(x2, u, s, decide (r4 = 1))], by rw [List.length_append, lr]; rfl, by rw [List.map_append]; rfl, ?_, ?_, fun r hr' => ?_⟩
        · rw [List.map_append, hn, List.take_succ, eu]; rfl
        · rw [List.map_append, hs, List.take_succ, es]; rfl
        · rcases List.mem_append.mp hr' with z | z
          · exact ((hr r z).but W6 B7).same S8
          · rw [List.mem_singleton.mp z]; exact hr8
      first | exact ⟨rfl, fin8, ⟨_, rfl⟩, W7.same S8, B6.trans (B7.trans (Same.but S8))⟩ | exact ⟨rfl, fin8, W7.same S8, B6.trans (B7.trans (Same.but S8))⟩ | exact ⟨fin8, W7.same S8, B6.trans (B7.trans (Same.but S8))⟩
    · rintro i acc σ H' ⟨⟨rs, lr, rfl, _⟩, _⟩
      rw [List.length_map, lr]
      exact Nat.le_refl _
    rintro acc σ H' ⟨⟨rs, lr, rfl, hn, hs, hr⟩, ⟨v, rfl⟩, W6, B6⟩ lrs hlr
    have tu : us.take mn.toNat = us := List.take_of_length_le (by omega)
    have ts : ss.take mn.toNat = ss := List.take_of_length_le (by omega)
    rw [tu] at hn
    rw [ts] at hs
    have A0 := D0.but W5 B6
    have A1 := D1.but W5 B6
    have A2 := B6 _ _ n1 D2
    have A3 := B6 _ _ n2 D3
    have A4 := B6 _ _ nps D4
    have A5 := B6 _ _ npn en
    clear D0 D1 D2 D3 D4 en B6 W5 tu ts
    have S7 := same_new hlr (.lst (rs.map fun r => V.ref r.1))
    have D0 := A0.same S7
    have D1 := A1.same S7
    have D2 := S7 _ _ A2
    have D3 := S7 _ _ A3
    have D4 := S7 _ _ A4
    have D5 := S7 _ _ A5
    have D6 : RoadsAt a (upd H' lrs (.lst (rs.map fun r => V.ref r.1))) lrs rs := ⟨upd_same, fun r h => (hr r h).same S7⟩
    have W7 := W6.same S7
    have nlr := W6.ne hlr
    generalize upd H' lrs (.lst (rs.map fun r => V.ref r.1)) = G0 at *
    clear A0 A1 A2 A3 A4 A5 S7 W6 hr hlr
    walk_at "w"
    refine drw W7 (by decide) (by decide) fun wt G1 a4 b4 W8 B8 => ?_
    have A0 := D0.but W7 B8
    have A1 := D1.but W7 B8
    have A2 := B8 _ _ n1 D2
    have A3 := B8 _ _ n2 D3
    have A4 := B8 _ _ nps D4
    have A5 := B8 _ _ npn D5
    have A6 : RoadsAt a G1 lrs rs := ⟨B8 _ _ nlr D6.1, fun r h => (D6.2 r h).but W7 B8⟩
    clear D0 D1 D2 D3 D4 D5 D6 W7 B8
    walk_at "w"
    have ne0 : ss ≠ [] := by
      intro z
      rw [z] at ls
      have : ([] : List Int).length = 0 := rfl
      omega
    obtain ⟨s0, es0⟩ : ∃ s, ss[0]? = some s := ⟨ss[0]'(by omega), List.getElem?_eq_getElem (by omega)⟩
    refine ixl (SqL.of A4) (v := .int s0) (atI_nat (j := 0) (by rw [List.getElem?_map, es0]; rfl)) ?_
    walk_at "w"
    refine ⟨pw, z, s0, x, qh, rfl, W8, A0, fun m G2 W9 B9 => ?_⟩
    have D0 := A0.but W8 B9
    have D1 := A1.but W8 B9
    have D2 := B9 _ _ n1 A2
    have D3 := B9 _ _ n2 A3
    have D4 := B9 _ _ nps A4
    have D5 := B9 _ _ npn A5
    have D6 : RoadsAt a G2 lrs rs := ⟨B9 _ _ nlr A6.1, fun r h => (A6.2 r h).but W8 B9⟩
    clear A0 A1 A2 A3 A4 A5 A6 W8 W9 B9
    walk_at "w"
    -- wakes
    refine ⟨fun σ' H' => H' = G2 ∧ σ' = [some (.ref sc), some (.ref pw), some (.int z), some x, some k, some (.ref l), some (.ref x1), some (.int cc), some (.int mn), some (.ref ps), some (.ref pn), some (.ref lrs), some (.int wt), some (.int m), some (.bl (wakes k wt)), u15, u16, u17], ?_, ?_⟩
    · cases k with
      | non =>
        try simp only [wakes, decide_true, Bool.not_true, w_seq, w_next, w_ifS, w_ret, w_retN, w_drop, w_asg, w_gName, w_gSub, w_var, w_c, w_op, w_un, w_rU, w_rI0, w_rI, w_test, w_b, w_and, w_or, w_not, w_andV, w_orV, w_notV, w_if, w_cons, w_nil, w_tup, w_lst, w_call, w_cB, w_eq, w_ne, w_isN, w_notN, w_chain, w_sl, w_part, w_noPart, w_forL, w_for1, w_for2, w_K, w_for3, w_isnotB, w_raise, w_try, w_KX, w_cut, w_compL, w_comp1, w_comp2, w_yes, w_pick0, w_pickN, w_pickS, w_bm, w_bm0, w_tyS, w_addS, w_slS, w_blkK, w_strs, w_methD, w_makeN, w_make, w_fld, w_gTup, w_gCons, w_gNil, w_sFld, w_compS, w_tryB, w_bmake, w_noKeys, w_nev, w_never, Option.getD_some,  exists_const, false_or, or_false, exists_false, w_s1, w_s2, w_s3, w_s4, w_s5, L2.start, List.map_cons, List.map_nil, List.length_cons, List.length_nil, List.replicate, List.replicate_zero, List.replicate_succ, Nat.reduceAdd, Nat.reduceSub, Nat.reduceLeDiff, List.cons_append, List.nil_append, List.append_nil, List.set_cons_zero, List.set_cons_succ, List.getElem?_cons_zero, List.getElem?_cons_succ, Option.some.injEq, V.int.injEq, V.bl.injEq, V.ref.injEq, V.str.injEq, V.ty.injEq, List.cons.injEq, and_true, true_and, exists_eq_left, exists_eq_left', exists_and_left, exists_eq, exists_eq', and_self, decide_eq_true_eq, Bool.not_eq_true', decide_eq_false_iff_not, Bool.true_eq_false, Bool.false_eq_true, if_true, if_false, ite_true, ite_false, false_and, and_false, and_assoc, reduceCtorEq]
        first | exact ⟨rfl, rfl⟩ | trivial
      | int kn =>
        try simp only [wakes, decide_false, Bool.not_false, w_seq, w_next, w_ifS, w_ret, w_retN, w_drop, w_asg, w_gName, w_gSub, w_var, w_c, w_op, w_un, w_rU, w_rI0, w_rI, w_test, w_b, w_and, w_or, w_not, w_andV, w_orV, w_notV, w_if, w_cons, w_nil, w_tup, w_lst, w_call, w_cB, w_eq, w_ne, w_isN, w_notN, w_chain, w_sl, w_part, w_noPart, w_forL, w_for1, w_for2, w_K, w_for3, w_isnotB, w_raise, w_try, w_KX, w_cut, w_compL, w_comp1, w_comp2, w_yes, w_pick0, w_pickN, w_pickS, w_bm, w_bm0, w_tyS, w_addS, w_slS, w_blkK, w_strs, w_methD, w_makeN, w_make, w_fld, w_gTup, w_gCons, w_gNil, w_sFld, w_compS, w_tryB, w_bmake, w_noKeys, w_nev, w_never, Option.getD_some,  exists_const, false_or, or_false, exists_false, w_s1, w_s2, w_s3, w_s4, w_s5, L2.start, List.map_cons, List.map_nil, List.length_cons, List.length_nil, List.replicate, List.replicate_zero, List.replicate_succ, Nat.reduceAdd, Nat.reduceSub, Nat.reduceLeDiff, List.cons_append, List.nil_append, List.append_nil, List.set_cons_zero, List.set_cons_succ, List.getElem?_cons_zero, List.getElem?_cons_succ, Option.some.injEq, V.int.injEq, V.bl.injEq, V.ref.injEq, V.str.injEq, V.ty.injEq, List.cons.injEq, and_true, true_and, exists_eq_left, exists_eq_left', exists_and_left, exists_eq, exists_eq', and_self, decide_eq_true_eq, Bool.not_eq_true', decide_eq_false_iff_not, Bool.true_eq_false, Bool.false_eq_true, if_true, if_false, ite_true, ite_false, false_and, and_false, and_assoc, reduceCtorEq]
        first | exact ⟨rfl, rfl⟩ | trivial
      | _ => exact wk.elim
    rintro σ' H' ⟨rfl, rfl⟩
    walk_at "w"
    obtain ⟨M, LU⟩ := least_ex (wk := wakes k wt) (q := qh) (z := z) (m := m) ne0
    have mM := LU.ge D0
    have LR : LeastU (wakes k wt) qh z m (rs.map (·.2.2.1)) M := by rw [hs]; exact LU
    have ss100 : ss.length ≤ 100 := by omega
    have rs100 : rs.length ≤ 100 := by omega
    have us100 : us.length ≤ 100 := by omega
    have rne : rs ≠ [] := fun z => ne0 (by rw [← hs, z]; rfl)
    refine whl (fun σ H1 => ∃ t, σ = [some (.ref sc), some (.ref pw), some (.int z), some x, some k, some (.ref l), some (.ref x1), some (.int cc), some (.int mn), some (.ref ps), some (.ref pn), some (.ref lrs), some (.int wt), some (.int m), some (.bl (wakes k wt)), some (.int t), u16, u17] ∧ m ≤ t ∧ t ≤ M ∧ Same H' H1) (fun (σ : L2.St) (_ : Hp) => match σ[15]? with | some (some (V.int t)) => (M - t).toNat | _ => 0) ⟨m, rfl, Int.le_refl _, mM, fun _ _ z => z⟩ ?_
    rintro σ H1 ⟨t, rfl, t0, t1, S1⟩
    walk_at "w"
    refine ⟨ps, l, ss, x, qh, z, t, wakes k wt, rfl, S1 _ _ D4, ss100, D0.same S1, S1 _ _ D3, fun D H2 S2 fD eD => ?_⟩
    walk_at "w"
    refine ⟨Nat.zero_le _, fun pe hpe => ?_⟩
    have S3 := same_new hpe (.lst [])
    have ri : (useIx (useB (wakes k wt) qh z t) 0 ss).map (fun i => V.int (i : Nat)) = ((useIx (useB (wakes k wt) qh z t) 0 ss).map (fun i : Nat => (i : Int))).map V.int := by rw [List.map_map]; rfl
    rw [ri] at eD
    refine ⟨.list (((useIx (useB (wakes k wt) qh z t) 0 ss).map (fun i : Nat => (i : Int))).map PyData.int), .list [], .lst (S3 _ _ eD) (rds_ints _), .lst upd_same .nil, (shaped_of (Nat.zero_le _) (lay_ints _)).1, by decide +kernel, ?_⟩
    rw [eqv_nil]
    by_cases hM : t < M
    · rw [useIx_nil fun s hs' => LU.none D0 t0 hM hs']
      try simp only [List.map_nil, List.isEmpty_nil, beq_self_eq_true, w_seq, w_next, w_ifS, w_ret, w_retN, w_drop, w_asg, w_gName, w_gSub, w_var, w_c, w_op, w_un, w_rU, w_rI0, w_rI, w_test, w_b, w_and, w_or, w_not, w_andV, w_orV, w_notV, w_if, w_cons, w_nil, w_tup, w_lst, w_call, w_cB, w_eq, w_ne, w_isN, w_notN, w_chain, w_sl, w_part, w_noPart, w_forL, w_for1, w_for2, w_K, w_for3, w_isnotB, w_raise, w_try, w_KX, w_cut, w_compL, w_comp1, w_comp2, w_yes, w_pick0, w_pickN, w_pickS, w_bm, w_bm0, w_tyS, w_addS, w_slS, w_blkK, w_strs, w_methD, w_makeN, w_make, w_fld, w_gTup, w_gCons, w_gNil, w_sFld, w_compS, w_tryB, w_bmake, w_noKeys, w_nev, w_never, Option.getD_some,  exists_const, false_or, or_false, exists_false, w_s1, w_s2, w_s3, w_s4, w_s5, L2.start, List.map_cons, List.map_nil, List.length_cons, List.length_nil, List.replicate, List.replicate_zero, List.replicate_succ, Nat.reduceAdd, Nat.reduceSub, Nat.reduceLeDiff, List.cons_append, List.nil_append, List.append_nil, List.set_cons_zero, List.set_cons_succ, List.getElem?_cons_zero, List.getElem?_cons_succ, Option.some.injEq, V.int.injEq, V.bl.injEq, V.ref.injEq, V.str.injEq, V.ty.injEq, List.cons.injEq, and_true, true_and, exists_eq_left, exists_eq_left', exists_and_left, exists_eq, exists_eq', and_self, decide_eq_true_eq, Bool.not_eq_true', decide_eq_false_iff_not, Bool.true_eq_false, Bool.false_eq_true, if_true, if_false, ite_true, ite_false, false_and, and_false, and_assoc, reduceCtorEq]
      refine ⟨fun σ' H'' => ∃ t', t' = t + 1 ∧ σ' = [some (.ref sc), some (.ref pw), some (.int z), some x, some k, some (.ref l), some (.ref x1), some (.int cc), some (.int mn), some (.ref ps), some (.ref pn), some (.ref lrs), some (.int wt), some (.int m), some (.bl (wakes k wt)), some (.int t'), u16, u17] ∧ Same H' H'', ?_, ?_⟩
      · rintro σ' H'' ⟨t', rfl, rfl, S5⟩
        refine ⟨_, ?_, rfl, t + 1, rfl, by omega, by omega, S5⟩
        show (M - (t + 1)).toNat < (M - t).toNat
        omega
      · first | exact ⟨t + 1, rfl, rfl, S1.trans (S2.trans S3)⟩ | exact S1.trans (S2.trans S3)
    have tM : t = M := by omega
    subst tM
    obtain ⟨su, hsu, esu⟩ := LU.some D0
    have nn : (((useIx (useB (wakes k wt) qh z t) 0 ss).map (fun i : Nat => (i : Int))).map PyData.int).isEmpty = false := by
      have := useIx_some (i := 0) hsu esu
      cases e : useIx (useB (wakes k wt) qh z t) 0 ss with
      | nil => exact absurd e this
      | cons _ _ => rfl
    rw [nn]
    have SA := S1.trans (S2.trans S3)
    generalize upd H2 pe (.lst []) = G3 at *
    have A0 := D0.same SA
    have A1 := D1.same SA
    have A2 := SA _ _ D2
    have A3 := SA _ _ D3
    have A4 := SA _ _ D4
    have A5 := SA _ _ D5
    have A6 := D6.same SA
    clear D0 D1 D2 D3 D4 D5 D6 SA S1 S2 S3 nn ri eD fD hpe su hsu esu
    have LS := LR.self A0
    have nix : (useIx (useB (wakes k wt) qh z t) 0 ss).map (us[·]?) = (rs.filter fun r => useB (wakes k wt) qh z t r.2.2.1).map fun r => some r.2.1 := by
      have := useIx_names (useB (wakes k wt) qh z t) rs []
      rw [hs, hn] at this
      simpa using this
    try simp only [show (false == true) = false from rfl, w_seq, w_next, w_ifS, w_ret, w_retN, w_drop, w_asg, w_gName, w_gSub, w_var, w_c, w_op, w_un, w_rU, w_rI0, w_rI, w_test, w_b, w_and, w_or, w_not, w_andV, w_orV, w_notV, w_if, w_cons, w_nil, w_tup, w_lst, w_call, w_cB, w_eq, w_ne, w_isN, w_notN, w_chain, w_sl, w_part, w_noPart, w_forL, w_for1, w_for2, w_K, w_for3, w_isnotB, w_raise, w_try, w_KX, w_cut, w_compL, w_comp1, w_comp2, w_yes, w_pick0, w_pickN, w_pickS, w_bm, w_bm0, w_tyS, w_addS, w_slS, w_blkK, w_strs, w_methD, w_makeN, w_make, w_fld, w_gTup, w_gCons, w_gNil, w_sFld, w_compS, w_tryB, w_bmake, w_noKeys, w_nev, w_never, Option.getD_some,  exists_const, false_or, or_false, exists_false, w_s1, w_s2, w_s3, w_s4, w_s5, L2.start, List.map_cons, List.map_nil, List.length_cons, List.length_nil, List.replicate, List.replicate_zero, List.replicate_succ, Nat.reduceAdd, Nat.reduceSub, Nat.reduceLeDiff, List.cons_append, List.nil_append, List.append_nil, List.set_cons_zero, List.set_cons_succ, List.getElem?_cons_zero, List.getElem?_cons_succ, Option.some.injEq, V.int.injEq, V.bl.injEq, V.ref.injEq, V.str.injEq, V.ty.injEq, List.cons.injEq, and_true, true_and, exists_eq_left, exists_eq_left', exists_and_left, exists_eq, exists_eq', and_self, decide_eq_true_eq, Bool.not_eq_true', decide_eq_false_iff_not, Bool.true_eq_false, Bool.false_eq_true, if_true, if_false, ite_true, ite_false, false_and, and_false, and_assoc, reduceCtorEq]
    -- what is due
    refine ⟨ps, l, ss, x, qh, z, t, wakes k wt, rfl, A4, ss100, A0, A3, fun dl H3 S3 fdl edl => ?_⟩
    walk_at "w"
    refine ⟨sz8 (by decide), fun d hd => ?_⟩
    have S4 := same_new hd (.tup [.int t, .ref dl])
    have ed : upd H3 d (.tup [.int t, .ref dl]) d = some (.tup [.int t, .ref dl]) := upd_same
    have edl' := S4 _ _ edl
    have SA := S3.trans S4
    generalize upd H3 d (.tup [.int t, .ref dl]) = G4 at *
    have D0 := A0.same SA
    have D1 := A1.same SA
    have D2 := SA _ _ A2
    have D3 := SA _ _ A3
    have D5 := SA _ _ A5
    have D6 := A6.same SA
    clear A0 A1 A2 A3 A4 A5 A6 SA S3 S4 edl hd fdl
    have f100 : (rs.filter fun r => useB (wakes k wt) qh z t r.2.2.1).length ≤ 100 := Nat.le_trans (List.length_filter_le _ _) rs100
    -- one question and its look
    have told : ∀ (Hx Hy : Hp) (tt fl : Addr) (QQ : VK) (EE : XK), Same G4 Hx → Same Hx Hy → Hy tt = some (.tup [.int t, .ref fl]) → Hy fl = some (.lst ((rs.filter fun r => useB (wakes k wt) qh z t r.2.2.1).map fun r => V.ref r.1)) → (∀ Hz, Same Hy Hz → QQ (.bl true) Hz) → sp_law_told K a [.ref tt, .ref d, .ref pn] Hy QQ EE := fun Hx Hy tt fl QQ EE Sx Sy ett efl hq =>
      ⟨tt, fl, d, dl, pn, t, us, _, _, rfl, ett, ⟨efl, fun r hr => ((D6.same (Sx.trans Sy)).2 r ((List.mem_filter.mp hr).1))⟩, (Sx.trans Sy) _ _ ed, (Sx.trans Sy) _ _ edl', (Sx.trans Sy) _ _ D5, gu, nix, f100, us100, hq⟩
    walk_at "w"
    refine ⟨lrs, x1, rs, z, x, k, qh, wt, m, rfl, D6, rne, rs100, D1, D0, z0, z1, wk, fun M1 t1' fl1 H5 L1 S5 f5 et5 ef5 => ?_⟩
    have eM := L1.one LR
    subst eM
    walk_at "w"
    refine told G4 H5 t1' fl1 _ _ (fun _ _ z => z) S5 et5 ef5 fun H6 S6 => ?_
    try simp only [Bool.not_true, w_seq, w_next, w_ifS, w_ret, w_retN, w_drop, w_asg, w_gName, w_gSub, w_var, w_c, w_op, w_un, w_rU, w_rI0, w_rI, w_test, w_b, w_and, w_or, w_not, w_andV, w_orV, w_notV, w_if, w_cons, w_nil, w_tup, w_lst, w_call, w_cB, w_eq, w_ne, w_isN, w_notN, w_chain, w_sl, w_part, w_noPart, w_forL, w_for1, w_for2, w_K, w_for3, w_isnotB, w_raise, w_try, w_KX, w_cut, w_compL, w_comp1, w_comp2, w_yes, w_pick0, w_pickN, w_pickS, w_bm, w_bm0, w_tyS, w_addS, w_slS, w_blkK, w_strs, w_methD, w_makeN, w_make, w_fld, w_gTup, w_gCons, w_gNil, w_sFld, w_compS, w_tryB, w_bmake, w_noKeys, w_nev, w_never, Option.getD_some,  exists_const, false_or, or_false, exists_false, w_s1, w_s2, w_s3, w_s4, w_s5, L2.start, List.map_cons, List.map_nil, List.length_cons, List.length_nil, List.replicate, List.replicate_zero, List.replicate_succ, Nat.reduceAdd, Nat.reduceSub, Nat.reduceLeDiff, List.cons_append, List.nil_append, List.append_nil, List.set_cons_zero, List.set_cons_succ, List.getElem?_cons_zero, List.getElem?_cons_succ, Option.some.injEq, V.int.injEq, V.bl.injEq, V.ref.injEq, V.str.injEq, V.ty.injEq, List.cons.injEq, and_true, true_and, exists_eq_left, exists_eq_left', exists_and_left, exists_eq, exists_eq', and_self, decide_eq_true_eq, Bool.not_eq_true', decide_eq_false_iff_not, Bool.true_eq_false, Bool.false_eq_true, if_true, if_false, ite_true, ite_false, false_and, and_false, and_assoc, reduceCtorEq]
    have RA := D6.same (S5.trans S6)
    refine ⟨⟨_, SqL.of RA.1⟩, ?_⟩
    have g9 : ∀ r ∈ rs, goodN r.2.1 := fun r h => gu _ (by rw [← hn]; exact List.mem_map.mpr ⟨r, h, rfl⟩)
    refine CompL.by (xs := rs.map fun r => V.ref r.1) (fun i acc σ H' => acc = (rs.take i).map (fun r => V.str r.2.1) ∧ (∃ v, σ = [v]) ∧ H' = H6) (sz8 (by rw [List.length_map]; omega)) ⟨rfl, ⟨_, rfl⟩, rfl⟩ (fun i acc σ H' _ h => by rw [h.2.2]; exact SqL.of RA.1) ?_ ?_ ?_
    · rintro i y acc σ Hq hy ⟨rfl, ⟨v, rfl⟩, rfl⟩
      rw [List.getElem?_map] at hy
      obtain ⟨r, er, ey⟩ := Option.map_eq_some_iff.mp hy
      subst ey
      obtain ⟨dr, err⟩ := RA.2 r (List.mem_of_getElem? er)
      have ea : (rs.take i).map (fun r => V.str r.2.1) ++ [V.str r.2.1] = (rs.take (i + 1)).map (fun r => V.str r.2.1) := by
        rw [List.take_succ, er, List.map_append]
        rfl
      walk_at "w"
      refine ⟨_, _, _, err, B.ck_Road.cl, B.na_Road_name, .str r.2.1, rfl, ?_⟩
      first | exact ⟨ea, ⟨_, rfl⟩, rfl⟩ | exact ea | exact ⟨ea, rfl⟩
    · rintro i acc σ Hq ⟨rfl, _, _⟩
      rw [List.length_map, List.length_take]
      omega
    rintro acc σ Hq ⟨rfl, ⟨v, rfl⟩, rfl⟩ D hD
    have ef : (rs.take (rs.map fun r => V.ref r.1).length).map (fun r => V.str r.2.1) = us.map V.str := by
      rw [List.length_map, List.take_length, ← hn, List.map_map]
      rfl
    rw [ef]
    have S7 := same_new hD (.lst (us.map V.str))
    have gsh : SeqAt.shaped (.list (us.map PyData.str)) = true := (shaped_of (Nat.zero_le _) (lay_strs fun u hu => good_str (gu u hu))).1
    refine eqd (.lst upd_same (rds_strs us)) (.lst ((S6.trans S7) _ _ (S5 _ _ D5)) (rds_strs us)) gsh ?_
    walk_at "w"
    have e7 := (S6.trans S7) _ _ et5
    have e8 := (S6.trans S7) _ _ ef5
    have n8 : G4 fl1 = none := f5
    have SB := S5.trans (S6.trans S7)
    generalize upd Hq D (.lst (us.map V.str)) = G5 at *
    -- the told list is emptied
    refine ixt (SqT.of e7) (v := .ref fl1) rfl ?_
    walk_at "w"
    refine ⟨.inl ⟨rfl, _, SqL.of e8⟩, fl1, _, rfl, rfl, e8, ?_⟩
    have SC : Same G4 (upd G5 fl1 (.lst [])) := fun b o e => by
      rw [upd_ne (ne_of_none e n8)]
      exact SB b o e
    generalize upd G5 fl1 (.lst []) = G6 at *
    clear e7 e8 n8 SB S5 S6 S7 et5 ef5 f5 RA hD
    walk_at "w"
    refine ⟨lrs, x1, rs, z, x, k, qh, wt, m, rfl, D6.same SC, rne, rs100, D1.same SC, D0.same SC, z0, z1, wk, fun M2 t2 fl2 G7 LB T7 f7 et7 ef7 => ?_⟩
    have eM2 := LB.one L1
    subst eM2
    refine told G6 G7 t2 fl2 _ _ SC T7 et7 ef7 fun G8 T8 => ?_
    try simp only [Bool.not_true, w_seq, w_next, w_ifS, w_ret, w_retN, w_drop, w_asg, w_gName, w_gSub, w_var, w_c, w_op, w_un, w_rU, w_rI0, w_rI, w_test, w_b, w_and, w_or, w_not, w_andV, w_orV, w_notV, w_if, w_cons, w_nil, w_tup, w_lst, w_call, w_cB, w_eq, w_ne, w_isN, w_notN, w_chain, w_sl, w_part, w_noPart, w_forL, w_for1, w_for2, w_K, w_for3, w_isnotB, w_raise, w_try, w_KX, w_cut, w_compL, w_comp1, w_comp2, w_yes, w_pick0, w_pickN, w_pickS, w_bm, w_bm0, w_tyS, w_addS, w_slS, w_blkK, w_strs, w_methD, w_makeN, w_make, w_fld, w_gTup, w_gCons, w_gNil, w_sFld, w_compS, w_tryB, w_bmake, w_noKeys, w_nev, w_never, Option.getD_some,  exists_const, false_or, or_false, exists_false, w_s1, w_s2, w_s3, w_s4, w_s5, L2.start, List.map_cons, List.map_nil, List.length_cons, List.length_nil, List.replicate, List.replicate_zero, List.replicate_succ, Nat.reduceAdd, Nat.reduceSub, Nat.reduceLeDiff, List.cons_append, List.nil_append, List.append_nil, List.set_cons_zero, List.set_cons_succ, List.getElem?_cons_zero, List.getElem?_cons_succ, Option.some.injEq, V.int.injEq, V.bl.injEq, V.ref.injEq, V.str.injEq, V.ty.injEq, List.cons.injEq, and_true, true_and, exists_eq_left, exists_eq_left', exists_and_left, exists_eq, exists_eq', and_self, decide_eq_true_eq, Bool.not_eq_true', decide_eq_false_iff_not, Bool.true_eq_false, Bool.false_eq_true, if_true, if_false, ite_true, ite_false, false_and, and_false, and_assoc, reduceCtorEq]
    have SD := SC.trans (T7.trans T8)
    refine ⟨lrs, x1, rs, z, x, k, qh, wt, M2, rfl, D6.same SD, rne, rs100, D1.same SD, D0.same SD, z0, z1, wk, fun M3 t3 fl3 G9 L3 T9 f9 et9 ef9 => ?_⟩
    have eM3 := L3.one LS
    subst eM3
    refine told G8 G9 t3 fl3 _ _ SD T9 et9 ef9 fun GA TA => ?_
    try simp only [Bool.not_true, w_seq, w_next, w_ifS, w_ret, w_retN, w_drop, w_asg, w_gName, w_gSub, w_var, w_c, w_op, w_un, w_rU, w_rI0, w_rI, w_test, w_b, w_and, w_or, w_not, w_andV, w_orV, w_notV, w_if, w_cons, w_nil, w_tup, w_lst, w_call, w_cB, w_eq, w_ne, w_isN, w_notN, w_chain, w_sl, w_part, w_noPart, w_forL, w_for1, w_for2, w_K, w_for3, w_isnotB, w_raise, w_try, w_KX, w_cut, w_compL, w_comp1, w_comp2, w_yes, w_pick0, w_pickN, w_pickS, w_bm, w_bm0, w_tyS, w_addS, w_slS, w_blkK, w_strs, w_methD, w_makeN, w_make, w_fld, w_gTup, w_gCons, w_gNil, w_sFld, w_compS, w_tryB, w_bmake, w_noKeys, w_nev, w_never, Option.getD_some,  exists_const, false_or, or_false, exists_false, w_s1, w_s2, w_s3, w_s4, w_s5, L2.start, List.map_cons, List.map_nil, List.length_cons, List.length_nil, List.replicate, List.replicate_zero, List.replicate_succ, Nat.reduceAdd, Nat.reduceSub, Nat.reduceLeDiff, List.cons_append, List.nil_append, List.append_nil, List.set_cons_zero, List.set_cons_succ, List.getElem?_cons_zero, List.getElem?_cons_succ, Option.some.injEq, V.int.injEq, V.bl.injEq, V.ref.injEq, V.str.injEq, V.ty.injEq, List.cons.injEq, and_true, true_and, exists_eq_left, exists_eq_left', exists_and_left, exists_eq, exists_eq', and_self, decide_eq_true_eq, Bool.not_eq_true', decide_eq_false_iff_not, Bool.true_eq_false, Bool.false_eq_true, if_true, if_false, ite_true, ite_false, false_and, and_false, and_assoc, reduceCtorEq]
    have SE := SD.trans (T9.trans TA)
    first | exact ⟨SE _ _ D2, D0.same SE, D1.same SE, SE _ _ D3⟩ | exact ⟨⟨_, _, _, _, _, _, _, _, _, _, _, _, rfl⟩, SE _ _ D2, D0.same SE, D1.same SE, SE _ _ D3⟩
  · rintro σ H1 ⟨⟨u1, u7, u8, u9, u10, u11, u12, u13, u14, u15, u16, u17, rfl⟩, h1, hv1, hw1, hl1⟩
    walk_at "w"
    exact q _
end
end Bw
set_option Elab.async false
set_option linter.all false
namespace Hd
open PySem PySem.W L2
set_option maxRecDepth 100000
set_option maxHeartbeats 0
structure AT where
  p : Program
  a : List Str
  t : List String
def s (A : AT) (i : Nat) : Str := A.a.getD i Str.empty
def t (A : AT) (i : Nat) : String := A.t.getD i ""
def stm (A : AT) (i : Nat) : Stmt := A.p.main.body.getD i (.Pass ⟨0, 0, 0, 0⟩)
abbrev N : Obj → BT → BT → BT := BT.node
abbrev L : BT := BT.nil
noncomputable def o_43 (A : AT) : Params → Obj := (fun P => (Obj.mk (Value.type (t A 2)) none (Data.seq #[] 0) #[]))
noncomputable def o_44 (A : AT) : Params → Obj := (fun P => (Obj.mk Value.none none (Data.fields #[]) #[]))
noncomputable def o_45 (A : AT) : Params → Obj := (fun P => (Obj.mk (Value.type (t A 4)) none (Data.fields #[(Value.str (s A 144) 182), (Value.str (s A 144) 183), (Value.str (s A 9) 184), (Value.int 1 0), (Value.int 0 0), (Value.int 0 0), (Value.int 0 0), (Value.int 0 0), (Value.ref 11), (Value.bool false), (Value.int 181 0), (Value.ref 12), Value.none, Value.none, Value.none, Value.none, (Value.int 185 0), (Value.int 1 0), (Value.str (s A 9) 186)]) #[]))
noncomputable def o_46 (A : AT) : Params → Obj := (fun P => (Obj.mk (Value.type (t A 15)) none Data.plain #[(some (Value.ref 13)), (some (Value.ref 3)), (some (Value.ref 3)), none, (some (Value.str (s A 131) 164)), none, (some (Value.ref 0))]))
noncomputable def o_49 (A : AT) : Params → Obj := (fun P => (Obj.mk (Value.type (t A 0)) none (Data.dict #[(DictEntry.mk (PyData.keyHash P (s A 0)) (Value.str (s A 0) 165) (Value.str (s A 88) 194)), (DictEntry.mk (PyData.keyHash P (s A 2)) (Value.str (s A 2) 166) Value.none), (DictEntry.mk (PyData.keyHash P (s A 3)) (Value.str (s A 3) 167) Value.none), (DictEntry.mk (PyData.keyHash P (s A 4)) (Value.str (s A 4) 168) (Value.builtin (t A 1))), (DictEntry.mk (PyData.keyHash P (s A 5)) (Value.str (s A 5) 169) Value.none), (DictEntry.mk (PyData.keyHash P (s A 6)) (Value.str (s A 6) 170) (Value.ref 6)), (DictEntry.mk (PyData.keyHash P (s A 7)) (Value.str (s A 7) 171) (Value.ref 4)), (DictEntry.mk (PyData.keyHash P (s A 8)) (Value.str (s A 8) 173) (Value.str (s A 9) 172)), (DictEntry.mk (PyData.keyHash P (s A 10)) (Value.str (s A 10) 174) Value.none), (DictEntry.mk (PyData.keyHash P (s A 11)) (Value.str (s A 11) 193) (Value.ref 21)), (DictEntry.mk (PyData.keyHash P (s A 12)) (Value.str (s A 12) 213) (Value.ref 31))] 11) #[]))
noncomputable def o_50 (A : AT) : Params → Obj := (fun P => (Obj.mk Value.none none (Data.fields #[(Value.int 1 0), (Value.int 0 0), (Value.ref 20), (Value.int 5 0), (Value.int 0 0), (Value.ref 27)]) #[]))
noncomputable def o_51 (A : AT) : Params → Obj := (fun P => (Obj.mk (Value.type (t A 2)) none (Data.seq #[] 0) #[]))
noncomputable def o_52 (A : AT) : Params → Obj := (fun P => (Obj.mk Value.none none (Data.fields #[]) #[]))
noncomputable def o_53 (A : AT) : Params → Obj := (fun P => (Obj.mk (Value.type (t A 2)) none (Data.seq #[(Value.str (s A 113) 190)] 0) #[]))
noncomputable def o_54 (A : AT) : Params → Obj := (fun P => (Obj.mk (Value.type (t A 2)) none (Data.seq #[] 0) #[]))
noncomputable def o_55 (A : AT) : Params → Obj := (fun P => (Obj.mk Value.none none (Data.func (FuncData.mk (s A 11) (s A 11) (defArgs (stm A 0)) (FuncBody.stmts (defBody (stm A 0))) (defScope (stm A 0)) 0 [] Value.none Value.none Value.none Value.none none Value.none Value.none 0)) #[]))
noncomputable def o_56 (A : AT) : Params → Obj := (fun P => (Obj.mk (Value.type (t A 4)) none (Data.fields #[(Value.str (s A 11) 187), (Value.str (s A 11) 188), (Value.str (s A 9) 189), (Value.int 1 0), (Value.int 1 0), (Value.int 0 0), (Value.int 0 0), (Value.int 3 0), (Value.ref 15), (Value.bool true), (Value.int 181 0), (Value.ref 16), Value.none, (Value.ref 17), (Value.ref 18), (Value.ref 19), (Value.int 191 0), (Value.int 1 0), (Value.str (s A 9) 192)]) #[]))
noncomputable def o_57 (A : AT) : Params → Obj := (fun P => (Obj.mk (Value.type (t A 3)) none (Data.func (FuncData.mk (s A 11) (s A 11) (defArgs (stm A 0)) (FuncBody.stmts (defBody (stm A 0))) (defScope (stm A 0)) 3 [] Value.none Value.none Value.none (Value.str (s A 131) 164) none (Value.ref 20) Value.none 0)) #[]))
noncomputable def o_58 (A : AT) : Params → Obj := (fun P => (Obj.mk (Value.type (t A 2)) none (Data.seq #[(Value.type (t A 16))] 0) #[]))
noncomputable def o_59 (A : AT) : Params → Obj := (fun P => (Obj.mk (Value.type (t A 8)) none (Data.fields #[(Value.builtin (t A 13)), (Value.type (t A 5))]) #[]))
noncomputable def o_60 (A : AT) : Params → Obj := (fun P => (Obj.mk (Value.type (t A 0)) none (Data.dict #[(DictEntry.mk (PyData.keyHash P (s A 62)) (Value.str (s A 62) 203) (Value.str (s A 88) 194)), (DictEntry.mk (PyData.keyHash P (s A 87)) (Value.str (s A 87) 205) (Value.str (s A 12) 204)), (DictEntry.mk (PyData.keyHash P (s A 63)) (Value.str (s A 63) 207) (Value.int 5 206)), (DictEntry.mk (PyData.keyHash P (s A 65)) (Value.str (s A 65) 208) (Value.ref 29))] 4) #[]))
noncomputable def o_61 (A : AT) : Params → Obj := (fun P => (Obj.mk (Value.type (t A 2)) none (Data.seq #[] 0) #[]))
noncomputable def o_62 (A : AT) : Params → Obj := (fun P => (Obj.mk Value.none none (Data.fields #[]) #[]))
noncomputable def o_63 (A : AT) : Params → Obj := (fun P => (Obj.mk (Value.type (t A 4)) none (Data.fields #[(Value.str (s A 12) 198), (Value.str (s A 12) 199), (Value.str (s A 9) 200), (Value.int 5 0), (Value.int 0 0), (Value.int 0 0), (Value.int 0 0), (Value.int 0 0), (Value.ref 25), (Value.bool false), (Value.int 181 0), (Value.ref 26), Value.none, Value.none, Value.none, Value.none, (Value.int 201 0), (Value.int 5 0), (Value.str (s A 9) 202)]) #[]))
noncomputable def o_64 (A : AT) : Params → Obj := (fun P => (Obj.mk (Value.type (t A 15)) none Data.plain #[(some (Value.ref 27)), (some (Value.ref 3)), (some (Value.ref 24)), none, (some (Value.str (s A 88) 194)), none, (some (Value.ref 0))]))
noncomputable def o_65 (A : AT) : Params → Obj := (fun P => (Obj.mk (Value.type (t A 2)) none (Data.seq #[] 0) #[]))
noncomputable def o_66 (A : AT) : Params → Obj := (fun P => (Obj.mk (Value.type (t A 0)) none (Data.dict #[(DictEntry.mk (PyData.keyHash P (s A 62)) (Value.str (s A 62) 203) (Value.str (s A 88) 194)), (DictEntry.mk (PyData.keyHash P (s A 63)) (Value.str (s A 63) 207) (Value.int 5 206)), (DictEntry.mk (PyData.keyHash P (s A 65)) (Value.str (s A 65) 208) (Value.ref 29)), (DictEntry.mk (PyData.keyHash P (s A 66)) (Value.str (s A 66) 210) (Value.ref 32)), (DictEntry.mk (PyData.keyHash P (s A 2)) (Value.str (s A 2) 211) Value.none)] 3) #[]))
noncomputable def o_67 (A : AT) : Params → Obj := (fun P => (Obj.mk (Value.type (t A 5)) none (Data.cls (ClassData.mk (s A 12) [(Value.type (t A 16))] [(Value.ref 31), (Value.type (t A 16)), (Value.type (t A 17)), (Value.type (t A 18)), (Value.type (t A 6))] 30 (s A 12) true [] [] false none false)) #[(some (Value.ref 22)), none, (some (Value.str (s A 12) 196)), (some (Value.str (s A 12) 204)), (some (Value.builtin (t A 19))), (some (Value.bool true))]))
noncomputable def o_68 (A : AT) : Params → Obj := (fun P => (Obj.mk (Value.type (t A 10)) none (Data.fields #[(Value.str (s A 66) 209), (Value.ref 31), (Value.builtin (t A 20)), Value.none]) #[]))
noncomputable def o_69 (A : AT) : Params → Obj := (fun P => (Obj.mk (Value.type (t A 14)) none (Data.fields #[(Value.ref 31), (Value.ref 31), (Value.ref 31)]) #[]))
noncomputable def o_70 (A : AT) : Params → Obj := (fun P => (Obj.mk (Value.type (t A 8)) none (Data.fields #[(Value.builtin (t A 9)), (Value.ref 31)]) #[]))
noncomputable def o_71 (A : AT) : Params → Obj := (fun P => (Obj.mk (Value.type (t A 0)) none (Data.dict #[(DictEntry.mk (PyData.keyHash P (s A 0)) (Value.str (s A 0) 165) (Value.str (s A 88) 194)), (DictEntry.mk (PyData.keyHash P (s A 2)) (Value.str (s A 2) 166) Value.none), (DictEntry.mk (PyData.keyHash P (s A 3)) (Value.str (s A 3) 167) Value.none), (DictEntry.mk (PyData.keyHash P (s A 4)) (Value.str (s A 4) 168) (Value.builtin (t A 1))), (DictEntry.mk (PyData.keyHash P (s A 5)) (Value.str (s A 5) 169) Value.none), (DictEntry.mk (PyData.keyHash P (s A 6)) (Value.str (s A 6) 170) (Value.ref 6)), (DictEntry.mk (PyData.keyHash P (s A 7)) (Value.str (s A 7) 171) (Value.ref 4)), (DictEntry.mk (PyData.keyHash P (s A 8)) (Value.str (s A 8) 173) (Value.str (s A 9) 172)), (DictEntry.mk (PyData.keyHash P (s A 10)) (Value.str (s A 10) 174) Value.none), (DictEntry.mk (PyData.keyHash P (s A 11)) (Value.str (s A 11) 193) (Value.ref 21)), (DictEntry.mk (PyData.keyHash P (s A 12)) (Value.str (s A 12) 213) (Value.ref 31)), (DictEntry.mk (PyData.keyHash P (s A 13)) (Value.str (s A 13) 229) (Value.ref 44))] 12) #[]))
noncomputable def o_72 (A : AT) : Params → Obj := (fun P => (Obj.mk Value.none none (Data.fields #[(Value.int 1 0), (Value.int 0 0), (Value.ref 20), (Value.int 5 0), (Value.int 0 0), (Value.ref 27), (Value.int 7 0), (Value.int 0 0), (Value.ref 40)]) #[]))
noncomputable def o_73 (A : AT) : Params → Obj := (fun P => (Obj.mk (Value.type (t A 5)) none (Data.cls (ClassData.mk (s A 12) [(Value.type (t A 16))] [(Value.ref 31), (Value.type (t A 16)), (Value.type (t A 17)), (Value.type (t A 18)), (Value.type (t A 6))] 30 (s A 12) true [] [(Value.ref 44)] false none false)) #[(some (Value.ref 22)), none, (some (Value.str (s A 12) 196)), (some (Value.str (s A 12) 204)), (some (Value.builtin (t A 19))), (some (Value.bool true))]))
noncomputable def o_74 (A : AT) : Params → Obj := (fun P => (Obj.mk (Value.type (t A 2)) none (Data.seq #[(Value.ref 31)] 0) #[]))
noncomputable def o_75 (A : AT) : Params → Obj := (fun P => (Obj.mk (Value.type (t A 8)) none (Data.fields #[(Value.builtin (t A 13)), (Value.type (t A 5))]) #[]))
noncomputable def o_76 (A : AT) : Params → Obj := (fun P => (Obj.mk (Value.type (t A 0)) none (Data.dict #[(DictEntry.mk (PyData.keyHash P (s A 62)) (Value.str (s A 62) 221) (Value.str (s A 88) 194)), (DictEntry.mk (PyData.keyHash P (s A 87)) (Value.str (s A 87) 223) (Value.str (s A 13) 222)), (DictEntry.mk (PyData.keyHash P (s A 63)) (Value.str (s A 63) 225) (Value.int 7 224)), (DictEntry.mk (PyData.keyHash P (s A 65)) (Value.str (s A 65) 226) (Value.ref 42))] 4) #[]))
noncomputable def o_77 (A : AT) : Params → Obj := (fun P => (Obj.mk (Value.type (t A 2)) none (Data.seq #[] 0) #[]))
noncomputable def o_78 (A : AT) : Params → Obj := (fun P => (Obj.mk Value.none none (Data.fields #[]) #[]))
noncomputable def o_79 (A : AT) : Params → Obj := (fun P => (Obj.mk (Value.type (t A 4)) none (Data.fields #[(Value.str (s A 13) 216), (Value.str (s A 13) 217), (Value.str (s A 9) 218), (Value.int 7 0), (Value.int 0 0), (Value.int 0 0), (Value.int 0 0), (Value.int 0 0), (Value.ref 38), (Value.bool false), (Value.int 181 0), (Value.ref 39), Value.none, Value.none, Value.none, Value.none, (Value.int 219 0), (Value.int 7 0), (Value.str (s A 9) 220)]) #[]))
noncomputable def o_80 (A : AT) : Params → Obj := (fun P => (Obj.mk (Value.type (t A 15)) none Data.plain #[(some (Value.ref 40)), (some (Value.ref 3)), (some (Value.ref 37)), none, (some (Value.str (s A 88) 194)), none, (some (Value.ref 0))]))
noncomputable def o_81 (A : AT) : Params → Obj := (fun P => (Obj.mk (Value.type (t A 2)) none (Data.seq #[] 0) #[]))
noncomputable def o_82 (A : AT) : Params → Obj := (fun P => (Obj.mk (Value.type (t A 0)) none (Data.dict #[(DictEntry.mk (PyData.keyHash P (s A 62)) (Value.str (s A 62) 221) (Value.str (s A 88) 194)), (DictEntry.mk (PyData.keyHash P (s A 63)) (Value.str (s A 63) 225) (Value.int 7 224)), (DictEntry.mk (PyData.keyHash P (s A 65)) (Value.str (s A 65) 226) (Value.ref 42)), (DictEntry.mk (PyData.keyHash P (s A 2)) (Value.str (s A 2) 227) Value.none)] 2) #[]))
noncomputable def o_83 (A : AT) : Params → Obj := (fun P => (Obj.mk (Value.type (t A 5)) none (Data.cls (ClassData.mk (s A 13) [(Value.ref 31)] [(Value.ref 44), (Value.ref 31), (Value.type (t A 16)), (Value.type (t A 17)), (Value.type (t A 18)), (Value.type (t A 6))] 43 (s A 13) true [] [] false none false)) #[(some (Value.ref 35)), none, (some (Value.str (s A 13) 214)), (some (Value.str (s A 13) 222)), (some (Value.builtin (t A 19))), (some (Value.bool true))]))
noncomputable def o_84 (A : AT) : Params → Obj := (fun P => (Obj.mk (Value.type (t A 14)) none (Data.fields #[(Value.ref 44), (Value.ref 44), (Value.ref 44)]) #[]))
noncomputable def o_85 (A : AT) : Params → Obj := (fun P => (Obj.mk (Value.type (t A 8)) none (Data.fields #[(Value.builtin (t A 9)), (Value.ref 44)]) #[]))
noncomputable def o_86 (A : AT) : Params → Obj := (fun P => (Obj.mk (Value.type (t A 0)) none (Data.dict #[(DictEntry.mk (PyData.keyHash P (s A 0)) (Value.str (s A 0) 165) (Value.str (s A 88) 194)), (DictEntry.mk (PyData.keyHash P (s A 2)) (Value.str (s A 2) 166) Value.none), (DictEntry.mk (PyData.keyHash P (s A 3)) (Value.str (s A 3) 167) Value.none), (DictEntry.mk (PyData.keyHash P (s A 4)) (Value.str (s A 4) 168) (Value.builtin (t A 1))), (DictEntry.mk (PyData.keyHash P (s A 5)) (Value.str (s A 5) 169) Value.none), (DictEntry.mk (PyData.keyHash P (s A 6)) (Value.str (s A 6) 170) (Value.ref 6)), (DictEntry.mk (PyData.keyHash P (s A 7)) (Value.str (s A 7) 171) (Value.ref 4)), (DictEntry.mk (PyData.keyHash P (s A 8)) (Value.str (s A 8) 173) (Value.str (s A 9) 172)), (DictEntry.mk (PyData.keyHash P (s A 10)) (Value.str (s A 10) 174) Value.none), (DictEntry.mk (PyData.keyHash P (s A 11)) (Value.str (s A 11) 193) (Value.ref 21)), (DictEntry.mk (PyData.keyHash P (s A 12)) (Value.str (s A 12) 213) (Value.ref 31)), (DictEntry.mk (PyData.keyHash P (s A 13)) (Value.str (s A 13) 229) (Value.ref 44)), (DictEntry.mk (PyData.keyHash P (s A 14)) (Value.str (s A 14) 245) (Value.ref 56))] 13) #[]))
noncomputable def o_87 (A : AT) : Params → Obj := (fun P => (Obj.mk Value.none none (Data.fields #[(Value.int 1 0), (Value.int 0 0), (Value.ref 20), (Value.int 5 0), (Value.int 0 0), (Value.ref 27), (Value.int 7 0), (Value.int 0 0), (Value.ref 40), (Value.int 9 0), (Value.int 0 0), (Value.ref 52)]) #[]))
noncomputable def o_88 (A : AT) : Params → Obj := (fun P => (Obj.mk (Value.type (t A 5)) none (Data.cls (ClassData.mk (s A 12) [(Value.type (t A 16))] [(Value.ref 31), (Value.type (t A 16)), (Value.type (t A 17)), (Value.type (t A 18)), (Value.type (t A 6))] 30 (s A 12) true [] [(Value.ref 44), (Value.ref 56)] false none false)) #[(some (Value.ref 22)), none, (some (Value.str (s A 12) 196)), (some (Value.str (s A 12) 204)), (some (Value.builtin (t A 19))), (some (Value.bool true))]))
noncomputable def o_89 (A : AT) : Params → Obj := (fun P => (Obj.mk (Value.type (t A 2)) none (Data.seq #[(Value.ref 31)] 0) #[]))
noncomputable def o_90 (A : AT) : Params → Obj := (fun P => (Obj.mk (Value.type (t A 8)) none (Data.fields #[(Value.builtin (t A 13)), (Value.type (t A 5))]) #[]))
noncomputable def o_91 (A : AT) : Params → Obj := (fun P => (Obj.mk (Value.type (t A 0)) none (Data.dict #[(DictEntry.mk (PyData.keyHash P (s A 62)) (Value.str (s A 62) 237) (Value.str (s A 88) 194)), (DictEntry.mk (PyData.keyHash P (s A 87)) (Value.str (s A 87) 239) (Value.str (s A 14) 238)), (DictEntry.mk (PyData.keyHash P (s A 63)) (Value.str (s A 63) 241) (Value.int 9 240)), (DictEntry.mk (PyData.keyHash P (s A 65)) (Value.str (s A 65) 242) (Value.ref 54))] 4) #[]))
noncomputable def o_92 (A : AT) : Params → Obj := (fun P => (Obj.mk (Value.type (t A 2)) none (Data.seq #[] 0) #[]))
noncomputable def o_93 (A : AT) : Params → Obj := (fun P => (Obj.mk Value.none none (Data.fields #[]) #[]))
noncomputable def o_94 (A : AT) : Params → Obj := (fun P => (Obj.mk (Value.type (t A 4)) none (Data.fields #[(Value.str (s A 14) 232), (Value.str (s A 14) 233), (Value.str (s A 9) 234), (Value.int 9 0), (Value.int 0 0), (Value.int 0 0), (Value.int 0 0), (Value.int 0 0), (Value.ref 50), (Value.bool false), (Value.int 181 0), (Value.ref 51), Value.none, Value.none, Value.none, Value.none, (Value.int 235 0), (Value.int 9 0), (Value.str (s A 9) 236)]) #[]))
noncomputable def o_95 (A : AT) : Params → Obj := (fun P => (Obj.mk (Value.type (t A 15)) none Data.plain #[(some (Value.ref 52)), (some (Value.ref 3)), (some (Value.ref 49)), none, (some (Value.str (s A 88) 194)), none, (some (Value.ref 0))]))
noncomputable def o_96 (A : AT) : Params → Obj := (fun P => (Obj.mk (Value.type (t A 2)) none (Data.seq #[] 0) #[]))
noncomputable def o_97 (A : AT) : Params → Obj := (fun P => (Obj.mk (Value.type (t A 0)) none (Data.dict #[(DictEntry.mk (PyData.keyHash P (s A 62)) (Value.str (s A 62) 237) (Value.str (s A 88) 194)), (DictEntry.mk (PyData.keyHash P (s A 63)) (Value.str (s A 63) 241) (Value.int 9 240)), (DictEntry.mk (PyData.keyHash P (s A 65)) (Value.str (s A 65) 242) (Value.ref 54)), (DictEntry.mk (PyData.keyHash P (s A 2)) (Value.str (s A 2) 243) Value.none)] 2) #[]))
noncomputable def o_98 (A : AT) : Params → Obj := (fun P => (Obj.mk (Value.type (t A 5)) none (Data.cls (ClassData.mk (s A 14) [(Value.ref 31)] [(Value.ref 56), (Value.ref 31), (Value.type (t A 16)), (Value.type (t A 17)), (Value.type (t A 18)), (Value.type (t A 6))] 55 (s A 14) true [] [] false none false)) #[(some (Value.ref 47)), none, (some (Value.str (s A 14) 230)), (some (Value.str (s A 14) 238)), (some (Value.builtin (t A 19))), (some (Value.bool true))]))
noncomputable def o_99 (A : AT) : Params → Obj := (fun P => (Obj.mk (Value.type (t A 14)) none (Data.fields #[(Value.ref 56), (Value.ref 56), (Value.ref 56)]) #[]))
noncomputable def o_100 (A : AT) : Params → Obj := (fun P => (Obj.mk (Value.type (t A 8)) none (Data.fields #[(Value.builtin (t A 9)), (Value.ref 56)]) #[]))
noncomputable def o_101 (A : AT) : Params → Obj := (fun P => (Obj.mk (Value.type (t A 0)) none (Data.dict #[(DictEntry.mk (PyData.keyHash P (s A 0)) (Value.str (s A 0) 165) (Value.str (s A 60) 297)), (DictEntry.mk (PyData.keyHash P (s A 2)) (Value.str (s A 2) 166) Value.none), (DictEntry.mk (PyData.keyHash P (s A 3)) (Value.str (s A 3) 167) Value.none), (DictEntry.mk (PyData.keyHash P (s A 4)) (Value.str (s A 4) 168) (Value.builtin (t A 1))), (DictEntry.mk (PyData.keyHash P (s A 5)) (Value.str (s A 5) 169) Value.none), (DictEntry.mk (PyData.keyHash P (s A 6)) (Value.str (s A 6) 170) (Value.ref 6)), (DictEntry.mk (PyData.keyHash P (s A 7)) (Value.str (s A 7) 171) (Value.ref 4)), (DictEntry.mk (PyData.keyHash P (s A 8)) (Value.str (s A 8) 173) (Value.str (s A 9) 172)), (DictEntry.mk (PyData.keyHash P (s A 10)) (Value.str (s A 10) 174) Value.none), (DictEntry.mk (PyData.keyHash P (s A 11)) (Value.str (s A 11) 193) (Value.ref 21)), (DictEntry.mk (PyData.keyHash P (s A 12)) (Value.str (s A 12) 213) (Value.ref 31)), (DictEntry.mk (PyData.keyHash P (s A 13)) (Value.str (s A 13) 229) (Value.ref 44)), (DictEntry.mk (PyData.keyHash P (s A 14)) (Value.str (s A 14) 245) (Value.ref 56)), (DictEntry.mk (PyData.keyHash P (s A 15)) (Value.str (s A 15) 270) (Value.ref 76)), (DictEntry.mk (PyData.keyHash P (s A 16)) (Value.str (s A 16) 279) (Value.ref 85)), (DictEntry.mk (PyData.keyHash P (s A 17)) (Value.str (s A 17) 288) (Value.ref 92)), (DictEntry.mk (PyData.keyHash P (s A 18)) (Value.str (s A 18) 296) (Value.ref 99)), (DictEntry.mk (PyData.keyHash P (s A 19)) (Value.str (s A 19) 300) (Value.int 1440 299)), (DictEntry.mk (PyData.keyHash P (s A 20)) (Value.str (s A 20) 307) (Value.ref 106))] 19) #[]))
noncomputable def o_102 (A : AT) : Params → Obj := (fun P => (Obj.mk Value.none none (Data.fields #[(Value.int 1 0), (Value.int 0 0), (Value.ref 20), (Value.int 5 0), (Value.int 0 0), (Value.ref 27), (Value.int 7 0), (Value.int 0 0), (Value.ref 40), (Value.int 9 0), (Value.int 0 0), (Value.ref 52), (Value.int 11 0), (Value.int 0 0), (Value.ref 64), (Value.int 16 0), (Value.int 0 0), (Value.ref 84), (Value.int 18 0), (Value.int 0 0), (Value.ref 91), (Value.int 20 0), (Value.int 0 0), (Value.ref 98), (Value.int 24 0), (Value.int 0 0), (Value.ref 105)]) #[]))
noncomputable def o_103 (A : AT) : Params → Obj := (fun P => (Obj.mk (Value.type (t A 5)) none (Data.cls (ClassData.mk (s A 12) [(Value.type (t A 16))] [(Value.ref 31), (Value.type (t A 16)), (Value.type (t A 17)), (Value.type (t A 18)), (Value.type (t A 6))] 30 (s A 12) true [] [(Value.ref 44), (Value.ref 56), (Value.ref 76)] false none false)) #[(some (Value.ref 22)), none, (some (Value.str (s A 12) 196)), (some (Value.str (s A 12) 204)), (some (Value.builtin (t A 19))), (some (Value.bool true))]))
noncomputable def o_104 (A : AT) : Params → Obj := (fun P => (Obj.mk (Value.type (t A 2)) none (Data.seq #[(Value.ref 31)] 0) #[]))
noncomputable def o_105 (A : AT) : Params → Obj := (fun P => (Obj.mk (Value.type (t A 8)) none (Data.fields #[(Value.builtin (t A 13)), (Value.type (t A 5))]) #[]))
noncomputable def o_106 (A : AT) : Params → Obj := (fun P => (Obj.mk (Value.type (t A 0)) none (Data.dict #[(DictEntry.mk (PyData.keyHash P (s A 62)) (Value.str (s A 62) 253) (Value.str (s A 88) 194)), (DictEntry.mk (PyData.keyHash P (s A 87)) (Value.str (s A 87) 255) (Value.str (s A 15) 254)), (DictEntry.mk (PyData.keyHash P (s A 63)) (Value.str (s A 63) 257) (Value.int 11 256)), (DictEntry.mk (PyData.keyHash P (s A 64)) (Value.str (s A 64) 265) (Value.ref 73)), (DictEntry.mk (PyData.keyHash P (s A 65)) (Value.str (s A 65) 267) (Value.ref 74))] 5) #[]))
noncomputable def o_107 (A : AT) : Params → Obj := (fun P => (Obj.mk (Value.type (t A 2)) none (Data.seq #[] 0) #[]))
noncomputable def o_108 (A : AT) : Params → Obj := (fun P => (Obj.mk Value.none none (Data.fields #[(Value.int 13 0), (Value.int 4 0), (Value.ref 72)]) #[]))
noncomputable def o_109 (A : AT) : Params → Obj := (fun P => (Obj.mk (Value.type (t A 4)) none (Data.fields #[(Value.str (s A 15) 248), (Value.str (s A 15) 249), (Value.str (s A 9) 250), (Value.int 11 0), (Value.int 0 0), (Value.int 0 0), (Value.int 0 0), (Value.int 0 0), (Value.ref 62), (Value.bool false), (Value.int 181 0), (Value.ref 63), Value.none, Value.none, Value.none, Value.none, (Value.int 251 0), (Value.int 11 0), (Value.str (s A 9) 252)]) #[]))
noncomputable def o_110 (A : AT) : Params → Obj := (fun P => (Obj.mk (Value.type (t A 15)) none Data.plain #[(some (Value.ref 64)), (some (Value.ref 3)), (some (Value.ref 61)), none, (some (Value.str (s A 88) 194)), none, (some (Value.ref 0))]))
noncomputable def o_111 (A : AT) : Params → Obj := (fun P => (Obj.mk (Value.type (t A 2)) none (Data.seq #[Value.none] 0) #[]))
noncomputable def o_112 (A : AT) : Params → Obj := (fun P => (Obj.mk (Value.type (t A 2)) none (Data.seq #[] 0) #[]))
noncomputable def o_113 (A : AT) : Params → Obj := (fun P => (Obj.mk Value.none none (Data.fields #[]) #[]))
noncomputable def o_114 (A : AT) : Params → Obj := (fun P => (Obj.mk (Value.type (t A 2)) none (Data.seq #[(Value.str (s A 71) 261), (Value.str (s A 97) 262)] 0) #[]))
noncomputable def o_115 (A : AT) : Params → Obj := (fun P => (Obj.mk (Value.type (t A 2)) none (Data.seq #[] 0) #[]))
noncomputable def o_116 (A : AT) : Params → Obj := (fun P => (Obj.mk Value.none none (Data.func (FuncData.mk (s A 64) (s A 119) (defArgs (inClass (stm A 5) 0)) (FuncBody.stmts (defBody (inClass (stm A 5) 0))) (defScope (inClass (stm A 5) 0)) 0 [] Value.none Value.none Value.none Value.none none Value.none Value.none 0)) #[]))
noncomputable def o_117 (A : AT) : Params → Obj := (fun P => (Obj.mk (Value.type (t A 4)) none (Data.fields #[(Value.str (s A 64) 258), (Value.str (s A 119) 259), (Value.str (s A 9) 260), (Value.int 13 0), (Value.int 2 0), (Value.int 0 0), (Value.int 0 0), (Value.int 3 0), (Value.ref 67), (Value.bool true), (Value.int 181 0), (Value.ref 68), Value.none, (Value.ref 69), (Value.ref 70), (Value.ref 71), (Value.int 263 0), (Value.int 13 0), (Value.str (s A 9) 264)]) #[]))
noncomputable def o_118 (A : AT) : Params → Obj := (fun P => (Obj.mk (Value.type (t A 3)) none (Data.func (FuncData.mk (s A 64) (s A 119) (defArgs (inClass (stm A 5) 0)) (FuncBody.stmts (defBody (inClass (stm A 5) 0))) (defScope (inClass (stm A 5) 0)) 3 [] (Value.ref 66) Value.none Value.none (Value.str (s A 88) 194) none (Value.ref 72) Value.none 0)) #[]))
noncomputable def o_119 (A : AT) : Params → Obj := (fun P => (Obj.mk (Value.type (t A 2)) none (Data.seq #[(Value.str (s A 97) 266)] 0) #[]))
noncomputable def o_120 (A : AT) : Params → Obj := (fun P => (Obj.mk (Value.type (t A 0)) none (Data.dict #[(DictEntry.mk (PyData.keyHash P (s A 62)) (Value.str (s A 62) 253) (Value.str (s A 88) 194)), (DictEntry.mk (PyData.keyHash P (s A 63)) (Value.str (s A 63) 257) (Value.int 11 256)), (DictEntry.mk (PyData.keyHash P (s A 64)) (Value.str (s A 64) 265) (Value.ref 73)), (DictEntry.mk (PyData.keyHash P (s A 65)) (Value.str (s A 65) 267) (Value.ref 74)), (DictEntry.mk (PyData.keyHash P (s A 2)) (Value.str (s A 2) 268) Value.none)] 2) #[]))
noncomputable def o_121 (A : AT) : Params → Obj := (fun P => (Obj.mk (Value.type (t A 5)) none (Data.cls (ClassData.mk (s A 15) [(Value.ref 31)] [(Value.ref 76), (Value.ref 31), (Value.type (t A 16)), (Value.type (t A 17)), (Value.type (t A 18)), (Value.type (t A 6))] 75 (s A 15) true [] [] false none false)) #[(some (Value.ref 59)), none, (some (Value.str (s A 15) 246)), (some (Value.str (s A 15) 254)), (some (Value.builtin (t A 19))), (some (Value.bool true))]))
noncomputable def o_122 (A : AT) : Params → Obj := (fun P => (Obj.mk (Value.type (t A 14)) none (Data.fields #[(Value.ref 76), (Value.ref 76), (Value.ref 76)]) #[]))
noncomputable def o_123 (A : AT) : Params → Obj := (fun P => (Obj.mk (Value.type (t A 8)) none (Data.fields #[(Value.builtin (t A 9)), (Value.ref 76)]) #[]))
noncomputable def o_124 (A : AT) : Params → Obj := (fun P => (Obj.mk (Value.type (t A 2)) none (Data.seq #[] 0) #[]))
noncomputable def o_125 (A : AT) : Params → Obj := (fun P => (Obj.mk Value.none none (Data.fields #[]) #[]))
noncomputable def o_126 (A : AT) : Params → Obj := (fun P => (Obj.mk (Value.type (t A 2)) none (Data.seq #[(Value.str (s A 50) 276)] 0) #[]))
noncomputable def o_127 (A : AT) : Params → Obj := (fun P => (Obj.mk (Value.type (t A 2)) none (Data.seq #[] 0) #[]))
noncomputable def o_128 (A : AT) : Params → Obj := (fun P => (Obj.mk Value.none none (Data.func (FuncData.mk (s A 16) (s A 16) (defArgs (stm A 7)) (FuncBody.stmts (defBody (stm A 7))) (defScope (stm A 7)) 0 [] Value.none Value.none Value.none Value.none none Value.none Value.none 0)) #[]))
noncomputable def o_129 (A : AT) : Params → Obj := (fun P => (Obj.mk (Value.type (t A 4)) none (Data.fields #[(Value.str (s A 16) 273), (Value.str (s A 16) 274), (Value.str (s A 9) 275), (Value.int 16 0), (Value.int 1 0), (Value.int 0 0), (Value.int 0 0), (Value.int 3 0), (Value.ref 79), (Value.bool true), (Value.int 181 0), (Value.ref 80), Value.none, (Value.ref 81), (Value.ref 82), (Value.ref 83), (Value.int 277 0), (Value.int 16 0), (Value.str (s A 9) 278)]) #[]))
noncomputable def o_130 (A : AT) : Params → Obj := (fun P => (Obj.mk (Value.type (t A 3)) none (Data.func (FuncData.mk (s A 16) (s A 16) (defArgs (stm A 7)) (FuncBody.stmts (defBody (stm A 7))) (defScope (stm A 7)) 3 [] Value.none Value.none Value.none (Value.str (s A 114) 271) none (Value.ref 84) Value.none 0)) #[]))
noncomputable def o_131 (A : AT) : Params → Obj := (fun P => (Obj.mk (Value.type (t A 2)) none (Data.seq #[] 0) #[]))
noncomputable def o_132 (A : AT) : Params → Obj := (fun P => (Obj.mk Value.none none (Data.fields #[]) #[]))
noncomputable def o_133 (A : AT) : Params → Obj := (fun P => (Obj.mk (Value.type (t A 2)) none (Data.seq #[(Value.str (s A 50) 283), (Value.str (s A 96) 284), (Value.str (s A 118) 285)] 0) #[]))
noncomputable def o_134 (A : AT) : Params → Obj := (fun P => (Obj.mk (Value.type (t A 2)) none (Data.seq #[] 0) #[]))
noncomputable def o_135 (A : AT) : Params → Obj := (fun P => (Obj.mk Value.none none (Data.func (FuncData.mk (s A 17) (s A 17) (defArgs (stm A 8)) (FuncBody.stmts (defBody (stm A 8))) (defScope (stm A 8)) 0 [] Value.none Value.none Value.none Value.none none Value.none Value.none 0)) #[]))
noncomputable def o_136 (A : AT) : Params → Obj := (fun P => (Obj.mk (Value.type (t A 4)) none (Data.fields #[(Value.str (s A 17) 280), (Value.str (s A 17) 281), (Value.str (s A 9) 282), (Value.int 18 0), (Value.int 3 0), (Value.int 0 0), (Value.int 0 0), (Value.int 3 0), (Value.ref 86), (Value.bool true), (Value.int 181 0), (Value.ref 87), Value.none, (Value.ref 88), (Value.ref 89), (Value.ref 90), (Value.int 286 0), (Value.int 18 0), (Value.str (s A 9) 287)]) #[]))
noncomputable def o_137 (A : AT) : Params → Obj := (fun P => (Obj.mk (Value.type (t A 3)) none (Data.func (FuncData.mk (s A 17) (s A 17) (defArgs (stm A 8)) (FuncBody.stmts (defBody (stm A 8))) (defScope (stm A 8)) 3 [] Value.none Value.none Value.none (Value.str (s A 114) 271) none (Value.ref 91) Value.none 0)) #[]))
noncomputable def o_138 (A : AT) : Params → Obj := (fun P => (Obj.mk (Value.type (t A 2)) none (Data.seq #[] 0) #[]))
noncomputable def o_139 (A : AT) : Params → Obj := (fun P => (Obj.mk Value.none none (Data.fields #[]) #[]))
noncomputable def o_140 (A : AT) : Params → Obj := (fun P => (Obj.mk (Value.type (t A 2)) none (Data.seq #[(Value.str (s A 50) 292), (Value.str (s A 96) 293)] 0) #[]))
noncomputable def o_141 (A : AT) : Params → Obj := (fun P => (Obj.mk (Value.type (t A 2)) none (Data.seq #[] 0) #[]))
noncomputable def o_142 (A : AT) : Params → Obj := (fun P => (Obj.mk Value.none none (Data.func (FuncData.mk (s A 18) (s A 18) (defArgs (stm A 9)) (FuncBody.stmts (defBody (stm A 9))) (defScope (stm A 9)) 0 [] Value.none Value.none Value.none Value.none none Value.none Value.none 0)) #[]))
noncomputable def o_143 (A : AT) : Params → Obj := (fun P => (Obj.mk (Value.type (t A 4)) none (Data.fields #[(Value.str (s A 18) 289), (Value.str (s A 18) 290), (Value.str (s A 9) 291), (Value.int 20 0), (Value.int 2 0), (Value.int 0 0), (Value.int 0 0), (Value.int 3 0), (Value.ref 93), (Value.bool true), (Value.int 181 0), (Value.ref 94), Value.none, (Value.ref 95), (Value.ref 96), (Value.ref 97), (Value.int 294 0), (Value.int 20 0), (Value.str (s A 9) 295)]) #[]))
noncomputable def o_144 (A : AT) : Params → Obj := (fun P => (Obj.mk (Value.type (t A 3)) none (Data.func (FuncData.mk (s A 18) (s A 18) (defArgs (stm A 9)) (FuncBody.stmts (defBody (stm A 9))) (defScope (stm A 9)) 3 [] Value.none Value.none Value.none (Value.str (s A 114) 271) none (Value.ref 98) Value.none 0)) #[]))
noncomputable def o_145 (A : AT) : Params → Obj := (fun P => (Obj.mk (Value.type (t A 2)) none (Data.seq #[] 0) #[]))
noncomputable def o_146 (A : AT) : Params → Obj := (fun P => (Obj.mk Value.none none (Data.fields #[]) #[]))
noncomputable def o_147 (A : AT) : Params → Obj := (fun P => (Obj.mk (Value.type (t A 2)) none (Data.seq #[(Value.str (s A 50) 304)] 0) #[]))
noncomputable def o_148 (A : AT) : Params → Obj := (fun P => (Obj.mk (Value.type (t A 2)) none (Data.seq #[] 0) #[]))
noncomputable def o_149 (A : AT) : Params → Obj := (fun P => (Obj.mk Value.none none (Data.func (FuncData.mk (s A 20) (s A 20) (defArgs (stm A 12)) (FuncBody.stmts (defBody (stm A 12))) (defScope (stm A 12)) 0 [] Value.none Value.none Value.none Value.none none Value.none Value.none 0)) #[]))
noncomputable def o_150 (A : AT) : Params → Obj := (fun P => (Obj.mk (Value.type (t A 4)) none (Data.fields #[(Value.str (s A 20) 301), (Value.str (s A 20) 302), (Value.str (s A 9) 303), (Value.int 24 0), (Value.int 1 0), (Value.int 0 0), (Value.int 0 0), (Value.int 3 0), (Value.ref 100), (Value.bool true), (Value.int 181 0), (Value.ref 101), Value.none, (Value.ref 102), (Value.ref 103), (Value.ref 104), (Value.int 305 0), (Value.int 24 0), (Value.str (s A 9) 306)]) #[]))
noncomputable def o_151 (A : AT) : Params → Obj := (fun P => (Obj.mk (Value.type (t A 3)) none (Data.func (FuncData.mk (s A 20) (s A 20) (defArgs (stm A 12)) (FuncBody.stmts (defBody (stm A 12))) (defScope (stm A 12)) 3 [] Value.none Value.none Value.none (Value.str (s A 60) 297) none (Value.ref 105) Value.none 0)) #[]))
noncomputable def o_152 (A : AT) : Params → Obj := (fun P => (Obj.mk (Value.type (t A 0)) none (Data.dict #[(DictEntry.mk (PyData.keyHash P (s A 0)) (Value.str (s A 0) 165) (Value.str (s A 1) 387)), (DictEntry.mk (PyData.keyHash P (s A 2)) (Value.str (s A 2) 166) Value.none), (DictEntry.mk (PyData.keyHash P (s A 3)) (Value.str (s A 3) 167) Value.none), (DictEntry.mk (PyData.keyHash P (s A 4)) (Value.str (s A 4) 168) (Value.builtin (t A 1))), (DictEntry.mk (PyData.keyHash P (s A 5)) (Value.str (s A 5) 169) Value.none), (DictEntry.mk (PyData.keyHash P (s A 6)) (Value.str (s A 6) 170) (Value.ref 6)), (DictEntry.mk (PyData.keyHash P (s A 7)) (Value.str (s A 7) 171) (Value.ref 4)), (DictEntry.mk (PyData.keyHash P (s A 8)) (Value.str (s A 8) 173) (Value.str (s A 9) 172)), (DictEntry.mk (PyData.keyHash P (s A 10)) (Value.str (s A 10) 174) Value.none), (DictEntry.mk (PyData.keyHash P (s A 11)) (Value.str (s A 11) 193) (Value.ref 21)), (DictEntry.mk (PyData.keyHash P (s A 12)) (Value.str (s A 12) 213) (Value.ref 31)), (DictEntry.mk (PyData.keyHash P (s A 13)) (Value.str (s A 13) 229) (Value.ref 44)), (DictEntry.mk (PyData.keyHash P (s A 14)) (Value.str (s A 14) 245) (Value.ref 56)), (DictEntry.mk (PyData.keyHash P (s A 15)) (Value.str (s A 15) 270) (Value.ref 76)), (DictEntry.mk (PyData.keyHash P (s A 16)) (Value.str (s A 16) 279) (Value.ref 85)), (DictEntry.mk (PyData.keyHash P (s A 17)) (Value.str (s A 17) 288) (Value.ref 92)), (DictEntry.mk (PyData.keyHash P (s A 18)) (Value.str (s A 18) 296) (Value.ref 99)), (DictEntry.mk (PyData.keyHash P (s A 19)) (Value.str (s A 19) 300) (Value.int 1440 299)), (DictEntry.mk (PyData.keyHash P (s A 20)) (Value.str (s A 20) 307) (Value.ref 106)), (DictEntry.mk (PyData.keyHash P (s A 21)) (Value.str (s A 21) 314) (Value.ref 113)), (DictEntry.mk (PyData.keyHash P (s A 22)) (Value.str (s A 22) 321) (Value.ref 120)), (DictEntry.mk (PyData.keyHash P (s A 23)) (Value.str (s A 23) 328) (Value.ref 127)), (DictEntry.mk (PyData.keyHash P (s A 24)) (Value.str (s A 24) 335) (Value.ref 134)), (DictEntry.mk (PyData.keyHash P (s A 25)) (Value.str (s A 25) 344) (Value.ref 141)), (DictEntry.mk (PyData.keyHash P (s A 26)) (Value.str (s A 26) 356) (Value.ref 148)), (DictEntry.mk (PyData.keyHash P (s A 27)) (Value.str (s A 27) 365) (Value.ref 155)), (DictEntry.mk (PyData.keyHash P (s A 28)) (Value.str (s A 28) 374) (Value.ref 162)), (DictEntry.mk (PyData.keyHash P (s A 29)) (Value.str (s A 29) 378) (Value.str (s A 30) 377)), (DictEntry.mk (PyData.keyHash P (s A 31)) (Value.str (s A 31) 380) (Value.int 8 379)), (DictEntry.mk (PyData.keyHash P (s A 32)) (Value.str (s A 32) 386) (Value.ref 167))] 30) #[]))
noncomputable def o_153 (A : AT) : Params → Obj := (fun P => (Obj.mk Value.none none (Data.fields #[(Value.int 1 0), (Value.int 0 0), (Value.ref 20), (Value.int 5 0), (Value.int 0 0), (Value.ref 27), (Value.int 7 0), (Value.int 0 0), (Value.ref 40), (Value.int 9 0), (Value.int 0 0), (Value.ref 52), (Value.int 11 0), (Value.int 0 0), (Value.ref 64), (Value.int 16 0), (Value.int 0 0), (Value.ref 84), (Value.int 18 0), (Value.int 0 0), (Value.ref 91), (Value.int 20 0), (Value.int 0 0), (Value.ref 98), (Value.int 24 0), (Value.int 0 0), (Value.ref 105), (Value.int 26 0), (Value.int 0 0), (Value.ref 112), (Value.int 32 0), (Value.int 0 0), (Value.ref 119), (Value.int 35 0), (Value.int 0 0), (Value.ref 126), (Value.int 38 0), (Value.int 0 0), (Value.ref 133), (Value.int 41 0), (Value.int 0 0), (Value.ref 140), (Value.int 45 0), (Value.int 0 0), (Value.ref 147), (Value.int 55 0), (Value.int 0 0), (Value.ref 154), (Value.int 59 0), (Value.int 0 0), (Value.ref 161), (Value.int 66 0), (Value.int 0 0), (Value.ref 166)]) #[]))
noncomputable def o_154 (A : AT) : Params → Obj := (fun P => (Obj.mk (Value.type (t A 2)) none (Data.seq #[] 0) #[]))
noncomputable def o_155 (A : AT) : Params → Obj := (fun P => (Obj.mk Value.none none (Data.fields #[]) #[]))
noncomputable def o_156 (A : AT) : Params → Obj := (fun P => (Obj.mk (Value.type (t A 2)) none (Data.seq #[(Value.str (s A 50) 311)] 0) #[]))
noncomputable def o_157 (A : AT) : Params → Obj := (fun P => (Obj.mk (Value.type (t A 2)) none (Data.seq #[] 0) #[]))
noncomputable def o_158 (A : AT) : Params → Obj := (fun P => (Obj.mk Value.none none (Data.func (FuncData.mk (s A 21) (s A 21) (defArgs (stm A 13)) (FuncBody.stmts (defBody (stm A 13))) (defScope (stm A 13)) 0 [] Value.none Value.none Value.none Value.none none Value.none Value.none 0)) #[]))
noncomputable def o_159 (A : AT) : Params → Obj := (fun P => (Obj.mk (Value.type (t A 4)) none (Data.fields #[(Value.str (s A 21) 308), (Value.str (s A 21) 309), (Value.str (s A 9) 310), (Value.int 26 0), (Value.int 1 0), (Value.int 0 0), (Value.int 0 0), (Value.int 3 0), (Value.ref 107), (Value.bool true), (Value.int 181 0), (Value.ref 108), Value.none, (Value.ref 109), (Value.ref 110), (Value.ref 111), (Value.int 312 0), (Value.int 26 0), (Value.str (s A 9) 313)]) #[]))
noncomputable def o_160 (A : AT) : Params → Obj := (fun P => (Obj.mk (Value.type (t A 3)) none (Data.func (FuncData.mk (s A 21) (s A 21) (defArgs (stm A 13)) (FuncBody.stmts (defBody (stm A 13))) (defScope (stm A 13)) 3 [] Value.none Value.none Value.none (Value.str (s A 60) 297) none (Value.ref 112) Value.none 0)) #[]))
noncomputable def o_161 (A : AT) : Params → Obj := (fun P => (Obj.mk (Value.type (t A 2)) none (Data.seq #[] 0) #[]))
noncomputable def o_162 (A : AT) : Params → Obj := (fun P => (Obj.mk Value.none none (Data.fields #[]) #[]))
noncomputable def o_163 (A : AT) : Params → Obj := (fun P => (Obj.mk (Value.type (t A 2)) none (Data.seq #[(Value.str (s A 58) 318)] 0) #[]))
noncomputable def o_164 (A : AT) : Params → Obj := (fun P => (Obj.mk (Value.type (t A 2)) none (Data.seq #[] 0) #[]))
noncomputable def o_165 (A : AT) : Params → Obj := (fun P => (Obj.mk Value.none none (Data.func (FuncData.mk (s A 22) (s A 22) (defArgs (stm A 14)) (FuncBody.stmts (defBody (stm A 14))) (defScope (stm A 14)) 0 [] Value.none Value.none Value.none Value.none none Value.none Value.none 0)) #[]))
noncomputable def o_166 (A : AT) : Params → Obj := (fun P => (Obj.mk (Value.type (t A 4)) none (Data.fields #[(Value.str (s A 22) 315), (Value.str (s A 22) 316), (Value.str (s A 9) 317), (Value.int 32 0), (Value.int 1 0), (Value.int 0 0), (Value.int 0 0), (Value.int 3 0), (Value.ref 114), (Value.bool true), (Value.int 181 0), (Value.ref 115), Value.none, (Value.ref 116), (Value.ref 117), (Value.ref 118), (Value.int 319 0), (Value.int 32 0), (Value.str (s A 9) 320)]) #[]))
noncomputable def o_167 (A : AT) : Params → Obj := (fun P => (Obj.mk (Value.type (t A 3)) none (Data.func (FuncData.mk (s A 22) (s A 22) (defArgs (stm A 14)) (FuncBody.stmts (defBody (stm A 14))) (defScope (stm A 14)) 3 [] Value.none Value.none Value.none (Value.str (s A 60) 297) none (Value.ref 119) Value.none 0)) #[]))
noncomputable def o_168 (A : AT) : Params → Obj := (fun P => (Obj.mk (Value.type (t A 2)) none (Data.seq #[] 0) #[]))
noncomputable def o_169 (A : AT) : Params → Obj := (fun P => (Obj.mk Value.none none (Data.fields #[]) #[]))
noncomputable def o_170 (A : AT) : Params → Obj := (fun P => (Obj.mk (Value.type (t A 2)) none (Data.seq #[(Value.str (s A 72) 325)] 0) #[]))
noncomputable def o_171 (A : AT) : Params → Obj := (fun P => (Obj.mk (Value.type (t A 2)) none (Data.seq #[] 0) #[]))
noncomputable def o_172 (A : AT) : Params → Obj := (fun P => (Obj.mk Value.none none (Data.func (FuncData.mk (s A 23) (s A 23) (defArgs (stm A 15)) (FuncBody.stmts (defBody (stm A 15))) (defScope (stm A 15)) 0 [] Value.none Value.none Value.none Value.none none Value.none Value.none 0)) #[]))
noncomputable def o_173 (A : AT) : Params → Obj := (fun P => (Obj.mk (Value.type (t A 4)) none (Data.fields #[(Value.str (s A 23) 322), (Value.str (s A 23) 323), (Value.str (s A 9) 324), (Value.int 35 0), (Value.int 1 0), (Value.int 0 0), (Value.int 0 0), (Value.int 3 0), (Value.ref 121), (Value.bool true), (Value.int 181 0), (Value.ref 122), Value.none, (Value.ref 123), (Value.ref 124), (Value.ref 125), (Value.int 326 0), (Value.int 35 0), (Value.str (s A 9) 327)]) #[]))
noncomputable def o_174 (A : AT) : Params → Obj := (fun P => (Obj.mk (Value.type (t A 3)) none (Data.func (FuncData.mk (s A 23) (s A 23) (defArgs (stm A 15)) (FuncBody.stmts (defBody (stm A 15))) (defScope (stm A 15)) 3 [] Value.none Value.none Value.none (Value.str (s A 60) 297) none (Value.ref 126) Value.none 0)) #[]))
noncomputable def o_175 (A : AT) : Params → Obj := (fun P => (Obj.mk (Value.type (t A 2)) none (Data.seq #[] 0) #[]))
noncomputable def o_176 (A : AT) : Params → Obj := (fun P => (Obj.mk Value.none none (Data.fields #[]) #[]))
noncomputable def o_177 (A : AT) : Params → Obj := (fun P => (Obj.mk (Value.type (t A 2)) none (Data.seq #[(Value.str (s A 109) 332)] 0) #[]))
noncomputable def o_178 (A : AT) : Params → Obj := (fun P => (Obj.mk (Value.type (t A 2)) none (Data.seq #[] 0) #[]))
noncomputable def o_179 (A : AT) : Params → Obj := (fun P => (Obj.mk Value.none none (Data.func (FuncData.mk (s A 24) (s A 24) (defArgs (stm A 16)) (FuncBody.stmts (defBody (stm A 16))) (defScope (stm A 16)) 0 [] Value.none Value.none Value.none Value.none none Value.none Value.none 0)) #[]))
noncomputable def o_180 (A : AT) : Params → Obj := (fun P => (Obj.mk (Value.type (t A 4)) none (Data.fields #[(Value.str (s A 24) 329), (Value.str (s A 24) 330), (Value.str (s A 9) 331), (Value.int 38 0), (Value.int 1 0), (Value.int 0 0), (Value.int 0 0), (Value.int 3 0), (Value.ref 128), (Value.bool true), (Value.int 181 0), (Value.ref 129), Value.none, (Value.ref 130), (Value.ref 131), (Value.ref 132), (Value.int 333 0), (Value.int 38 0), (Value.str (s A 9) 334)]) #[]))
noncomputable def o_181 (A : AT) : Params → Obj := (fun P => (Obj.mk (Value.type (t A 3)) none (Data.func (FuncData.mk (s A 24) (s A 24) (defArgs (stm A 16)) (FuncBody.stmts (defBody (stm A 16))) (defScope (stm A 16)) 3 [] Value.none Value.none Value.none (Value.str (s A 60) 297) none (Value.ref 133) Value.none 0)) #[]))
noncomputable def o_182 (A : AT) : Params → Obj := (fun P => (Obj.mk (Value.type (t A 2)) none (Data.seq #[] 0) #[]))
noncomputable def o_183 (A : AT) : Params → Obj := (fun P => (Obj.mk Value.none none (Data.fields #[]) #[]))
noncomputable def o_184 (A : AT) : Params → Obj := (fun P => (Obj.mk (Value.type (t A 2)) none (Data.seq #[(Value.str (s A 57) 339), (Value.str (s A 58) 340), (Value.str (s A 59) 341)] 0) #[]))
noncomputable def o_185 (A : AT) : Params → Obj := (fun P => (Obj.mk (Value.type (t A 2)) none (Data.seq #[] 0) #[]))
noncomputable def o_186 (A : AT) : Params → Obj := (fun P => (Obj.mk Value.none none (Data.func (FuncData.mk (s A 25) (s A 25) (defArgs (stm A 17)) (FuncBody.stmts (defBody (stm A 17))) (defScope (stm A 17)) 0 [] Value.none Value.none Value.none Value.none none Value.none Value.none 0)) #[]))
noncomputable def o_187 (A : AT) : Params → Obj := (fun P => (Obj.mk (Value.type (t A 4)) none (Data.fields #[(Value.str (s A 25) 336), (Value.str (s A 25) 337), (Value.str (s A 9) 338), (Value.int 41 0), (Value.int 2 0), (Value.int 0 0), (Value.int 0 0), (Value.int 3 0), (Value.ref 135), (Value.bool true), (Value.int 181 0), (Value.ref 136), Value.none, (Value.ref 137), (Value.ref 138), (Value.ref 139), (Value.int 342 0), (Value.int 41 0), (Value.str (s A 9) 343)]) #[]))
noncomputable def o_188 (A : AT) : Params → Obj := (fun P => (Obj.mk (Value.type (t A 3)) none (Data.func (FuncData.mk (s A 25) (s A 25) (defArgs (stm A 17)) (FuncBody.stmts (defBody (stm A 17))) (defScope (stm A 17)) 3 [] Value.none Value.none Value.none (Value.str (s A 60) 297) none (Value.ref 140) Value.none 0)) #[]))
noncomputable def o_189 (A : AT) : Params → Obj := (fun P => (Obj.mk (Value.type (t A 2)) none (Data.seq #[] 0) #[]))
noncomputable def o_190 (A : AT) : Params → Obj := (fun P => (Obj.mk Value.none none (Data.fields #[]) #[]))
noncomputable def o_191 (A : AT) : Params → Obj := (fun P => (Obj.mk (Value.type (t A 2)) none (Data.seq #[(Value.str (s A 72) 348), (Value.str (s A 58) 349), (Value.str (s A 57) 350), (Value.str (s A 109) 351), (Value.str (s A 133) 352), (Value.str (s A 134) 353)] 0) #[]))
noncomputable def o_192 (A : AT) : Params → Obj := (fun P => (Obj.mk (Value.type (t A 2)) none (Data.seq #[] 0) #[]))
noncomputable def o_193 (A : AT) : Params → Obj := (fun P => (Obj.mk Value.none none (Data.func (FuncData.mk (s A 26) (s A 26) (defArgs (stm A 18)) (FuncBody.stmts (defBody (stm A 18))) (defScope (stm A 18)) 0 [] Value.none Value.none Value.none Value.none none Value.none Value.none 0)) #[]))
noncomputable def o_194 (A : AT) : Params → Obj := (fun P => (Obj.mk (Value.type (t A 4)) none (Data.fields #[(Value.str (s A 26) 345), (Value.str (s A 26) 346), (Value.str (s A 9) 347), (Value.int 45 0), (Value.int 3 0), (Value.int 0 0), (Value.int 0 0), (Value.int 3 0), (Value.ref 142), (Value.bool true), (Value.int 181 0), (Value.ref 143), Value.none, (Value.ref 144), (Value.ref 145), (Value.ref 146), (Value.int 354 0), (Value.int 45 0), (Value.str (s A 9) 355)]) #[]))
noncomputable def o_195 (A : AT) : Params → Obj := (fun P => (Obj.mk (Value.type (t A 3)) none (Data.func (FuncData.mk (s A 26) (s A 26) (defArgs (stm A 18)) (FuncBody.stmts (defBody (stm A 18))) (defScope (stm A 18)) 3 [] Value.none Value.none Value.none (Value.str (s A 60) 297) none (Value.ref 147) Value.none 0)) #[]))
noncomputable def o_196 (A : AT) : Params → Obj := (fun P => (Obj.mk (Value.type (t A 2)) none (Data.seq #[] 0) #[]))
noncomputable def o_197 (A : AT) : Params → Obj := (fun P => (Obj.mk Value.none none (Data.fields #[]) #[]))
noncomputable def o_198 (A : AT) : Params → Obj := (fun P => (Obj.mk (Value.type (t A 2)) none (Data.seq #[(Value.str (s A 72) 360), (Value.str (s A 58) 361), (Value.str (s A 57) 362)] 0) #[]))
noncomputable def o_199 (A : AT) : Params → Obj := (fun P => (Obj.mk (Value.type (t A 2)) none (Data.seq #[] 0) #[]))
noncomputable def o_200 (A : AT) : Params → Obj := (fun P => (Obj.mk Value.none none (Data.func (FuncData.mk (s A 27) (s A 27) (defArgs (stm A 19)) (FuncBody.stmts (defBody (stm A 19))) (defScope (stm A 19)) 0 [] Value.none Value.none Value.none Value.none none Value.none Value.none 0)) #[]))
noncomputable def o_201 (A : AT) : Params → Obj := (fun P => (Obj.mk (Value.type (t A 4)) none (Data.fields #[(Value.str (s A 27) 357), (Value.str (s A 27) 358), (Value.str (s A 9) 359), (Value.int 55 0), (Value.int 3 0), (Value.int 0 0), (Value.int 0 0), (Value.int 3 0), (Value.ref 149), (Value.bool true), (Value.int 181 0), (Value.ref 150), Value.none, (Value.ref 151), (Value.ref 152), (Value.ref 153), (Value.int 363 0), (Value.int 55 0), (Value.str (s A 9) 364)]) #[]))
noncomputable def o_202 (A : AT) : Params → Obj := (fun P => (Obj.mk (Value.type (t A 3)) none (Data.func (FuncData.mk (s A 27) (s A 27) (defArgs (stm A 19)) (FuncBody.stmts (defBody (stm A 19))) (defScope (stm A 19)) 3 [] Value.none Value.none Value.none (Value.str (s A 60) 297) none (Value.ref 154) Value.none 0)) #[]))
noncomputable def o_203 (A : AT) : Params → Obj := (fun P => (Obj.mk (Value.type (t A 2)) none (Data.seq #[] 0) #[]))
noncomputable def o_204 (A : AT) : Params → Obj := (fun P => (Obj.mk Value.none none (Data.fields #[]) #[]))
noncomputable def o_205 (A : AT) : Params → Obj := (fun P => (Obj.mk (Value.type (t A 2)) none (Data.seq #[(Value.str (s A 109) 369), (Value.str (s A 58) 370), (Value.str (s A 57) 371)] 0) #[]))
noncomputable def o_206 (A : AT) : Params → Obj := (fun P => (Obj.mk (Value.type (t A 2)) none (Data.seq #[] 0) #[]))
noncomputable def o_207 (A : AT) : Params → Obj := (fun P => (Obj.mk Value.none none (Data.func (FuncData.mk (s A 28) (s A 28) (defArgs (stm A 20)) (FuncBody.stmts (defBody (stm A 20))) (defScope (stm A 20)) 0 [] Value.none Value.none Value.none Value.none none Value.none Value.none 0)) #[]))
noncomputable def o_208 (A : AT) : Params → Obj := (fun P => (Obj.mk (Value.type (t A 4)) none (Data.fields #[(Value.str (s A 28) 366), (Value.str (s A 28) 367), (Value.str (s A 9) 368), (Value.int 59 0), (Value.int 3 0), (Value.int 0 0), (Value.int 0 0), (Value.int 3 0), (Value.ref 156), (Value.bool true), (Value.int 181 0), (Value.ref 157), Value.none, (Value.ref 158), (Value.ref 159), (Value.ref 160), (Value.int 372 0), (Value.int 59 0), (Value.str (s A 9) 373)]) #[]))
noncomputable def o_209 (A : AT) : Params → Obj := (fun P => (Obj.mk (Value.type (t A 3)) none (Data.func (FuncData.mk (s A 28) (s A 28) (defArgs (stm A 20)) (FuncBody.stmts (defBody (stm A 20))) (defScope (stm A 20)) 3 [] Value.none Value.none Value.none (Value.str (s A 60) 297) none (Value.ref 161) Value.none 0)) #[]))
noncomputable def o_210 (A : AT) : Params → Obj := (fun P => (Obj.mk (Value.type (t A 2)) none (Data.seq #[] 0) #[]))
noncomputable def o_211 (A : AT) : Params → Obj := (fun P => (Obj.mk Value.none none (Data.fields #[]) #[]))
noncomputable def o_212 (A : AT) : Params → Obj := (fun P => (Obj.mk Value.none none (Data.func (FuncData.mk (s A 32) (s A 32) (defArgs (stm A 24)) (FuncBody.stmts (defBody (stm A 24))) (defScope (stm A 24)) 0 [] Value.none Value.none Value.none Value.none none Value.none Value.none 0)) #[]))
noncomputable def o_213 (A : AT) : Params → Obj := (fun P => (Obj.mk (Value.type (t A 4)) none (Data.fields #[(Value.str (s A 32) 381), (Value.str (s A 32) 382), (Value.str (s A 9) 383), (Value.int 66 0), (Value.int 1 0), (Value.int 0 0), (Value.int 0 0), (Value.int 3 0), (Value.ref 163), (Value.bool true), (Value.int 181 0), (Value.ref 164), Value.none, Value.none, Value.none, (Value.ref 165), (Value.int 384 0), (Value.int 66 0), (Value.str (s A 9) 385)]) #[]))
noncomputable def o_214 (A : AT) : Params → Obj := (fun P => (Obj.mk (Value.type (t A 3)) none (Data.func (FuncData.mk (s A 32) (s A 32) (defArgs (stm A 24)) (FuncBody.stmts (defBody (stm A 24))) (defScope (stm A 24)) 3 [] Value.none Value.none Value.none (Value.str (s A 111) 375) none (Value.ref 166) Value.none 0)) #[]))
noncomputable def o_215 (A : AT) : Params → Obj := (fun P => (Obj.mk (Value.type (t A 0)) none (Data.dict #[(DictEntry.mk (PyData.keyHash P (s A 0)) (Value.str (s A 0) 165) (Value.str (s A 89) 465)), (DictEntry.mk (PyData.keyHash P (s A 2)) (Value.str (s A 2) 166) Value.none), (DictEntry.mk (PyData.keyHash P (s A 3)) (Value.str (s A 3) 167) Value.none), (DictEntry.mk (PyData.keyHash P (s A 4)) (Value.str (s A 4) 168) (Value.builtin (t A 1))), (DictEntry.mk (PyData.keyHash P (s A 5)) (Value.str (s A 5) 169) Value.none), (DictEntry.mk (PyData.keyHash P (s A 6)) (Value.str (s A 6) 170) (Value.ref 6)), (DictEntry.mk (PyData.keyHash P (s A 7)) (Value.str (s A 7) 171) (Value.ref 4)), (DictEntry.mk (PyData.keyHash P (s A 8)) (Value.str (s A 8) 173) (Value.str (s A 9) 172)), (DictEntry.mk (PyData.keyHash P (s A 10)) (Value.str (s A 10) 174) Value.none), (DictEntry.mk (PyData.keyHash P (s A 11)) (Value.str (s A 11) 193) (Value.ref 21)), (DictEntry.mk (PyData.keyHash P (s A 12)) (Value.str (s A 12) 213) (Value.ref 31)), (DictEntry.mk (PyData.keyHash P (s A 13)) (Value.str (s A 13) 229) (Value.ref 44)), (DictEntry.mk (PyData.keyHash P (s A 14)) (Value.str (s A 14) 245) (Value.ref 56)), (DictEntry.mk (PyData.keyHash P (s A 15)) (Value.str (s A 15) 270) (Value.ref 76)), (DictEntry.mk (PyData.keyHash P (s A 16)) (Value.str (s A 16) 279) (Value.ref 85)), (DictEntry.mk (PyData.keyHash P (s A 17)) (Value.str (s A 17) 288) (Value.ref 92)), (DictEntry.mk (PyData.keyHash P (s A 18)) (Value.str (s A 18) 296) (Value.ref 99)), (DictEntry.mk (PyData.keyHash P (s A 19)) (Value.str (s A 19) 300) (Value.int 1440 299)), (DictEntry.mk (PyData.keyHash P (s A 20)) (Value.str (s A 20) 307) (Value.ref 106)), (DictEntry.mk (PyData.keyHash P (s A 21)) (Value.str (s A 21) 314) (Value.ref 113)), (DictEntry.mk (PyData.keyHash P (s A 22)) (Value.str (s A 22) 321) (Value.ref 120)), (DictEntry.mk (PyData.keyHash P (s A 23)) (Value.str (s A 23) 328) (Value.ref 127)), (DictEntry.mk (PyData.keyHash P (s A 24)) (Value.str (s A 24) 335) (Value.ref 134)), (DictEntry.mk (PyData.keyHash P (s A 25)) (Value.str (s A 25) 344) (Value.ref 141)), (DictEntry.mk (PyData.keyHash P (s A 26)) (Value.str (s A 26) 356) (Value.ref 148)), (DictEntry.mk (PyData.keyHash P (s A 27)) (Value.str (s A 27) 365) (Value.ref 155)), (DictEntry.mk (PyData.keyHash P (s A 28)) (Value.str (s A 28) 374) (Value.ref 162)), (DictEntry.mk (PyData.keyHash P (s A 29)) (Value.str (s A 29) 378) (Value.str (s A 30) 377)), (DictEntry.mk (PyData.keyHash P (s A 31)) (Value.str (s A 31) 380) (Value.int 8 379)), (DictEntry.mk (PyData.keyHash P (s A 32)) (Value.str (s A 32) 386) (Value.ref 167)), (DictEntry.mk (PyData.keyHash P (s A 34)) (Value.str (s A 34) 422) (Value.ref 185)), (DictEntry.mk (PyData.keyHash P (s A 35)) (Value.str (s A 35) 430) (Value.ref 196)), (DictEntry.mk (PyData.keyHash P (s A 36)) (Value.str (s A 36) 440) (Value.ref 203)), (DictEntry.mk (PyData.keyHash P (s A 37)) (Value.str (s A 37) 450) (Value.ref 210)), (DictEntry.mk (PyData.keyHash P (s A 38)) (Value.str (s A 38) 456) (Value.ref 215)), (DictEntry.mk (PyData.keyHash P (s A 39)) (Value.str (s A 39) 464) (Value.ref 220))] 36) #[]))
noncomputable def o_216 (A : AT) : Params → Obj := (fun P => (Obj.mk Value.none none (Data.fields #[(Value.int 1 0), (Value.int 0 0), (Value.ref 20), (Value.int 5 0), (Value.int 0 0), (Value.ref 27), (Value.int 7 0), (Value.int 0 0), (Value.ref 40), (Value.int 9 0), (Value.int 0 0), (Value.ref 52), (Value.int 11 0), (Value.int 0 0), (Value.ref 64), (Value.int 16 0), (Value.int 0 0), (Value.ref 84), (Value.int 18 0), (Value.int 0 0), (Value.ref 91), (Value.int 20 0), (Value.int 0 0), (Value.ref 98), (Value.int 24 0), (Value.int 0 0), (Value.ref 105), (Value.int 26 0), (Value.int 0 0), (Value.ref 112), (Value.int 32 0), (Value.int 0 0), (Value.ref 119), (Value.int 35 0), (Value.int 0 0), (Value.ref 126), (Value.int 38 0), (Value.int 0 0), (Value.ref 133), (Value.int 41 0), (Value.int 0 0), (Value.ref 140), (Value.int 45 0), (Value.int 0 0), (Value.ref 147), (Value.int 55 0), (Value.int 0 0), (Value.ref 154), (Value.int 59 0), (Value.int 0 0), (Value.ref 161), (Value.int 66 0), (Value.int 0 0), (Value.ref 166), (Value.int 71 0), (Value.int 0 0), (Value.ref 173), (Value.int 79 0), (Value.int 0 0), (Value.ref 195), (Value.int 81 0), (Value.int 0 0), (Value.ref 202), (Value.int 83 0), (Value.int 0 0), (Value.ref 209), (Value.int 87 0), (Value.int 0 0), (Value.ref 214), (Value.int 91 0), (Value.int 0 0), (Value.ref 219)]) #[]))
noncomputable def o_217 (A : AT) : Params → Obj := (fun P => (Obj.mk (Value.type (t A 2)) none (Data.seq #[] 0) #[]))
noncomputable def o_218 (A : AT) : Params → Obj := (fun P => (Obj.mk (Value.type (t A 8)) none (Data.fields #[(Value.builtin (t A 13)), (Value.type (t A 5))]) #[]))
noncomputable def o_219 (A : AT) : Params → Obj := (fun P => (Obj.mk (Value.type (t A 0)) none (Data.dict #[(DictEntry.mk (PyData.keyHash P (s A 62)) (Value.str (s A 62) 396) (Value.str (s A 1) 387)), (DictEntry.mk (PyData.keyHash P (s A 87)) (Value.str (s A 87) 398) (Value.str (s A 34) 397)), (DictEntry.mk (PyData.keyHash P (s A 63)) (Value.str (s A 63) 400) (Value.int 71 399)), (DictEntry.mk (PyData.keyHash P (s A 64)) (Value.str (s A 64) 411) (Value.ref 182)), (DictEntry.mk (PyData.keyHash P (s A 65)) (Value.str (s A 65) 415) (Value.ref 183))] 5) #[]))
noncomputable def o_220 (A : AT) : Params → Obj := (fun P => (Obj.mk (Value.type (t A 2)) none (Data.seq #[] 0) #[]))
noncomputable def o_221 (A : AT) : Params → Obj := (fun P => (Obj.mk Value.none none (Data.fields #[(Value.int 73 0), (Value.int 4 0), (Value.ref 181)]) #[]))
noncomputable def o_222 (A : AT) : Params → Obj := (fun P => (Obj.mk (Value.type (t A 4)) none (Data.fields #[(Value.str (s A 34) 391), (Value.str (s A 34) 392), (Value.str (s A 9) 393), (Value.int 71 0), (Value.int 0 0), (Value.int 0 0), (Value.int 0 0), (Value.int 0 0), (Value.ref 171), (Value.bool false), (Value.int 181 0), (Value.ref 172), Value.none, Value.none, Value.none, Value.none, (Value.int 394 0), (Value.int 71 0), (Value.str (s A 9) 395)]) #[]))
noncomputable def o_223 (A : AT) : Params → Obj := (fun P => (Obj.mk (Value.type (t A 15)) none Data.plain #[(some (Value.ref 173)), (some (Value.ref 3)), (some (Value.ref 170)), none, (some (Value.str (s A 1) 387)), none, (some (Value.ref 0))]))
noncomputable def o_224 (A : AT) : Params → Obj := (fun P => (Obj.mk (Value.type (t A 2)) none (Data.seq #[(Value.int 0 401), (Value.bool false)] 0) #[]))
noncomputable def o_225 (A : AT) : Params → Obj := (fun P => (Obj.mk (Value.type (t A 2)) none (Data.seq #[] 0) #[]))
noncomputable def o_226 (A : AT) : Params → Obj := (fun P => (Obj.mk Value.none none (Data.fields #[]) #[]))
noncomputable def o_227 (A : AT) : Params → Obj := (fun P => (Obj.mk (Value.type (t A 2)) none (Data.seq #[(Value.str (s A 71) 405), (Value.str (s A 102) 406), (Value.str (s A 103) 407), (Value.str (s A 104) 408)] 0) #[]))
noncomputable def o_228 (A : AT) : Params → Obj := (fun P => (Obj.mk (Value.type (t A 2)) none (Data.seq #[] 0) #[]))
noncomputable def o_229 (A : AT) : Params → Obj := (fun P => (Obj.mk Value.none none (Data.func (FuncData.mk (s A 64) (s A 105) (defArgs (inClass (stm A 26) 0)) (FuncBody.stmts (defBody (inClass (stm A 26) 0))) (defScope (inClass (stm A 26) 0)) 0 [] Value.none Value.none Value.none Value.none none Value.none Value.none 0)) #[]))
noncomputable def o_230 (A : AT) : Params → Obj := (fun P => (Obj.mk (Value.type (t A 4)) none (Data.fields #[(Value.str (s A 64) 402), (Value.str (s A 105) 403), (Value.str (s A 9) 404), (Value.int 73 0), (Value.int 4 0), (Value.int 0 0), (Value.int 0 0), (Value.int 3 0), (Value.ref 176), (Value.bool true), (Value.int 181 0), (Value.ref 177), Value.none, (Value.ref 178), (Value.ref 179), (Value.ref 180), (Value.int 409 0), (Value.int 73 0), (Value.str (s A 9) 410)]) #[]))
noncomputable def o_231 (A : AT) : Params → Obj := (fun P => (Obj.mk (Value.type (t A 3)) none (Data.func (FuncData.mk (s A 64) (s A 105) (defArgs (inClass (stm A 26) 0)) (FuncBody.stmts (defBody (inClass (stm A 26) 0))) (defScope (inClass (stm A 26) 0)) 3 [] (Value.ref 175) Value.none Value.none (Value.str (s A 1) 387) none (Value.ref 181) Value.none 0)) #[]))
noncomputable def o_232 (A : AT) : Params → Obj := (fun P => (Obj.mk (Value.type (t A 2)) none (Data.seq #[(Value.str (s A 104) 412), (Value.str (s A 102) 413), (Value.str (s A 103) 414)] 0) #[]))
noncomputable def o_233 (A : AT) : Params → Obj := (fun P => (Obj.mk (Value.type (t A 0)) none (Data.dict #[(DictEntry.mk (PyData.keyHash P (s A 62)) (Value.str (s A 62) 396) (Value.str (s A 1) 387)), (DictEntry.mk (PyData.keyHash P (s A 63)) (Value.str (s A 63) 400) (Value.int 71 399)), (DictEntry.mk (PyData.keyHash P (s A 64)) (Value.str (s A 64) 411) (Value.ref 182)), (DictEntry.mk (PyData.keyHash P (s A 65)) (Value.str (s A 65) 415) (Value.ref 183)), (DictEntry.mk (PyData.keyHash P (s A 61)) (Value.str (s A 61) 417) (Value.ref 186)), (DictEntry.mk (PyData.keyHash P (s A 66)) (Value.str (s A 66) 419) (Value.ref 187)), (DictEntry.mk (PyData.keyHash P (s A 2)) (Value.str (s A 2) 420) Value.none)] 4) #[]))
noncomputable def o_234 (A : AT) : Params → Obj := (fun P => (Obj.mk (Value.type (t A 5)) none (Data.cls (ClassData.mk (s A 34) [(Value.type (t A 6))] [(Value.ref 185), (Value.type (t A 6))] 184 (s A 34) true [] [] false none false)) #[none, none, (some (Value.str (s A 34) 389)), (some (Value.str (s A 34) 397)), (some (Value.builtin (t A 7))), (some (Value.bool true))]))
noncomputable def o_235 (A : AT) : Params → Obj := (fun P => (Obj.mk (Value.type (t A 10)) none (Data.fields #[(Value.str (s A 61) 416), (Value.ref 185), (Value.builtin (t A 11)), (Value.builtin (t A 12))]) #[]))
noncomputable def o_236 (A : AT) : Params → Obj := (fun P => (Obj.mk (Value.type (t A 10)) none (Data.fields #[(Value.str (s A 66) 418), (Value.ref 185), (Value.builtin (t A 20)), Value.none]) #[]))
noncomputable def o_237 (A : AT) : Params → Obj := (fun P => (Obj.mk (Value.type (t A 14)) none (Data.fields #[(Value.ref 185), (Value.ref 185), (Value.ref 185)]) #[]))
noncomputable def o_238 (A : AT) : Params → Obj := (fun P => (Obj.mk (Value.type (t A 8)) none (Data.fields #[(Value.builtin (t A 9)), (Value.ref 185)]) #[]))
noncomputable def o_239 (A : AT) : Params → Obj := (fun P => (Obj.mk (Value.type (t A 2)) none (Data.seq #[] 0) #[]))
noncomputable def o_240 (A : AT) : Params → Obj := (fun P => (Obj.mk Value.none none (Data.fields #[]) #[]))
noncomputable def o_241 (A : AT) : Params → Obj := (fun P => (Obj.mk (Value.type (t A 2)) none (Data.seq #[(Value.str (s A 115) 426), (Value.str (s A 116) 427)] 0) #[]))
noncomputable def o_242 (A : AT) : Params → Obj := (fun P => (Obj.mk (Value.type (t A 2)) none (Data.seq #[] 0) #[]))
noncomputable def o_243 (A : AT) : Params → Obj := (fun P => (Obj.mk Value.none none (Data.func (FuncData.mk (s A 35) (s A 35) (defArgs (stm A 27)) (FuncBody.stmts (defBody (stm A 27))) (defScope (stm A 27)) 0 [] Value.none Value.none Value.none Value.none none Value.none Value.none 0)) #[]))
noncomputable def o_244 (A : AT) : Params → Obj := (fun P => (Obj.mk (Value.type (t A 4)) none (Data.fields #[(Value.str (s A 35) 423), (Value.str (s A 35) 424), (Value.str (s A 9) 425), (Value.int 79 0), (Value.int 2 0), (Value.int 0 0), (Value.int 0 0), (Value.int 3 0), (Value.ref 190), (Value.bool true), (Value.int 181 0), (Value.ref 191), Value.none, (Value.ref 192), (Value.ref 193), (Value.ref 194), (Value.int 428 0), (Value.int 79 0), (Value.str (s A 9) 429)]) #[]))
noncomputable def o_245 (A : AT) : Params → Obj := (fun P => (Obj.mk (Value.type (t A 3)) none (Data.func (FuncData.mk (s A 35) (s A 35) (defArgs (stm A 27)) (FuncBody.stmts (defBody (stm A 27))) (defScope (stm A 27)) 3 [] Value.none Value.none Value.none (Value.str (s A 1) 387) none (Value.ref 195) Value.none 0)) #[]))
noncomputable def o_246 (A : AT) : Params → Obj := (fun P => (Obj.mk (Value.type (t A 2)) none (Data.seq #[] 0) #[]))
noncomputable def o_247 (A : AT) : Params → Obj := (fun P => (Obj.mk Value.none none (Data.fields #[]) #[]))
noncomputable def o_248 (A : AT) : Params → Obj := (fun P => (Obj.mk (Value.type (t A 2)) none (Data.seq #[(Value.str (s A 97) 434), (Value.str (s A 115) 435), (Value.str (s A 116) 436), (Value.str (s A 57) 437)] 0) #[]))
noncomputable def o_249 (A : AT) : Params → Obj := (fun P => (Obj.mk (Value.type (t A 2)) none (Data.seq #[] 0) #[]))
noncomputable def o_250 (A : AT) : Params → Obj := (fun P => (Obj.mk Value.none none (Data.func (FuncData.mk (s A 36) (s A 36) (defArgs (stm A 28)) (FuncBody.stmts (defBody (stm A 28))) (defScope (stm A 28)) 0 [] Value.none Value.none Value.none Value.none none Value.none Value.none 0)) #[]))
noncomputable def o_251 (A : AT) : Params → Obj := (fun P => (Obj.mk (Value.type (t A 4)) none (Data.fields #[(Value.str (s A 36) 431), (Value.str (s A 36) 432), (Value.str (s A 9) 433), (Value.int 81 0), (Value.int 4 0), (Value.int 0 0), (Value.int 0 0), (Value.int 3 0), (Value.ref 197), (Value.bool true), (Value.int 181 0), (Value.ref 198), Value.none, (Value.ref 199), (Value.ref 200), (Value.ref 201), (Value.int 438 0), (Value.int 81 0), (Value.str (s A 9) 439)]) #[]))
noncomputable def o_252 (A : AT) : Params → Obj := (fun P => (Obj.mk (Value.type (t A 3)) none (Data.func (FuncData.mk (s A 36) (s A 36) (defArgs (stm A 28)) (FuncBody.stmts (defBody (stm A 28))) (defScope (stm A 28)) 3 [] Value.none Value.none Value.none (Value.str (s A 1) 387) none (Value.ref 202) Value.none 0)) #[]))
noncomputable def o_253 (A : AT) : Params → Obj := (fun P => (Obj.mk (Value.type (t A 2)) none (Data.seq #[] 0) #[]))
noncomputable def o_254 (A : AT) : Params → Obj := (fun P => (Obj.mk Value.none none (Data.fields #[]) #[]))
noncomputable def o_255 (A : AT) : Params → Obj := (fun P => (Obj.mk (Value.type (t A 2)) none (Data.seq #[(Value.str (s A 97) 444), (Value.str (s A 115) 445), (Value.str (s A 116) 446), (Value.str (s A 57) 447)] 0) #[]))
noncomputable def o_256 (A : AT) : Params → Obj := (fun P => (Obj.mk (Value.type (t A 2)) none (Data.seq #[] 0) #[]))
noncomputable def o_257 (A : AT) : Params → Obj := (fun P => (Obj.mk Value.none none (Data.func (FuncData.mk (s A 37) (s A 37) (defArgs (stm A 29)) (FuncBody.stmts (defBody (stm A 29))) (defScope (stm A 29)) 0 [] Value.none Value.none Value.none Value.none none Value.none Value.none 0)) #[]))
noncomputable def o_258 (A : AT) : Params → Obj := (fun P => (Obj.mk (Value.type (t A 4)) none (Data.fields #[(Value.str (s A 37) 441), (Value.str (s A 37) 442), (Value.str (s A 9) 443), (Value.int 83 0), (Value.int 4 0), (Value.int 0 0), (Value.int 0 0), (Value.int 3 0), (Value.ref 204), (Value.bool true), (Value.int 181 0), (Value.ref 205), Value.none, (Value.ref 206), (Value.ref 207), (Value.ref 208), (Value.int 448 0), (Value.int 83 0), (Value.str (s A 9) 449)]) #[]))
noncomputable def o_259 (A : AT) : Params → Obj := (fun P => (Obj.mk (Value.type (t A 3)) none (Data.func (FuncData.mk (s A 37) (s A 37) (defArgs (stm A 29)) (FuncBody.stmts (defBody (stm A 29))) (defScope (stm A 29)) 3 [] Value.none Value.none Value.none (Value.str (s A 1) 387) none (Value.ref 209) Value.none 0)) #[]))
noncomputable def o_260 (A : AT) : Params → Obj := (fun P => (Obj.mk (Value.type (t A 2)) none (Data.seq #[] 0) #[]))
noncomputable def o_261 (A : AT) : Params → Obj := (fun P => (Obj.mk Value.none none (Data.fields #[]) #[]))
noncomputable def o_262 (A : AT) : Params → Obj := (fun P => (Obj.mk Value.none none (Data.func (FuncData.mk (s A 38) (s A 38) (defArgs (stm A 30)) (FuncBody.stmts (defBody (stm A 30))) (defScope (stm A 30)) 0 [] Value.none Value.none Value.none Value.none none Value.none Value.none 0)) #[]))
noncomputable def o_263 (A : AT) : Params → Obj := (fun P => (Obj.mk (Value.type (t A 4)) none (Data.fields #[(Value.str (s A 38) 451), (Value.str (s A 38) 452), (Value.str (s A 9) 453), (Value.int 87 0), (Value.int 4 0), (Value.int 0 0), (Value.int 0 0), (Value.int 3 0), (Value.ref 211), (Value.bool true), (Value.int 181 0), (Value.ref 212), Value.none, Value.none, Value.none, (Value.ref 213), (Value.int 454 0), (Value.int 87 0), (Value.str (s A 9) 455)]) #[]))
noncomputable def o_264 (A : AT) : Params → Obj := (fun P => (Obj.mk (Value.type (t A 3)) none (Data.func (FuncData.mk (s A 38) (s A 38) (defArgs (stm A 30)) (FuncBody.stmts (defBody (stm A 30))) (defScope (stm A 30)) 3 [] Value.none Value.none Value.none (Value.str (s A 1) 387) none (Value.ref 214) Value.none 0)) #[]))
noncomputable def o_265 (A : AT) : Params → Obj := (fun P => (Obj.mk (Value.type (t A 2)) none (Data.seq #[] 0) #[]))
noncomputable def o_266 (A : AT) : Params → Obj := (fun P => (Obj.mk Value.none none (Data.fields #[]) #[]))
noncomputable def o_267 (A : AT) : Params → Obj := (fun P => (Obj.mk Value.none none (Data.func (FuncData.mk (s A 39) (s A 39) (defArgs (stm A 32)) (FuncBody.stmts (defBody (stm A 32))) (defScope (stm A 32)) 0 [] Value.none Value.none Value.none Value.none none Value.none Value.none 0)) #[]))
noncomputable def o_268 (A : AT) : Params → Obj := (fun P => (Obj.mk (Value.type (t A 4)) none (Data.fields #[(Value.str (s A 39) 459), (Value.str (s A 39) 460), (Value.str (s A 9) 461), (Value.int 91 0), (Value.int 1 0), (Value.int 0 0), (Value.int 0 0), (Value.int 3 0), (Value.ref 216), (Value.bool true), (Value.int 181 0), (Value.ref 217), Value.none, Value.none, Value.none, (Value.ref 218), (Value.int 462 0), (Value.int 91 0), (Value.str (s A 9) 463)]) #[]))
noncomputable def o_269 (A : AT) : Params → Obj := (fun P => (Obj.mk (Value.type (t A 3)) none (Data.func (FuncData.mk (s A 39) (s A 39) (defArgs (stm A 32)) (FuncBody.stmts (defBody (stm A 32))) (defScope (stm A 32)) 3 [] Value.none Value.none Value.none (Value.str (s A 126) 457) none (Value.ref 219) Value.none 0)) #[]))
noncomputable def o_270 (A : AT) : Params → Obj := (fun P => (Obj.mk (Value.type (t A 0)) none (Data.dict #[(DictEntry.mk (PyData.keyHash P (s A 0)) (Value.str (s A 0) 165) (Value.str (s A 86) 487)), (DictEntry.mk (PyData.keyHash P (s A 2)) (Value.str (s A 2) 166) Value.none), (DictEntry.mk (PyData.keyHash P (s A 3)) (Value.str (s A 3) 167) Value.none), (DictEntry.mk (PyData.keyHash P (s A 4)) (Value.str (s A 4) 168) (Value.builtin (t A 1))), (DictEntry.mk (PyData.keyHash P (s A 5)) (Value.str (s A 5) 169) Value.none), (DictEntry.mk (PyData.keyHash P (s A 6)) (Value.str (s A 6) 170) (Value.ref 6)), (DictEntry.mk (PyData.keyHash P (s A 7)) (Value.str (s A 7) 171) (Value.ref 4)), (DictEntry.mk (PyData.keyHash P (s A 8)) (Value.str (s A 8) 173) (Value.str (s A 9) 172)), (DictEntry.mk (PyData.keyHash P (s A 10)) (Value.str (s A 10) 174) Value.none), (DictEntry.mk (PyData.keyHash P (s A 11)) (Value.str (s A 11) 193) (Value.ref 21)), (DictEntry.mk (PyData.keyHash P (s A 12)) (Value.str (s A 12) 213) (Value.ref 31)), (DictEntry.mk (PyData.keyHash P (s A 13)) (Value.str (s A 13) 229) (Value.ref 44)), (DictEntry.mk (PyData.keyHash P (s A 14)) (Value.str (s A 14) 245) (Value.ref 56)), (DictEntry.mk (PyData.keyHash P (s A 15)) (Value.str (s A 15) 270) (Value.ref 76)), (DictEntry.mk (PyData.keyHash P (s A 16)) (Value.str (s A 16) 279) (Value.ref 85)), (DictEntry.mk (PyData.keyHash P (s A 17)) (Value.str (s A 17) 288) (Value.ref 92)), (DictEntry.mk (PyData.keyHash P (s A 18)) (Value.str (s A 18) 296) (Value.ref 99)), (DictEntry.mk (PyData.keyHash P (s A 19)) (Value.str (s A 19) 300) (Value.int 1440 299)), (DictEntry.mk (PyData.keyHash P (s A 20)) (Value.str (s A 20) 307) (Value.ref 106)), (DictEntry.mk (PyData.keyHash P (s A 21)) (Value.str (s A 21) 314) (Value.ref 113)), (DictEntry.mk (PyData.keyHash P (s A 22)) (Value.str (s A 22) 321) (Value.ref 120)), (DictEntry.mk (PyData.keyHash P (s A 23)) (Value.str (s A 23) 328) (Value.ref 127)), (DictEntry.mk (PyData.keyHash P (s A 24)) (Value.str (s A 24) 335) (Value.ref 134)), (DictEntry.mk (PyData.keyHash P (s A 25)) (Value.str (s A 25) 344) (Value.ref 141)), (DictEntry.mk (PyData.keyHash P (s A 26)) (Value.str (s A 26) 356) (Value.ref 148)), (DictEntry.mk (PyData.keyHash P (s A 27)) (Value.str (s A 27) 365) (Value.ref 155)), (DictEntry.mk (PyData.keyHash P (s A 28)) (Value.str (s A 28) 374) (Value.ref 162)), (DictEntry.mk (PyData.keyHash P (s A 29)) (Value.str (s A 29) 378) (Value.str (s A 30) 377)), (DictEntry.mk (PyData.keyHash P (s A 31)) (Value.str (s A 31) 380) (Value.int 8 379)), (DictEntry.mk (PyData.keyHash P (s A 32)) (Value.str (s A 32) 386) (Value.ref 167)), (DictEntry.mk (PyData.keyHash P (s A 34)) (Value.str (s A 34) 422) (Value.ref 185)), (DictEntry.mk (PyData.keyHash P (s A 35)) (Value.str (s A 35) 430) (Value.ref 196)), (DictEntry.mk (PyData.keyHash P (s A 36)) (Value.str (s A 36) 440) (Value.ref 203)), (DictEntry.mk (PyData.keyHash P (s A 37)) (Value.str (s A 37) 450) (Value.ref 210)), (DictEntry.mk (PyData.keyHash P (s A 38)) (Value.str (s A 38) 456) (Value.ref 215)), (DictEntry.mk (PyData.keyHash P (s A 39)) (Value.str (s A 39) 464) (Value.ref 220)), (DictEntry.mk (PyData.keyHash P (s A 40)) (Value.str (s A 40) 486) (Value.ref 230)), (DictEntry.mk (PyData.keyHash P (s A 41)) (Value.str (s A 41) 508) (Value.ref 244))] 38) #[]))
noncomputable def o_271 (A : AT) : Params → Obj := (fun P => (Obj.mk Value.none none (Data.fields #[(Value.int 1 0), (Value.int 0 0), (Value.ref 20), (Value.int 5 0), (Value.int 0 0), (Value.ref 27), (Value.int 7 0), (Value.int 0 0), (Value.ref 40), (Value.int 9 0), (Value.int 0 0), (Value.ref 52), (Value.int 11 0), (Value.int 0 0), (Value.ref 64), (Value.int 16 0), (Value.int 0 0), (Value.ref 84), (Value.int 18 0), (Value.int 0 0), (Value.ref 91), (Value.int 20 0), (Value.int 0 0), (Value.ref 98), (Value.int 24 0), (Value.int 0 0), (Value.ref 105), (Value.int 26 0), (Value.int 0 0), (Value.ref 112), (Value.int 32 0), (Value.int 0 0), (Value.ref 119), (Value.int 35 0), (Value.int 0 0), (Value.ref 126), (Value.int 38 0), (Value.int 0 0), (Value.ref 133), (Value.int 41 0), (Value.int 0 0), (Value.ref 140), (Value.int 45 0), (Value.int 0 0), (Value.ref 147), (Value.int 55 0), (Value.int 0 0), (Value.ref 154), (Value.int 59 0), (Value.int 0 0), (Value.ref 161), (Value.int 66 0), (Value.int 0 0), (Value.ref 166), (Value.int 71 0), (Value.int 0 0), (Value.ref 173), (Value.int 79 0), (Value.int 0 0), (Value.ref 195), (Value.int 81 0), (Value.int 0 0), (Value.ref 202), (Value.int 83 0), (Value.int 0 0), (Value.ref 209), (Value.int 87 0), (Value.int 0 0), (Value.ref 214), (Value.int 91 0), (Value.int 0 0), (Value.ref 219), (Value.int 96 0), (Value.int 0 0), (Value.ref 226), (Value.int 99 0), (Value.int 0 0), (Value.ref 240)]) #[]))
noncomputable def o_272 (A : AT) : Params → Obj := (fun P => (Obj.mk (Value.type (t A 2)) none (Data.seq #[] 0) #[]))
noncomputable def o_273 (A : AT) : Params → Obj := (fun P => (Obj.mk (Value.type (t A 8)) none (Data.fields #[(Value.builtin (t A 13)), (Value.type (t A 5))]) #[]))
noncomputable def o_274 (A : AT) : Params → Obj := (fun P => (Obj.mk (Value.type (t A 0)) none (Data.dict #[(DictEntry.mk (PyData.keyHash P (s A 62)) (Value.str (s A 62) 474) (Value.str (s A 89) 465)), (DictEntry.mk (PyData.keyHash P (s A 87)) (Value.str (s A 87) 476) (Value.str (s A 40) 475)), (DictEntry.mk (PyData.keyHash P (s A 63)) (Value.str (s A 63) 478) (Value.int 96 477)), (DictEntry.mk (PyData.keyHash P (s A 65)) (Value.str (s A 65) 479) (Value.ref 228))] 4) #[]))
noncomputable def o_275 (A : AT) : Params → Obj := (fun P => (Obj.mk (Value.type (t A 2)) none (Data.seq #[] 0) #[]))
noncomputable def o_276 (A : AT) : Params → Obj := (fun P => (Obj.mk Value.none none (Data.fields #[]) #[]))
noncomputable def o_277 (A : AT) : Params → Obj := (fun P => (Obj.mk (Value.type (t A 4)) none (Data.fields #[(Value.str (s A 40) 469), (Value.str (s A 40) 470), (Value.str (s A 9) 471), (Value.int 96 0), (Value.int 0 0), (Value.int 0 0), (Value.int 0 0), (Value.int 0 0), (Value.ref 224), (Value.bool false), (Value.int 181 0), (Value.ref 225), Value.none, Value.none, Value.none, Value.none, (Value.int 472 0), (Value.int 96 0), (Value.str (s A 9) 473)]) #[]))
noncomputable def o_278 (A : AT) : Params → Obj := (fun P => (Obj.mk (Value.type (t A 15)) none Data.plain #[(some (Value.ref 226)), (some (Value.ref 3)), (some (Value.ref 223)), none, (some (Value.str (s A 89) 465)), none, (some (Value.ref 0))]))
noncomputable def o_279 (A : AT) : Params → Obj := (fun P => (Obj.mk (Value.type (t A 2)) none (Data.seq #[] 0) #[]))
noncomputable def o_280 (A : AT) : Params → Obj := (fun P => (Obj.mk (Value.type (t A 0)) none (Data.dict #[(DictEntry.mk (PyData.keyHash P (s A 62)) (Value.str (s A 62) 474) (Value.str (s A 89) 465)), (DictEntry.mk (PyData.keyHash P (s A 63)) (Value.str (s A 63) 478) (Value.int 96 477)), (DictEntry.mk (PyData.keyHash P (s A 65)) (Value.str (s A 65) 479) (Value.ref 228)), (DictEntry.mk (PyData.keyHash P (s A 61)) (Value.str (s A 61) 481) (Value.ref 231)), (DictEntry.mk (PyData.keyHash P (s A 66)) (Value.str (s A 66) 483) (Value.ref 232)), (DictEntry.mk (PyData.keyHash P (s A 2)) (Value.str (s A 2) 484) Value.none)] 4) #[]))
noncomputable def o_281 (A : AT) : Params → Obj := (fun P => (Obj.mk (Value.type (t A 5)) none (Data.cls (ClassData.mk (s A 40) [(Value.type (t A 6))] [(Value.ref 230), (Value.type (t A 6))] 229 (s A 40) true [] [] false none false)) #[none, none, (some (Value.str (s A 40) 467)), (some (Value.str (s A 40) 475)), (some (Value.builtin (t A 7))), (some (Value.bool true))]))
noncomputable def o_282 (A : AT) : Params → Obj := (fun P => (Obj.mk (Value.type (t A 10)) none (Data.fields #[(Value.str (s A 61) 480), (Value.ref 230), (Value.builtin (t A 11)), (Value.builtin (t A 12))]) #[]))
noncomputable def o_283 (A : AT) : Params → Obj := (fun P => (Obj.mk (Value.type (t A 10)) none (Data.fields #[(Value.str (s A 66) 482), (Value.ref 230), (Value.builtin (t A 20)), Value.none]) #[]))
noncomputable def o_284 (A : AT) : Params → Obj := (fun P => (Obj.mk (Value.type (t A 14)) none (Data.fields #[(Value.ref 230), (Value.ref 230), (Value.ref 230)]) #[]))
noncomputable def o_285 (A : AT) : Params → Obj := (fun P => (Obj.mk (Value.type (t A 8)) none (Data.fields #[(Value.builtin (t A 9)), (Value.ref 230)]) #[]))
noncomputable def o_286 (A : AT) : Params → Obj := (fun P => (Obj.mk (Value.type (t A 2)) none (Data.seq #[] 0) #[]))
noncomputable def o_287 (A : AT) : Params → Obj := (fun P => (Obj.mk (Value.type (t A 8)) none (Data.fields #[(Value.builtin (t A 13)), (Value.type (t A 5))]) #[]))
noncomputable def o_288 (A : AT) : Params → Obj := (fun P => (Obj.mk (Value.type (t A 0)) none (Data.dict #[(DictEntry.mk (PyData.keyHash P (s A 62)) (Value.str (s A 62) 496) (Value.str (s A 86) 487)), (DictEntry.mk (PyData.keyHash P (s A 87)) (Value.str (s A 87) 498) (Value.str (s A 41) 497)), (DictEntry.mk (PyData.keyHash P (s A 63)) (Value.str (s A 63) 500) (Value.int 99 499)), (DictEntry.mk (PyData.keyHash P (s A 65)) (Value.str (s A 65) 501) (Value.ref 242))] 4) #[]))
noncomputable def o_289 (A : AT) : Params → Obj := (fun P => (Obj.mk (Value.type (t A 2)) none (Data.seq #[] 0) #[]))
noncomputable def o_290 (A : AT) : Params → Obj := (fun P => (Obj.mk Value.none none (Data.fields #[]) #[]))
noncomputable def o_291 (A : AT) : Params → Obj := (fun P => (Obj.mk (Value.type (t A 4)) none (Data.fields #[(Value.str (s A 41) 491), (Value.str (s A 41) 492), (Value.str (s A 9) 493), (Value.int 99 0), (Value.int 0 0), (Value.int 0 0), (Value.int 0 0), (Value.int 0 0), (Value.ref 238), (Value.bool false), (Value.int 181 0), (Value.ref 239), Value.none, Value.none, Value.none, Value.none, (Value.int 494 0), (Value.int 99 0), (Value.str (s A 9) 495)]) #[]))
noncomputable def o_292 (A : AT) : Params → Obj := (fun P => (Obj.mk (Value.type (t A 15)) none Data.plain #[(some (Value.ref 240)), (some (Value.ref 3)), (some (Value.ref 237)), none, (some (Value.str (s A 86) 487)), none, (some (Value.ref 0))]))
noncomputable def o_293 (A : AT) : Params → Obj := (fun P => (Obj.mk (Value.type (t A 2)) none (Data.seq #[] 0) #[]))
noncomputable def o_294 (A : AT) : Params → Obj := (fun P => (Obj.mk (Value.type (t A 0)) none (Data.dict #[(DictEntry.mk (PyData.keyHash P (s A 62)) (Value.str (s A 62) 496) (Value.str (s A 86) 487)), (DictEntry.mk (PyData.keyHash P (s A 63)) (Value.str (s A 63) 500) (Value.int 99 499)), (DictEntry.mk (PyData.keyHash P (s A 65)) (Value.str (s A 65) 501) (Value.ref 242)), (DictEntry.mk (PyData.keyHash P (s A 61)) (Value.str (s A 61) 503) (Value.ref 245)), (DictEntry.mk (PyData.keyHash P (s A 66)) (Value.str (s A 66) 505) (Value.ref 246)), (DictEntry.mk (PyData.keyHash P (s A 2)) (Value.str (s A 2) 506) Value.none)] 4) #[]))
noncomputable def o_295 (A : AT) : Params → Obj := (fun P => (Obj.mk (Value.type (t A 5)) none (Data.cls (ClassData.mk (s A 41) [(Value.type (t A 6))] [(Value.ref 244), (Value.type (t A 6))] 243 (s A 41) true [] [] false none false)) #[none, none, (some (Value.str (s A 41) 489)), (some (Value.str (s A 41) 497)), (some (Value.builtin (t A 7))), (some (Value.bool true))]))
noncomputable def o_296 (A : AT) : Params → Obj := (fun P => (Obj.mk (Value.type (t A 10)) none (Data.fields #[(Value.str (s A 61) 502), (Value.ref 244), (Value.builtin (t A 11)), (Value.builtin (t A 12))]) #[]))
noncomputable def o_297 (A : AT) : Params → Obj := (fun P => (Obj.mk (Value.type (t A 10)) none (Data.fields #[(Value.str (s A 66) 504), (Value.ref 244), (Value.builtin (t A 20)), Value.none]) #[]))
noncomputable def o_298 (A : AT) : Params → Obj := (fun P => (Obj.mk (Value.type (t A 14)) none (Data.fields #[(Value.ref 244), (Value.ref 244), (Value.ref 244)]) #[]))
noncomputable def o_299 (A : AT) : Params → Obj := (fun P => (Obj.mk (Value.type (t A 8)) none (Data.fields #[(Value.builtin (t A 9)), (Value.ref 244)]) #[]))
noncomputable def o_300 (A : AT) : Params → Obj := (fun P => (Obj.mk (Value.type (t A 0)) none (Data.dict #[(DictEntry.mk (PyData.keyHash P (s A 0)) (Value.str (s A 0) 165) (Value.str (s A 33) 541)), (DictEntry.mk (PyData.keyHash P (s A 2)) (Value.str (s A 2) 166) Value.none), (DictEntry.mk (PyData.keyHash P (s A 3)) (Value.str (s A 3) 167) Value.none), (DictEntry.mk (PyData.keyHash P (s A 4)) (Value.str (s A 4) 168) (Value.builtin (t A 1))), (DictEntry.mk (PyData.keyHash P (s A 5)) (Value.str (s A 5) 169) Value.none), (DictEntry.mk (PyData.keyHash P (s A 6)) (Value.str (s A 6) 170) (Value.ref 6)), (DictEntry.mk (PyData.keyHash P (s A 7)) (Value.str (s A 7) 171) (Value.ref 4)), (DictEntry.mk (PyData.keyHash P (s A 8)) (Value.str (s A 8) 173) (Value.str (s A 9) 172)), (DictEntry.mk (PyData.keyHash P (s A 10)) (Value.str (s A 10) 174) Value.none), (DictEntry.mk (PyData.keyHash P (s A 11)) (Value.str (s A 11) 193) (Value.ref 21)), (DictEntry.mk (PyData.keyHash P (s A 12)) (Value.str (s A 12) 213) (Value.ref 31)), (DictEntry.mk (PyData.keyHash P (s A 13)) (Value.str (s A 13) 229) (Value.ref 44)), (DictEntry.mk (PyData.keyHash P (s A 14)) (Value.str (s A 14) 245) (Value.ref 56)), (DictEntry.mk (PyData.keyHash P (s A 15)) (Value.str (s A 15) 270) (Value.ref 76)), (DictEntry.mk (PyData.keyHash P (s A 16)) (Value.str (s A 16) 279) (Value.ref 85)), (DictEntry.mk (PyData.keyHash P (s A 17)) (Value.str (s A 17) 288) (Value.ref 92)), (DictEntry.mk (PyData.keyHash P (s A 18)) (Value.str (s A 18) 296) (Value.ref 99)), (DictEntry.mk (PyData.keyHash P (s A 19)) (Value.str (s A 19) 300) (Value.int 1440 299)), (DictEntry.mk (PyData.keyHash P (s A 20)) (Value.str (s A 20) 307) (Value.ref 106)), (DictEntry.mk (PyData.keyHash P (s A 21)) (Value.str (s A 21) 314) (Value.ref 113)), (DictEntry.mk (PyData.keyHash P (s A 22)) (Value.str (s A 22) 321) (Value.ref 120)), (DictEntry.mk (PyData.keyHash P (s A 23)) (Value.str (s A 23) 328) (Value.ref 127)), (DictEntry.mk (PyData.keyHash P (s A 24)) (Value.str (s A 24) 335) (Value.ref 134)), (DictEntry.mk (PyData.keyHash P (s A 25)) (Value.str (s A 25) 344) (Value.ref 141)), (DictEntry.mk (PyData.keyHash P (s A 26)) (Value.str (s A 26) 356) (Value.ref 148)), (DictEntry.mk (PyData.keyHash P (s A 27)) (Value.str (s A 27) 365) (Value.ref 155)), (DictEntry.mk (PyData.keyHash P (s A 28)) (Value.str (s A 28) 374) (Value.ref 162)), (DictEntry.mk (PyData.keyHash P (s A 29)) (Value.str (s A 29) 378) (Value.str (s A 30) 377)), (DictEntry.mk (PyData.keyHash P (s A 31)) (Value.str (s A 31) 380) (Value.int 8 379)), (DictEntry.mk (PyData.keyHash P (s A 32)) (Value.str (s A 32) 386) (Value.ref 167)), (DictEntry.mk (PyData.keyHash P (s A 34)) (Value.str (s A 34) 422) (Value.ref 185)), (DictEntry.mk (PyData.keyHash P (s A 35)) (Value.str (s A 35) 430) (Value.ref 196)), (DictEntry.mk (PyData.keyHash P (s A 36)) (Value.str (s A 36) 440) (Value.ref 203)), (DictEntry.mk (PyData.keyHash P (s A 37)) (Value.str (s A 37) 450) (Value.ref 210)), (DictEntry.mk (PyData.keyHash P (s A 38)) (Value.str (s A 38) 456) (Value.ref 215)), (DictEntry.mk (PyData.keyHash P (s A 39)) (Value.str (s A 39) 464) (Value.ref 220)), (DictEntry.mk (PyData.keyHash P (s A 40)) (Value.str (s A 40) 486) (Value.ref 230)), (DictEntry.mk (PyData.keyHash P (s A 41)) (Value.str (s A 41) 508) (Value.ref 244)), (DictEntry.mk (PyData.keyHash P (s A 42)) (Value.str (s A 42) 540) (Value.ref 272))] 39) #[]))
noncomputable def o_301 (A : AT) : Params → Obj := (fun P => (Obj.mk Value.none none (Data.fields #[(Value.int 1 0), (Value.int 0 0), (Value.ref 20), (Value.int 5 0), (Value.int 0 0), (Value.ref 27), (Value.int 7 0), (Value.int 0 0), (Value.ref 40), (Value.int 9 0), (Value.int 0 0), (Value.ref 52), (Value.int 11 0), (Value.int 0 0), (Value.ref 64), (Value.int 16 0), (Value.int 0 0), (Value.ref 84), (Value.int 18 0), (Value.int 0 0), (Value.ref 91), (Value.int 20 0), (Value.int 0 0), (Value.ref 98), (Value.int 24 0), (Value.int 0 0), (Value.ref 105), (Value.int 26 0), (Value.int 0 0), (Value.ref 112), (Value.int 32 0), (Value.int 0 0), (Value.ref 119), (Value.int 35 0), (Value.int 0 0), (Value.ref 126), (Value.int 38 0), (Value.int 0 0), (Value.ref 133), (Value.int 41 0), (Value.int 0 0), (Value.ref 140), (Value.int 45 0), (Value.int 0 0), (Value.ref 147), (Value.int 55 0), (Value.int 0 0), (Value.ref 154), (Value.int 59 0), (Value.int 0 0), (Value.ref 161), (Value.int 66 0), (Value.int 0 0), (Value.ref 166), (Value.int 71 0), (Value.int 0 0), (Value.ref 173), (Value.int 79 0), (Value.int 0 0), (Value.ref 195), (Value.int 81 0), (Value.int 0 0), (Value.ref 202), (Value.int 83 0), (Value.int 0 0), (Value.ref 209), (Value.int 87 0), (Value.int 0 0), (Value.ref 214), (Value.int 91 0), (Value.int 0 0), (Value.ref 219), (Value.int 96 0), (Value.int 0 0), (Value.ref 226), (Value.int 99 0), (Value.int 0 0), (Value.ref 240), (Value.int 101 0), (Value.int 0 0), (Value.ref 254)]) #[]))
noncomputable def o_302 (A : AT) : Params → Obj := (fun P => (Obj.mk (Value.type (t A 5)) none (Data.cls (ClassData.mk (s A 41) [(Value.type (t A 6))] [(Value.ref 244), (Value.type (t A 6))] 243 (s A 41) true [] [(Value.ref 272)] false none false)) #[none, none, (some (Value.str (s A 41) 489)), (some (Value.str (s A 41) 497)), (some (Value.builtin (t A 7))), (some (Value.bool true))]))
noncomputable def o_303 (A : AT) : Params → Obj := (fun P => (Obj.mk (Value.type (t A 2)) none (Data.seq #[(Value.ref 244)] 0) #[]))
noncomputable def o_304 (A : AT) : Params → Obj := (fun P => (Obj.mk (Value.type (t A 8)) none (Data.fields #[(Value.builtin (t A 13)), (Value.type (t A 5))]) #[]))
noncomputable def o_305 (A : AT) : Params → Obj := (fun P => (Obj.mk (Value.type (t A 0)) none (Data.dict #[(DictEntry.mk (PyData.keyHash P (s A 62)) (Value.str (s A 62) 516) (Value.str (s A 86) 487)), (DictEntry.mk (PyData.keyHash P (s A 87)) (Value.str (s A 87) 518) (Value.str (s A 42) 517)), (DictEntry.mk (PyData.keyHash P (s A 63)) (Value.str (s A 63) 520) (Value.int 101 519)), (DictEntry.mk (PyData.keyHash P (s A 84)) (Value.str (s A 84) 529) (Value.ref 262)), (DictEntry.mk (PyData.keyHash P (s A 98)) (Value.str (s A 98) 536) (Value.ref 269)), (DictEntry.mk (PyData.keyHash P (s A 65)) (Value.str (s A 65) 537) (Value.ref 270))] 6) #[]))
noncomputable def o_306 (A : AT) : Params → Obj := (fun P => (Obj.mk (Value.type (t A 2)) none (Data.seq #[] 0) #[]))
noncomputable def o_307 (A : AT) : Params → Obj := (fun P => (Obj.mk Value.none none (Data.fields #[(Value.int 103 0), (Value.int 4 0), (Value.ref 261), (Value.int 106 0), (Value.int 4 0), (Value.ref 268)]) #[]))
noncomputable def o_308 (A : AT) : Params → Obj := (fun P => (Obj.mk (Value.type (t A 4)) none (Data.fields #[(Value.str (s A 42) 511), (Value.str (s A 42) 512), (Value.str (s A 9) 513), (Value.int 101 0), (Value.int 0 0), (Value.int 0 0), (Value.int 0 0), (Value.int 0 0), (Value.ref 252), (Value.bool false), (Value.int 181 0), (Value.ref 253), Value.none, Value.none, Value.none, Value.none, (Value.int 514 0), (Value.int 101 0), (Value.str (s A 9) 515)]) #[]))
noncomputable def o_309 (A : AT) : Params → Obj := (fun P => (Obj.mk (Value.type (t A 15)) none Data.plain #[(some (Value.ref 254)), (some (Value.ref 3)), (some (Value.ref 251)), none, (some (Value.str (s A 86) 487)), none, (some (Value.ref 0))]))
noncomputable def o_310 (A : AT) : Params → Obj := (fun P => (Obj.mk (Value.type (t A 2)) none (Data.seq #[] 0) #[]))
noncomputable def o_311 (A : AT) : Params → Obj := (fun P => (Obj.mk Value.none none (Data.fields #[]) #[]))
noncomputable def o_312 (A : AT) : Params → Obj := (fun P => (Obj.mk (Value.type (t A 2)) none (Data.seq #[(Value.str (s A 71) 524), (Value.str (s A 57) 525), (Value.str (s A 58) 526)] 0) #[]))
noncomputable def o_313 (A : AT) : Params → Obj := (fun P => (Obj.mk (Value.type (t A 2)) none (Data.seq #[] 0) #[]))
noncomputable def o_314 (A : AT) : Params → Obj := (fun P => (Obj.mk Value.none none (Data.func (FuncData.mk (s A 84) (s A 85) (defArgs (inClass (stm A 37) 0)) (FuncBody.stmts (defBody (inClass (stm A 37) 0))) (defScope (inClass (stm A 37) 0)) 0 [] Value.none Value.none Value.none Value.none none Value.none Value.none 0)) #[]))
noncomputable def o_315 (A : AT) : Params → Obj := (fun P => (Obj.mk (Value.type (t A 4)) none (Data.fields #[(Value.str (s A 84) 521), (Value.str (s A 85) 522), (Value.str (s A 9) 523), (Value.int 103 0), (Value.int 3 0), (Value.int 0 0), (Value.int 0 0), (Value.int 3 0), (Value.ref 256), (Value.bool true), (Value.int 181 0), (Value.ref 257), Value.none, (Value.ref 258), (Value.ref 259), (Value.ref 260), (Value.int 527 0), (Value.int 103 0), (Value.str (s A 9) 528)]) #[]))
noncomputable def o_316 (A : AT) : Params → Obj := (fun P => (Obj.mk (Value.type (t A 3)) none (Data.func (FuncData.mk (s A 84) (s A 85) (defArgs (inClass (stm A 37) 0)) (FuncBody.stmts (defBody (inClass (stm A 37) 0))) (defScope (inClass (stm A 37) 0)) 3 [] Value.none Value.none Value.none (Value.str (s A 86) 487) none (Value.ref 261) Value.none 0)) #[]))
noncomputable def o_317 (A : AT) : Params → Obj := (fun P => (Obj.mk (Value.type (t A 2)) none (Data.seq #[] 0) #[]))
noncomputable def o_318 (A : AT) : Params → Obj := (fun P => (Obj.mk Value.none none (Data.fields #[]) #[]))
noncomputable def o_319 (A : AT) : Params → Obj := (fun P => (Obj.mk (Value.type (t A 2)) none (Data.seq #[(Value.str (s A 71) 533)] 0) #[]))
noncomputable def o_320 (A : AT) : Params → Obj := (fun P => (Obj.mk (Value.type (t A 2)) none (Data.seq #[] 0) #[]))
noncomputable def o_321 (A : AT) : Params → Obj := (fun P => (Obj.mk Value.none none (Data.func (FuncData.mk (s A 98) (s A 112) (defArgs (inClass (stm A 37) 1)) (FuncBody.stmts (defBody (inClass (stm A 37) 1))) (defScope (inClass (stm A 37) 1)) 0 [] Value.none Value.none Value.none Value.none none Value.none Value.none 0)) #[]))
noncomputable def o_322 (A : AT) : Params → Obj := (fun P => (Obj.mk (Value.type (t A 4)) none (Data.fields #[(Value.str (s A 98) 530), (Value.str (s A 112) 531), (Value.str (s A 9) 532), (Value.int 106 0), (Value.int 1 0), (Value.int 0 0), (Value.int 0 0), (Value.int 3 0), (Value.ref 263), (Value.bool true), (Value.int 181 0), (Value.ref 264), Value.none, (Value.ref 265), (Value.ref 266), (Value.ref 267), (Value.int 534 0), (Value.int 106 0), (Value.str (s A 9) 535)]) #[]))
noncomputable def o_323 (A : AT) : Params → Obj := (fun P => (Obj.mk (Value.type (t A 3)) none (Data.func (FuncData.mk (s A 98) (s A 112) (defArgs (inClass (stm A 37) 1)) (FuncBody.stmts (defBody (inClass (stm A 37) 1))) (defScope (inClass (stm A 37) 1)) 3 [] Value.none Value.none Value.none (Value.str (s A 86) 487) none (Value.ref 268) Value.none 0)) #[]))
noncomputable def o_324 (A : AT) : Params → Obj := (fun P => (Obj.mk (Value.type (t A 2)) none (Data.seq #[] 0) #[]))
noncomputable def o_325 (A : AT) : Params → Obj := (fun P => (Obj.mk (Value.type (t A 0)) none (Data.dict #[(DictEntry.mk (PyData.keyHash P (s A 62)) (Value.str (s A 62) 516) (Value.str (s A 86) 487)), (DictEntry.mk (PyData.keyHash P (s A 63)) (Value.str (s A 63) 520) (Value.int 101 519)), (DictEntry.mk (PyData.keyHash P (s A 84)) (Value.str (s A 84) 529) (Value.ref 262)), (DictEntry.mk (PyData.keyHash P (s A 98)) (Value.str (s A 98) 536) (Value.ref 269)), (DictEntry.mk (PyData.keyHash P (s A 65)) (Value.str (s A 65) 537) (Value.ref 270)), (DictEntry.mk (PyData.keyHash P (s A 2)) (Value.str (s A 2) 538) Value.none)] 2) #[]))
noncomputable def o_326 (A : AT) : Params → Obj := (fun P => (Obj.mk (Value.type (t A 5)) none (Data.cls (ClassData.mk (s A 42) [(Value.ref 244)] [(Value.ref 272), (Value.ref 244), (Value.type (t A 6))] 271 (s A 42) true [] [] false none false)) #[(some (Value.ref 249)), none, (some (Value.str (s A 42) 509)), (some (Value.str (s A 42) 517)), (some (Value.builtin (t A 7))), (some (Value.bool true))]))
noncomputable def o_327 (A : AT) : Params → Obj := (fun P => (Obj.mk (Value.type (t A 14)) none (Data.fields #[(Value.ref 272), (Value.ref 272), (Value.ref 272)]) #[]))
noncomputable def o_328 (A : AT) : Params → Obj := (fun P => (Obj.mk (Value.type (t A 8)) none (Data.fields #[(Value.builtin (t A 9)), (Value.ref 272)]) #[]))
noncomputable def o_329 (A : AT) : Params → Obj := (fun P => (Obj.mk (Value.type (t A 0)) none (Data.dict #[(DictEntry.mk (PyData.keyHash P (s A 0)) (Value.str (s A 0) 165) (Value.str (s A 33) 541)), (DictEntry.mk (PyData.keyHash P (s A 2)) (Value.str (s A 2) 166) Value.none), (DictEntry.mk (PyData.keyHash P (s A 3)) (Value.str (s A 3) 167) Value.none), (DictEntry.mk (PyData.keyHash P (s A 4)) (Value.str (s A 4) 168) (Value.builtin (t A 1))), (DictEntry.mk (PyData.keyHash P (s A 5)) (Value.str (s A 5) 169) Value.none), (DictEntry.mk (PyData.keyHash P (s A 6)) (Value.str (s A 6) 170) (Value.ref 6)), (DictEntry.mk (PyData.keyHash P (s A 7)) (Value.str (s A 7) 171) (Value.ref 4)), (DictEntry.mk (PyData.keyHash P (s A 8)) (Value.str (s A 8) 173) (Value.str (s A 9) 172)), (DictEntry.mk (PyData.keyHash P (s A 10)) (Value.str (s A 10) 174) Value.none), (DictEntry.mk (PyData.keyHash P (s A 11)) (Value.str (s A 11) 193) (Value.ref 21)), (DictEntry.mk (PyData.keyHash P (s A 12)) (Value.str (s A 12) 213) (Value.ref 31)), (DictEntry.mk (PyData.keyHash P (s A 13)) (Value.str (s A 13) 229) (Value.ref 44)), (DictEntry.mk (PyData.keyHash P (s A 14)) (Value.str (s A 14) 245) (Value.ref 56)), (DictEntry.mk (PyData.keyHash P (s A 15)) (Value.str (s A 15) 270) (Value.ref 76)), (DictEntry.mk (PyData.keyHash P (s A 16)) (Value.str (s A 16) 279) (Value.ref 85)), (DictEntry.mk (PyData.keyHash P (s A 17)) (Value.str (s A 17) 288) (Value.ref 92)), (DictEntry.mk (PyData.keyHash P (s A 18)) (Value.str (s A 18) 296) (Value.ref 99)), (DictEntry.mk (PyData.keyHash P (s A 19)) (Value.str (s A 19) 300) (Value.int 1440 299)), (DictEntry.mk (PyData.keyHash P (s A 20)) (Value.str (s A 20) 307) (Value.ref 106)), (DictEntry.mk (PyData.keyHash P (s A 21)) (Value.str (s A 21) 314) (Value.ref 113)), (DictEntry.mk (PyData.keyHash P (s A 22)) (Value.str (s A 22) 321) (Value.ref 120)), (DictEntry.mk (PyData.keyHash P (s A 23)) (Value.str (s A 23) 328) (Value.ref 127)), (DictEntry.mk (PyData.keyHash P (s A 24)) (Value.str (s A 24) 335) (Value.ref 134)), (DictEntry.mk (PyData.keyHash P (s A 25)) (Value.str (s A 25) 344) (Value.ref 141)), (DictEntry.mk (PyData.keyHash P (s A 26)) (Value.str (s A 26) 356) (Value.ref 148)), (DictEntry.mk (PyData.keyHash P (s A 27)) (Value.str (s A 27) 365) (Value.ref 155)), (DictEntry.mk (PyData.keyHash P (s A 28)) (Value.str (s A 28) 374) (Value.ref 162)), (DictEntry.mk (PyData.keyHash P (s A 29)) (Value.str (s A 29) 378) (Value.str (s A 30) 377)), (DictEntry.mk (PyData.keyHash P (s A 31)) (Value.str (s A 31) 380) (Value.int 8 379)), (DictEntry.mk (PyData.keyHash P (s A 32)) (Value.str (s A 32) 386) (Value.ref 167)), (DictEntry.mk (PyData.keyHash P (s A 34)) (Value.str (s A 34) 422) (Value.ref 185)), (DictEntry.mk (PyData.keyHash P (s A 35)) (Value.str (s A 35) 430) (Value.ref 196)), (DictEntry.mk (PyData.keyHash P (s A 36)) (Value.str (s A 36) 440) (Value.ref 203)), (DictEntry.mk (PyData.keyHash P (s A 37)) (Value.str (s A 37) 450) (Value.ref 210)), (DictEntry.mk (PyData.keyHash P (s A 38)) (Value.str (s A 38) 456) (Value.ref 215)), (DictEntry.mk (PyData.keyHash P (s A 39)) (Value.str (s A 39) 464) (Value.ref 220)), (DictEntry.mk (PyData.keyHash P (s A 40)) (Value.str (s A 40) 486) (Value.ref 230)), (DictEntry.mk (PyData.keyHash P (s A 41)) (Value.str (s A 41) 508) (Value.ref 244)), (DictEntry.mk (PyData.keyHash P (s A 42)) (Value.str (s A 42) 540) (Value.ref 272)), (DictEntry.mk (PyData.keyHash P (s A 43)) (Value.str (s A 43) 575) (Value.ref 292))] 40) #[]))
noncomputable def o_330 (A : AT) : Params → Obj := (fun P => (Obj.mk Value.none none (Data.fields #[(Value.int 1 0), (Value.int 0 0), (Value.ref 20), (Value.int 5 0), (Value.int 0 0), (Value.ref 27), (Value.int 7 0), (Value.int 0 0), (Value.ref 40), (Value.int 9 0), (Value.int 0 0), (Value.ref 52), (Value.int 11 0), (Value.int 0 0), (Value.ref 64), (Value.int 16 0), (Value.int 0 0), (Value.ref 84), (Value.int 18 0), (Value.int 0 0), (Value.ref 91), (Value.int 20 0), (Value.int 0 0), (Value.ref 98), (Value.int 24 0), (Value.int 0 0), (Value.ref 105), (Value.int 26 0), (Value.int 0 0), (Value.ref 112), (Value.int 32 0), (Value.int 0 0), (Value.ref 119), (Value.int 35 0), (Value.int 0 0), (Value.ref 126), (Value.int 38 0), (Value.int 0 0), (Value.ref 133), (Value.int 41 0), (Value.int 0 0), (Value.ref 140), (Value.int 45 0), (Value.int 0 0), (Value.ref 147), (Value.int 55 0), (Value.int 0 0), (Value.ref 154), (Value.int 59 0), (Value.int 0 0), (Value.ref 161), (Value.int 66 0), (Value.int 0 0), (Value.ref 166), (Value.int 71 0), (Value.int 0 0), (Value.ref 173), (Value.int 79 0), (Value.int 0 0), (Value.ref 195), (Value.int 81 0), (Value.int 0 0), (Value.ref 202), (Value.int 83 0), (Value.int 0 0), (Value.ref 209), (Value.int 87 0), (Value.int 0 0), (Value.ref 214), (Value.int 91 0), (Value.int 0 0), (Value.ref 219), (Value.int 96 0), (Value.int 0 0), (Value.ref 226), (Value.int 99 0), (Value.int 0 0), (Value.ref 240), (Value.int 101 0), (Value.int 0 0), (Value.ref 254), (Value.int 109 0), (Value.int 0 0), (Value.ref 280)]) #[]))
noncomputable def o_331 (A : AT) : Params → Obj := (fun P => (Obj.mk (Value.type (t A 2)) none (Data.seq #[] 0) #[]))
noncomputable def o_332 (A : AT) : Params → Obj := (fun P => (Obj.mk (Value.type (t A 8)) none (Data.fields #[(Value.builtin (t A 13)), (Value.type (t A 5))]) #[]))
noncomputable def o_333 (A : AT) : Params → Obj := (fun P => (Obj.mk (Value.type (t A 0)) none (Data.dict #[(DictEntry.mk (PyData.keyHash P (s A 62)) (Value.str (s A 62) 550) (Value.str (s A 33) 541)), (DictEntry.mk (PyData.keyHash P (s A 87)) (Value.str (s A 87) 552) (Value.str (s A 43) 551)), (DictEntry.mk (PyData.keyHash P (s A 63)) (Value.str (s A 63) 554) (Value.int 109 553)), (DictEntry.mk (PyData.keyHash P (s A 64)) (Value.str (s A 64) 564) (Value.ref 289)), (DictEntry.mk (PyData.keyHash P (s A 65)) (Value.str (s A 65) 568) (Value.ref 290))] 5) #[]))
noncomputable def o_334 (A : AT) : Params → Obj := (fun P => (Obj.mk (Value.type (t A 2)) none (Data.seq #[] 0) #[]))
noncomputable def o_335 (A : AT) : Params → Obj := (fun P => (Obj.mk Value.none none (Data.fields #[(Value.int 111 0), (Value.int 4 0), (Value.ref 288)]) #[]))
noncomputable def o_336 (A : AT) : Params → Obj := (fun P => (Obj.mk (Value.type (t A 4)) none (Data.fields #[(Value.str (s A 43) 545), (Value.str (s A 43) 546), (Value.str (s A 9) 547), (Value.int 109 0), (Value.int 0 0), (Value.int 0 0), (Value.int 0 0), (Value.int 0 0), (Value.ref 278), (Value.bool false), (Value.int 181 0), (Value.ref 279), Value.none, Value.none, Value.none, Value.none, (Value.int 548 0), (Value.int 109 0), (Value.str (s A 9) 549)]) #[]))
noncomputable def o_337 (A : AT) : Params → Obj := (fun P => (Obj.mk (Value.type (t A 15)) none Data.plain #[(some (Value.ref 280)), (some (Value.ref 3)), (some (Value.ref 277)), none, (some (Value.str (s A 33) 541)), none, (some (Value.ref 0))]))
noncomputable def o_338 (A : AT) : Params → Obj := (fun P => (Obj.mk (Value.type (t A 2)) none (Data.seq #[Value.none] 0) #[]))
noncomputable def o_339 (A : AT) : Params → Obj := (fun P => (Obj.mk (Value.type (t A 2)) none (Data.seq #[] 0) #[]))
noncomputable def o_340 (A : AT) : Params → Obj := (fun P => (Obj.mk Value.none none (Data.fields #[]) #[]))
noncomputable def o_341 (A : AT) : Params → Obj := (fun P => (Obj.mk (Value.type (t A 2)) none (Data.seq #[(Value.str (s A 71) 558), (Value.str (s A 127) 559), (Value.str (s A 128) 560), (Value.str (s A 129) 561)] 0) #[]))
noncomputable def o_342 (A : AT) : Params → Obj := (fun P => (Obj.mk (Value.type (t A 2)) none (Data.seq #[] 0) #[]))
noncomputable def o_343 (A : AT) : Params → Obj := (fun P => (Obj.mk Value.none none (Data.func (FuncData.mk (s A 64) (s A 93) (defArgs (inClass (stm A 39) 0)) (FuncBody.stmts (defBody (inClass (stm A 39) 0))) (defScope (inClass (stm A 39) 0)) 0 [] Value.none Value.none Value.none Value.none none Value.none Value.none 0)) #[]))
noncomputable def o_344 (A : AT) : Params → Obj := (fun P => (Obj.mk (Value.type (t A 4)) none (Data.fields #[(Value.str (s A 64) 555), (Value.str (s A 93) 556), (Value.str (s A 9) 557), (Value.int 111 0), (Value.int 4 0), (Value.int 0 0), (Value.int 0 0), (Value.int 3 0), (Value.ref 283), (Value.bool true), (Value.int 181 0), (Value.ref 284), Value.none, (Value.ref 285), (Value.ref 286), (Value.ref 287), (Value.int 562 0), (Value.int 111 0), (Value.str (s A 9) 563)]) #[]))
noncomputable def o_345 (A : AT) : Params → Obj := (fun P => (Obj.mk (Value.type (t A 3)) none (Data.func (FuncData.mk (s A 64) (s A 93) (defArgs (inClass (stm A 39) 0)) (FuncBody.stmts (defBody (inClass (stm A 39) 0))) (defScope (inClass (stm A 39) 0)) 3 [] (Value.ref 282) Value.none Value.none (Value.str (s A 33) 541) none (Value.ref 288) Value.none 0)) #[]))
noncomputable def o_346 (A : AT) : Params → Obj := (fun P => (Obj.mk (Value.type (t A 2)) none (Data.seq #[(Value.str (s A 127) 565), (Value.str (s A 128) 566), (Value.str (s A 129) 567)] 0) #[]))
noncomputable def o_347 (A : AT) : Params → Obj := (fun P => (Obj.mk (Value.type (t A 0)) none (Data.dict #[(DictEntry.mk (PyData.keyHash P (s A 62)) (Value.str (s A 62) 550) (Value.str (s A 33) 541)), (DictEntry.mk (PyData.keyHash P (s A 63)) (Value.str (s A 63) 554) (Value.int 109 553)), (DictEntry.mk (PyData.keyHash P (s A 64)) (Value.str (s A 64) 564) (Value.ref 289)), (DictEntry.mk (PyData.keyHash P (s A 65)) (Value.str (s A 65) 568) (Value.ref 290)), (DictEntry.mk (PyData.keyHash P (s A 61)) (Value.str (s A 61) 570) (Value.ref 293)), (DictEntry.mk (PyData.keyHash P (s A 66)) (Value.str (s A 66) 572) (Value.ref 294)), (DictEntry.mk (PyData.keyHash P (s A 2)) (Value.str (s A 2) 573) Value.none)] 4) #[]))
noncomputable def o_348 (A : AT) : Params → Obj := (fun P => (Obj.mk (Value.type (t A 5)) none (Data.cls (ClassData.mk (s A 43) [(Value.type (t A 6))] [(Value.ref 292), (Value.type (t A 6))] 291 (s A 43) true [] [] false none false)) #[none, none, (some (Value.str (s A 43) 543)), (some (Value.str (s A 43) 551)), (some (Value.builtin (t A 7))), (some (Value.bool true))]))
noncomputable def o_349 (A : AT) : Params → Obj := (fun P => (Obj.mk (Value.type (t A 10)) none (Data.fields #[(Value.str (s A 61) 569), (Value.ref 292), (Value.builtin (t A 11)), (Value.builtin (t A 12))]) #[]))
noncomputable def o_350 (A : AT) : Params → Obj := (fun P => (Obj.mk (Value.type (t A 10)) none (Data.fields #[(Value.str (s A 66) 571), (Value.ref 292), (Value.builtin (t A 20)), Value.none]) #[]))
noncomputable def o_351 (A : AT) : Params → Obj := (fun P => (Obj.mk (Value.type (t A 14)) none (Data.fields #[(Value.ref 292), (Value.ref 292), (Value.ref 292)]) #[]))
noncomputable def o_352 (A : AT) : Params → Obj := (fun P => (Obj.mk (Value.type (t A 8)) none (Data.fields #[(Value.builtin (t A 9)), (Value.ref 292)]) #[]))
noncomputable def o_353 (A : AT) : Params → Obj := (fun P => (Obj.mk (Value.type (t A 0)) none (Data.dict #[(DictEntry.mk (PyData.keyHash P (s A 0)) (Value.str (s A 0) 165) (Value.str (s A 33) 541)), (DictEntry.mk (PyData.keyHash P (s A 2)) (Value.str (s A 2) 166) Value.none), (DictEntry.mk (PyData.keyHash P (s A 3)) (Value.str (s A 3) 167) Value.none), (DictEntry.mk (PyData.keyHash P (s A 4)) (Value.str (s A 4) 168) (Value.builtin (t A 1))), (DictEntry.mk (PyData.keyHash P (s A 5)) (Value.str (s A 5) 169) Value.none), (DictEntry.mk (PyData.keyHash P (s A 6)) (Value.str (s A 6) 170) (Value.ref 6)), (DictEntry.mk (PyData.keyHash P (s A 7)) (Value.str (s A 7) 171) (Value.ref 4)), (DictEntry.mk (PyData.keyHash P (s A 8)) (Value.str (s A 8) 173) (Value.str (s A 9) 172)), (DictEntry.mk (PyData.keyHash P (s A 10)) (Value.str (s A 10) 174) Value.none), (DictEntry.mk (PyData.keyHash P (s A 11)) (Value.str (s A 11) 193) (Value.ref 21)), (DictEntry.mk (PyData.keyHash P (s A 12)) (Value.str (s A 12) 213) (Value.ref 31)), (DictEntry.mk (PyData.keyHash P (s A 13)) (Value.str (s A 13) 229) (Value.ref 44)), (DictEntry.mk (PyData.keyHash P (s A 14)) (Value.str (s A 14) 245) (Value.ref 56)), (DictEntry.mk (PyData.keyHash P (s A 15)) (Value.str (s A 15) 270) (Value.ref 76)), (DictEntry.mk (PyData.keyHash P (s A 16)) (Value.str (s A 16) 279) (Value.ref 85)), (DictEntry.mk (PyData.keyHash P (s A 17)) (Value.str (s A 17) 288) (Value.ref 92)), (DictEntry.mk (PyData.keyHash P (s A 18)) (Value.str (s A 18) 296) (Value.ref 99)), (DictEntry.mk (PyData.keyHash P (s A 19)) (Value.str (s A 19) 300) (Value.int 1440 299)), (DictEntry.mk (PyData.keyHash P (s A 20)) (Value.str (s A 20) 307) (Value.ref 106)), (DictEntry.mk (PyData.keyHash P (s A 21)) (Value.str (s A 21) 314) (Value.ref 113)), (DictEntry.mk (PyData.keyHash P (s A 22)) (Value.str (s A 22) 321) (Value.ref 120)), (DictEntry.mk (PyData.keyHash P (s A 23)) (Value.str (s A 23) 328) (Value.ref 127)), (DictEntry.mk (PyData.keyHash P (s A 24)) (Value.str (s A 24) 335) (Value.ref 134)), (DictEntry.mk (PyData.keyHash P (s A 25)) (Value.str (s A 25) 344) (Value.ref 141)), (DictEntry.mk (PyData.keyHash P (s A 26)) (Value.str (s A 26) 356) (Value.ref 148)), (DictEntry.mk (PyData.keyHash P (s A 27)) (Value.str (s A 27) 365) (Value.ref 155)), (DictEntry.mk (PyData.keyHash P (s A 28)) (Value.str (s A 28) 374) (Value.ref 162)), (DictEntry.mk (PyData.keyHash P (s A 29)) (Value.str (s A 29) 378) (Value.str (s A 30) 377)), (DictEntry.mk (PyData.keyHash P (s A 31)) (Value.str (s A 31) 380) (Value.int 8 379)), (DictEntry.mk (PyData.keyHash P (s A 32)) (Value.str (s A 32) 386) (Value.ref 167)), (DictEntry.mk (PyData.keyHash P (s A 34)) (Value.str (s A 34) 422) (Value.ref 185)), (DictEntry.mk (PyData.keyHash P (s A 35)) (Value.str (s A 35) 430) (Value.ref 196)), (DictEntry.mk (PyData.keyHash P (s A 36)) (Value.str (s A 36) 440) (Value.ref 203)), (DictEntry.mk (PyData.keyHash P (s A 37)) (Value.str (s A 37) 450) (Value.ref 210)), (DictEntry.mk (PyData.keyHash P (s A 38)) (Value.str (s A 38) 456) (Value.ref 215)), (DictEntry.mk (PyData.keyHash P (s A 39)) (Value.str (s A 39) 464) (Value.ref 220)), (DictEntry.mk (PyData.keyHash P (s A 40)) (Value.str (s A 40) 486) (Value.ref 230)), (DictEntry.mk (PyData.keyHash P (s A 41)) (Value.str (s A 41) 508) (Value.ref 244)), (DictEntry.mk (PyData.keyHash P (s A 42)) (Value.str (s A 42) 540) (Value.ref 272)), (DictEntry.mk (PyData.keyHash P (s A 43)) (Value.str (s A 43) 575) (Value.ref 292)), (DictEntry.mk (PyData.keyHash P (s A 44)) (Value.str (s A 44) 612) (Value.ref 314)), (DictEntry.mk (PyData.keyHash P (s A 45)) (Value.str (s A 45) 622) (Value.ref 325))] 42) #[]))
noncomputable def o_354 (A : AT) : Params → Obj := (fun P => (Obj.mk Value.none none (Data.fields #[(Value.int 1 0), (Value.int 0 0), (Value.ref 20), (Value.int 5 0), (Value.int 0 0), (Value.ref 27), (Value.int 7 0), (Value.int 0 0), (Value.ref 40), (Value.int 9 0), (Value.int 0 0), (Value.ref 52), (Value.int 11 0), (Value.int 0 0), (Value.ref 64), (Value.int 16 0), (Value.int 0 0), (Value.ref 84), (Value.int 18 0), (Value.int 0 0), (Value.ref 91), (Value.int 20 0), (Value.int 0 0), (Value.ref 98), (Value.int 24 0), (Value.int 0 0), (Value.ref 105), (Value.int 26 0), (Value.int 0 0), (Value.ref 112), (Value.int 32 0), (Value.int 0 0), (Value.ref 119), (Value.int 35 0), (Value.int 0 0), (Value.ref 126), (Value.int 38 0), (Value.int 0 0), (Value.ref 133), (Value.int 41 0), (Value.int 0 0), (Value.ref 140), (Value.int 45 0), (Value.int 0 0), (Value.ref 147), (Value.int 55 0), (Value.int 0 0), (Value.ref 154), (Value.int 59 0), (Value.int 0 0), (Value.ref 161), (Value.int 66 0), (Value.int 0 0), (Value.ref 166), (Value.int 71 0), (Value.int 0 0), (Value.ref 173), (Value.int 79 0), (Value.int 0 0), (Value.ref 195), (Value.int 81 0), (Value.int 0 0), (Value.ref 202), (Value.int 83 0), (Value.int 0 0), (Value.ref 209), (Value.int 87 0), (Value.int 0 0), (Value.ref 214), (Value.int 91 0), (Value.int 0 0), (Value.ref 219), (Value.int 96 0), (Value.int 0 0), (Value.ref 226), (Value.int 99 0), (Value.int 0 0), (Value.ref 240), (Value.int 101 0), (Value.int 0 0), (Value.ref 254), (Value.int 109 0), (Value.int 0 0), (Value.ref 280), (Value.int 121 0), (Value.int 0 0), (Value.ref 302), (Value.int 140 0), (Value.int 0 0), (Value.ref 324)]) #[]))
noncomputable def o_355 (A : AT) : Params → Obj := (fun P => (Obj.mk (Value.type (t A 2)) none (Data.seq #[] 0) #[]))
noncomputable def o_356 (A : AT) : Params → Obj := (fun P => (Obj.mk (Value.type (t A 8)) none (Data.fields #[(Value.builtin (t A 13)), (Value.type (t A 5))]) #[]))
noncomputable def o_357 (A : AT) : Params → Obj := (fun P => (Obj.mk (Value.type (t A 0)) none (Data.dict #[(DictEntry.mk (PyData.keyHash P (s A 62)) (Value.str (s A 62) 583) (Value.str (s A 33) 541)), (DictEntry.mk (PyData.keyHash P (s A 87)) (Value.str (s A 87) 585) (Value.str (s A 44) 584)), (DictEntry.mk (PyData.keyHash P (s A 63)) (Value.str (s A 63) 587) (Value.int 121 586)), (DictEntry.mk (PyData.keyHash P (s A 64)) (Value.str (s A 64) 599) (Value.ref 311)), (DictEntry.mk (PyData.keyHash P (s A 65)) (Value.str (s A 65) 605) (Value.ref 312))] 5) #[]))
noncomputable def o_358 (A : AT) : Params → Obj := (fun P => (Obj.mk (Value.type (t A 2)) none (Data.seq #[] 0) #[]))
noncomputable def o_359 (A : AT) : Params → Obj := (fun P => (Obj.mk Value.none none (Data.fields #[(Value.int 123 0), (Value.int 4 0), (Value.ref 310)]) #[]))
noncomputable def o_360 (A : AT) : Params → Obj := (fun P => (Obj.mk (Value.type (t A 4)) none (Data.fields #[(Value.str (s A 44) 578), (Value.str (s A 44) 579), (Value.str (s A 9) 580), (Value.int 121 0), (Value.int 0 0), (Value.int 0 0), (Value.int 0 0), (Value.int 0 0), (Value.ref 300), (Value.bool false), (Value.int 181 0), (Value.ref 301), Value.none, Value.none, Value.none, Value.none, (Value.int 581 0), (Value.int 121 0), (Value.str (s A 9) 582)]) #[]))
noncomputable def o_361 (A : AT) : Params → Obj := (fun P => (Obj.mk (Value.type (t A 15)) none Data.plain #[(some (Value.ref 302)), (some (Value.ref 3)), (some (Value.ref 299)), none, (some (Value.str (s A 33) 541)), none, (some (Value.ref 0))]))
noncomputable def o_362 (A : AT) : Params → Obj := (fun P => (Obj.mk (Value.type (t A 2)) none (Data.seq #[(Value.bool false), Value.none] 0) #[]))
noncomputable def o_363 (A : AT) : Params → Obj := (fun P => (Obj.mk (Value.type (t A 2)) none (Data.seq #[] 0) #[]))
noncomputable def o_364 (A : AT) : Params → Obj := (fun P => (Obj.mk Value.none none (Data.fields #[]) #[]))
noncomputable def o_365 (A : AT) : Params → Obj := (fun P => (Obj.mk (Value.type (t A 2)) none (Data.seq #[(Value.str (s A 71) 591), (Value.str (s A 121) 592), (Value.str (s A 125) 593), (Value.str (s A 123) 594), (Value.str (s A 124) 595), (Value.str (s A 122) 596)] 0) #[]))
noncomputable def o_366 (A : AT) : Params → Obj := (fun P => (Obj.mk (Value.type (t A 2)) none (Data.seq #[] 0) #[]))
noncomputable def o_367 (A : AT) : Params → Obj := (fun P => (Obj.mk Value.none none (Data.func (FuncData.mk (s A 64) (s A 130) (defArgs (inClass (stm A 40) 0)) (FuncBody.stmts (defBody (inClass (stm A 40) 0))) (defScope (inClass (stm A 40) 0)) 0 [] Value.none Value.none Value.none Value.none none Value.none Value.none 0)) #[]))
noncomputable def o_368 (A : AT) : Params → Obj := (fun P => (Obj.mk (Value.type (t A 4)) none (Data.fields #[(Value.str (s A 64) 588), (Value.str (s A 130) 589), (Value.str (s A 9) 590), (Value.int 123 0), (Value.int 6 0), (Value.int 0 0), (Value.int 0 0), (Value.int 3 0), (Value.ref 305), (Value.bool true), (Value.int 181 0), (Value.ref 306), Value.none, (Value.ref 307), (Value.ref 308), (Value.ref 309), (Value.int 597 0), (Value.int 123 0), (Value.str (s A 9) 598)]) #[]))
noncomputable def o_369 (A : AT) : Params → Obj := (fun P => (Obj.mk (Value.type (t A 3)) none (Data.func (FuncData.mk (s A 64) (s A 130) (defArgs (inClass (stm A 40) 0)) (FuncBody.stmts (defBody (inClass (stm A 40) 0))) (defScope (inClass (stm A 40) 0)) 3 [] (Value.ref 304) Value.none Value.none (Value.str (s A 33) 541) none (Value.ref 310) Value.none 0)) #[]))
noncomputable def o_370 (A : AT) : Params → Obj := (fun P => (Obj.mk (Value.type (t A 2)) none (Data.seq #[(Value.str (s A 121) 600), (Value.str (s A 122) 601), (Value.str (s A 123) 602), (Value.str (s A 124) 603), (Value.str (s A 125) 604)] 0) #[]))
noncomputable def o_371 (A : AT) : Params → Obj := (fun P => (Obj.mk (Value.type (t A 0)) none (Data.dict #[(DictEntry.mk (PyData.keyHash P (s A 62)) (Value.str (s A 62) 583) (Value.str (s A 33) 541)), (DictEntry.mk (PyData.keyHash P (s A 63)) (Value.str (s A 63) 587) (Value.int 121 586)), (DictEntry.mk (PyData.keyHash P (s A 64)) (Value.str (s A 64) 599) (Value.ref 311)), (DictEntry.mk (PyData.keyHash P (s A 65)) (Value.str (s A 65) 605) (Value.ref 312)), (DictEntry.mk (PyData.keyHash P (s A 61)) (Value.str (s A 61) 607) (Value.ref 315)), (DictEntry.mk (PyData.keyHash P (s A 66)) (Value.str (s A 66) 609) (Value.ref 316)), (DictEntry.mk (PyData.keyHash P (s A 2)) (Value.str (s A 2) 610) Value.none)] 4) #[]))
noncomputable def o_372 (A : AT) : Params → Obj := (fun P => (Obj.mk (Value.type (t A 5)) none (Data.cls (ClassData.mk (s A 44) [(Value.type (t A 6))] [(Value.ref 314), (Value.type (t A 6))] 313 (s A 44) true [] [] false none false)) #[none, none, (some (Value.str (s A 44) 576)), (some (Value.str (s A 44) 584)), (some (Value.builtin (t A 7))), (some (Value.bool true))]))
noncomputable def o_373 (A : AT) : Params → Obj := (fun P => (Obj.mk (Value.type (t A 10)) none (Data.fields #[(Value.str (s A 61) 606), (Value.ref 314), (Value.builtin (t A 11)), (Value.builtin (t A 12))]) #[]))
noncomputable def o_374 (A : AT) : Params → Obj := (fun P => (Obj.mk (Value.type (t A 10)) none (Data.fields #[(Value.str (s A 66) 608), (Value.ref 314), (Value.builtin (t A 20)), Value.none]) #[]))
noncomputable def o_375 (A : AT) : Params → Obj := (fun P => (Obj.mk (Value.type (t A 14)) none (Data.fields #[(Value.ref 314), (Value.ref 314), (Value.ref 314)]) #[]))
noncomputable def o_376 (A : AT) : Params → Obj := (fun P => (Obj.mk (Value.type (t A 8)) none (Data.fields #[(Value.builtin (t A 9)), (Value.ref 314)]) #[]))
noncomputable def o_377 (A : AT) : Params → Obj := (fun P => (Obj.mk (Value.type (t A 2)) none (Data.seq #[] 0) #[]))
noncomputable def o_378 (A : AT) : Params → Obj := (fun P => (Obj.mk Value.none none (Data.fields #[]) #[]))
noncomputable def o_379 (A : AT) : Params → Obj := (fun P => (Obj.mk (Value.type (t A 2)) none (Data.seq #[(Value.str (s A 125) 616), (Value.str (s A 123) 617), (Value.str (s A 124) 618), (Value.str (s A 122) 619)] 0) #[]))
noncomputable def o_380 (A : AT) : Params → Obj := (fun P => (Obj.mk (Value.type (t A 2)) none (Data.seq #[] 0) #[]))
noncomputable def o_381 (A : AT) : Params → Obj := (fun P => (Obj.mk Value.none none (Data.func (FuncData.mk (s A 45) (s A 45) (defArgs (stm A 41)) (FuncBody.stmts (defBody (stm A 41))) (defScope (stm A 41)) 0 [] Value.none Value.none Value.none Value.none none Value.none Value.none 0)) #[]))
noncomputable def o_382 (A : AT) : Params → Obj := (fun P => (Obj.mk (Value.type (t A 4)) none (Data.fields #[(Value.str (s A 45) 613), (Value.str (s A 45) 614), (Value.str (s A 9) 615), (Value.int 140 0), (Value.int 4 0), (Value.int 0 0), (Value.int 0 0), (Value.int 3 0), (Value.ref 319), (Value.bool true), (Value.int 181 0), (Value.ref 320), Value.none, (Value.ref 321), (Value.ref 322), (Value.ref 323), (Value.int 620 0), (Value.int 140 0), (Value.str (s A 9) 621)]) #[]))
noncomputable def o_383 (A : AT) : Params → Obj := (fun P => (Obj.mk (Value.type (t A 3)) none (Data.func (FuncData.mk (s A 45) (s A 45) (defArgs (stm A 41)) (FuncBody.stmts (defBody (stm A 41))) (defScope (stm A 41)) 3 [] Value.none Value.none Value.none (Value.str (s A 33) 541) none (Value.ref 324) Value.none 0)) #[]))
noncomputable def o_384 (A : AT) : Params → Obj := (fun P => (Obj.mk (Value.type (t A 0)) none (Data.dict #[(DictEntry.mk (PyData.keyHash P (s A 0)) (Value.str (s A 0) 165) (Value.str (s A 33) 541)), (DictEntry.mk (PyData.keyHash P (s A 2)) (Value.str (s A 2) 166) Value.none), (DictEntry.mk (PyData.keyHash P (s A 3)) (Value.str (s A 3) 167) Value.none), (DictEntry.mk (PyData.keyHash P (s A 4)) (Value.str (s A 4) 168) (Value.builtin (t A 1))), (DictEntry.mk (PyData.keyHash P (s A 5)) (Value.str (s A 5) 169) Value.none), (DictEntry.mk (PyData.keyHash P (s A 6)) (Value.str (s A 6) 170) (Value.ref 6)), (DictEntry.mk (PyData.keyHash P (s A 7)) (Value.str (s A 7) 171) (Value.ref 4)), (DictEntry.mk (PyData.keyHash P (s A 8)) (Value.str (s A 8) 173) (Value.str (s A 9) 172)), (DictEntry.mk (PyData.keyHash P (s A 10)) (Value.str (s A 10) 174) Value.none), (DictEntry.mk (PyData.keyHash P (s A 11)) (Value.str (s A 11) 193) (Value.ref 21)), (DictEntry.mk (PyData.keyHash P (s A 12)) (Value.str (s A 12) 213) (Value.ref 31)), (DictEntry.mk (PyData.keyHash P (s A 13)) (Value.str (s A 13) 229) (Value.ref 44)), (DictEntry.mk (PyData.keyHash P (s A 14)) (Value.str (s A 14) 245) (Value.ref 56)), (DictEntry.mk (PyData.keyHash P (s A 15)) (Value.str (s A 15) 270) (Value.ref 76)), (DictEntry.mk (PyData.keyHash P (s A 16)) (Value.str (s A 16) 279) (Value.ref 85)), (DictEntry.mk (PyData.keyHash P (s A 17)) (Value.str (s A 17) 288) (Value.ref 92)), (DictEntry.mk (PyData.keyHash P (s A 18)) (Value.str (s A 18) 296) (Value.ref 99)), (DictEntry.mk (PyData.keyHash P (s A 19)) (Value.str (s A 19) 300) (Value.int 1440 299)), (DictEntry.mk (PyData.keyHash P (s A 20)) (Value.str (s A 20) 307) (Value.ref 106)), (DictEntry.mk (PyData.keyHash P (s A 21)) (Value.str (s A 21) 314) (Value.ref 113)), (DictEntry.mk (PyData.keyHash P (s A 22)) (Value.str (s A 22) 321) (Value.ref 120)), (DictEntry.mk (PyData.keyHash P (s A 23)) (Value.str (s A 23) 328) (Value.ref 127)), (DictEntry.mk (PyData.keyHash P (s A 24)) (Value.str (s A 24) 335) (Value.ref 134)), (DictEntry.mk (PyData.keyHash P (s A 25)) (Value.str (s A 25) 344) (Value.ref 141)), (DictEntry.mk (PyData.keyHash P (s A 26)) (Value.str (s A 26) 356) (Value.ref 148)), (DictEntry.mk (PyData.keyHash P (s A 27)) (Value.str (s A 27) 365) (Value.ref 155)), (DictEntry.mk (PyData.keyHash P (s A 28)) (Value.str (s A 28) 374) (Value.ref 162)), (DictEntry.mk (PyData.keyHash P (s A 29)) (Value.str (s A 29) 378) (Value.str (s A 30) 377)), (DictEntry.mk (PyData.keyHash P (s A 31)) (Value.str (s A 31) 380) (Value.int 8 379)), (DictEntry.mk (PyData.keyHash P (s A 32)) (Value.str (s A 32) 386) (Value.ref 167)), (DictEntry.mk (PyData.keyHash P (s A 34)) (Value.str (s A 34) 422) (Value.ref 185)), (DictEntry.mk (PyData.keyHash P (s A 35)) (Value.str (s A 35) 430) (Value.ref 196)), (DictEntry.mk (PyData.keyHash P (s A 36)) (Value.str (s A 36) 440) (Value.ref 203)), (DictEntry.mk (PyData.keyHash P (s A 37)) (Value.str (s A 37) 450) (Value.ref 210)), (DictEntry.mk (PyData.keyHash P (s A 38)) (Value.str (s A 38) 456) (Value.ref 215)), (DictEntry.mk (PyData.keyHash P (s A 39)) (Value.str (s A 39) 464) (Value.ref 220)), (DictEntry.mk (PyData.keyHash P (s A 40)) (Value.str (s A 40) 486) (Value.ref 230)), (DictEntry.mk (PyData.keyHash P (s A 41)) (Value.str (s A 41) 508) (Value.ref 244)), (DictEntry.mk (PyData.keyHash P (s A 42)) (Value.str (s A 42) 540) (Value.ref 272)), (DictEntry.mk (PyData.keyHash P (s A 43)) (Value.str (s A 43) 575) (Value.ref 292)), (DictEntry.mk (PyData.keyHash P (s A 44)) (Value.str (s A 44) 612) (Value.ref 314)), (DictEntry.mk (PyData.keyHash P (s A 45)) (Value.str (s A 45) 622) (Value.ref 325)), (DictEntry.mk (PyData.keyHash P (s A 46)) (Value.str (s A 46) 689) (Value.ref 371)), (DictEntry.mk (PyData.keyHash P (s A 47)) (Value.str (s A 47) 697) (Value.ref 382))] 44) #[]))
noncomputable def o_385 (A : AT) : Params → Obj := (fun P => (Obj.mk Value.none none (Data.fields #[(Value.int 1 0), (Value.int 0 0), (Value.ref 20), (Value.int 5 0), (Value.int 0 0), (Value.ref 27), (Value.int 7 0), (Value.int 0 0), (Value.ref 40), (Value.int 9 0), (Value.int 0 0), (Value.ref 52), (Value.int 11 0), (Value.int 0 0), (Value.ref 64), (Value.int 16 0), (Value.int 0 0), (Value.ref 84), (Value.int 18 0), (Value.int 0 0), (Value.ref 91), (Value.int 20 0), (Value.int 0 0), (Value.ref 98), (Value.int 24 0), (Value.int 0 0), (Value.ref 105), (Value.int 26 0), (Value.int 0 0), (Value.ref 112), (Value.int 32 0), (Value.int 0 0), (Value.ref 119), (Value.int 35 0), (Value.int 0 0), (Value.ref 126), (Value.int 38 0), (Value.int 0 0), (Value.ref 133), (Value.int 41 0), (Value.int 0 0), (Value.ref 140), (Value.int 45 0), (Value.int 0 0), (Value.ref 147), (Value.int 55 0), (Value.int 0 0), (Value.ref 154), (Value.int 59 0), (Value.int 0 0), (Value.ref 161), (Value.int 66 0), (Value.int 0 0), (Value.ref 166), (Value.int 71 0), (Value.int 0 0), (Value.ref 173), (Value.int 79 0), (Value.int 0 0), (Value.ref 195), (Value.int 81 0), (Value.int 0 0), (Value.ref 202), (Value.int 83 0), (Value.int 0 0), (Value.ref 209), (Value.int 87 0), (Value.int 0 0), (Value.ref 214), (Value.int 91 0), (Value.int 0 0), (Value.ref 219), (Value.int 96 0), (Value.int 0 0), (Value.ref 226), (Value.int 99 0), (Value.int 0 0), (Value.ref 240), (Value.int 101 0), (Value.int 0 0), (Value.ref 254), (Value.int 109 0), (Value.int 0 0), (Value.ref 280), (Value.int 121 0), (Value.int 0 0), (Value.ref 302), (Value.int 140 0), (Value.int 0 0), (Value.ref 324), (Value.int 146 0), (Value.int 0 0), (Value.ref 331), (Value.int 169 0), (Value.int 0 0), (Value.ref 381)]) #[]))
noncomputable def o_386 (A : AT) : Params → Obj := (fun P => (Obj.mk (Value.type (t A 2)) none (Data.seq #[] 0) #[]))
noncomputable def o_387 (A : AT) : Params → Obj := (fun P => (Obj.mk (Value.type (t A 8)) none (Data.fields #[(Value.builtin (t A 13)), (Value.type (t A 5))]) #[]))
noncomputable def o_388 (A : AT) : Params → Obj := (fun P => (Obj.mk (Value.type (t A 0)) none (Data.dict #[(DictEntry.mk (PyData.keyHash P (s A 62)) (Value.str (s A 62) 630) (Value.str (s A 33) 541)), (DictEntry.mk (PyData.keyHash P (s A 87)) (Value.str (s A 87) 632) (Value.str (s A 46) 631)), (DictEntry.mk (PyData.keyHash P (s A 63)) (Value.str (s A 63) 634) (Value.int 146 633)), (DictEntry.mk (PyData.keyHash P (s A 64)) (Value.str (s A 64) 646) (Value.ref 340)), (DictEntry.mk (PyData.keyHash P (s A 67)) (Value.str (s A 67) 654) (Value.ref 347)), (DictEntry.mk (PyData.keyHash P (s A 100)) (Value.str (s A 100) 662) (Value.ref 354)), (DictEntry.mk (PyData.keyHash P (s A 94)) (Value.str (s A 94) 670) (Value.ref 361)), (DictEntry.mk (PyData.keyHash P (s A 110)) (Value.str (s A 110) 677) (Value.ref 368)), (DictEntry.mk (PyData.keyHash P (s A 65)) (Value.str (s A 65) 682) (Value.ref 369))] 9) #[]))
noncomputable def o_389 (A : AT) : Params → Obj := (fun P => (Obj.mk (Value.type (t A 2)) none (Data.seq #[] 0) #[]))
noncomputable def o_390 (A : AT) : Params → Obj := (fun P => (Obj.mk Value.none none (Data.fields #[(Value.int 148 0), (Value.int 4 0), (Value.ref 339), (Value.int 158 0), (Value.int 4 0), (Value.ref 346), (Value.int 161 0), (Value.int 4 0), (Value.ref 353), (Value.int 164 0), (Value.int 4 0), (Value.ref 360), (Value.int 167 0), (Value.int 4 0), (Value.ref 367)]) #[]))
noncomputable def o_391 (A : AT) : Params → Obj := (fun P => (Obj.mk (Value.type (t A 4)) none (Data.fields #[(Value.str (s A 46) 625), (Value.str (s A 46) 626), (Value.str (s A 9) 627), (Value.int 146 0), (Value.int 0 0), (Value.int 0 0), (Value.int 0 0), (Value.int 0 0), (Value.ref 329), (Value.bool false), (Value.int 181 0), (Value.ref 330), Value.none, Value.none, Value.none, Value.none, (Value.int 628 0), (Value.int 146 0), (Value.str (s A 9) 629)]) #[]))
noncomputable def o_392 (A : AT) : Params → Obj := (fun P => (Obj.mk (Value.type (t A 15)) none Data.plain #[(some (Value.ref 331)), (some (Value.ref 3)), (some (Value.ref 328)), none, (some (Value.str (s A 33) 541)), none, (some (Value.ref 0))]))
noncomputable def o_393 (A : AT) : Params → Obj := (fun P => (Obj.mk (Value.type (t A 2)) none (Data.seq #[(Value.int 0 635), Value.none, Value.none, Value.none] 0) #[]))
noncomputable def o_394 (A : AT) : Params → Obj := (fun P => (Obj.mk (Value.type (t A 2)) none (Data.seq #[] 0) #[]))
noncomputable def o_395 (A : AT) : Params → Obj := (fun P => (Obj.mk Value.none none (Data.fields #[]) #[]))
noncomputable def o_396 (A : AT) : Params → Obj := (fun P => (Obj.mk (Value.type (t A 2)) none (Data.seq #[(Value.str (s A 71) 639), (Value.str (s A 58) 640), (Value.str (s A 72) 641), (Value.str (s A 73) 642), (Value.str (s A 74) 643)] 0) #[]))
noncomputable def o_397 (A : AT) : Params → Obj := (fun P => (Obj.mk (Value.type (t A 2)) none (Data.seq #[] 0) #[]))
noncomputable def o_398 (A : AT) : Params → Obj := (fun P => (Obj.mk Value.none none (Data.func (FuncData.mk (s A 64) (s A 135) (defArgs (inClass (stm A 42) 0)) (FuncBody.stmts (defBody (inClass (stm A 42) 0))) (defScope (inClass (stm A 42) 0)) 0 [] Value.none Value.none Value.none Value.none none Value.none Value.none 0)) #[]))
noncomputable def o_399 (A : AT) : Params → Obj := (fun P => (Obj.mk (Value.type (t A 4)) none (Data.fields #[(Value.str (s A 64) 636), (Value.str (s A 135) 637), (Value.str (s A 9) 638), (Value.int 148 0), (Value.int 5 0), (Value.int 0 0), (Value.int 0 0), (Value.int 3 0), (Value.ref 334), (Value.bool true), (Value.int 181 0), (Value.ref 335), Value.none, (Value.ref 336), (Value.ref 337), (Value.ref 338), (Value.int 644 0), (Value.int 148 0), (Value.str (s A 9) 645)]) #[]))
noncomputable def o_400 (A : AT) : Params → Obj := (fun P => (Obj.mk (Value.type (t A 3)) none (Data.func (FuncData.mk (s A 64) (s A 135) (defArgs (inClass (stm A 42) 0)) (FuncBody.stmts (defBody (inClass (stm A 42) 0))) (defScope (inClass (stm A 42) 0)) 3 [] (Value.ref 333) Value.none Value.none (Value.str (s A 33) 541) none (Value.ref 339) Value.none 0)) #[]))
noncomputable def o_401 (A : AT) : Params → Obj := (fun P => (Obj.mk (Value.type (t A 2)) none (Data.seq #[] 0) #[]))
noncomputable def o_402 (A : AT) : Params → Obj := (fun P => (Obj.mk Value.none none (Data.fields #[]) #[]))
noncomputable def o_403 (A : AT) : Params → Obj := (fun P => (Obj.mk (Value.type (t A 2)) none (Data.seq #[(Value.str (s A 71) 650), (Value.str (s A 120) 651)] 0) #[]))
noncomputable def o_404 (A : AT) : Params → Obj := (fun P => (Obj.mk (Value.type (t A 2)) none (Data.seq #[] 0) #[]))
noncomputable def o_405 (A : AT) : Params → Obj := (fun P => (Obj.mk Value.none none (Data.func (FuncData.mk (s A 67) (s A 68) (defArgs (inClass (stm A 42) 1)) (FuncBody.stmts (defBody (inClass (stm A 42) 1))) (defScope (inClass (stm A 42) 1)) 0 [] Value.none Value.none Value.none Value.none none Value.none Value.none 0)) #[]))
noncomputable def o_406 (A : AT) : Params → Obj := (fun P => (Obj.mk (Value.type (t A 4)) none (Data.fields #[(Value.str (s A 67) 647), (Value.str (s A 68) 648), (Value.str (s A 9) 649), (Value.int 158 0), (Value.int 2 0), (Value.int 0 0), (Value.int 0 0), (Value.int 3 0), (Value.ref 341), (Value.bool true), (Value.int 181 0), (Value.ref 342), Value.none, (Value.ref 343), (Value.ref 344), (Value.ref 345), (Value.int 652 0), (Value.int 158 0), (Value.str (s A 9) 653)]) #[]))
noncomputable def o_407 (A : AT) : Params → Obj := (fun P => (Obj.mk (Value.type (t A 3)) none (Data.func (FuncData.mk (s A 67) (s A 68) (defArgs (inClass (stm A 42) 1)) (FuncBody.stmts (defBody (inClass (stm A 42) 1))) (defScope (inClass (stm A 42) 1)) 3 [] Value.none Value.none Value.none (Value.str (s A 33) 541) none (Value.ref 346) Value.none 0)) #[]))
noncomputable def o_408 (A : AT) : Params → Obj := (fun P => (Obj.mk (Value.type (t A 2)) none (Data.seq #[] 0) #[]))
noncomputable def o_409 (A : AT) : Params → Obj := (fun P => (Obj.mk Value.none none (Data.fields #[]) #[]))
noncomputable def o_410 (A : AT) : Params → Obj := (fun P => (Obj.mk (Value.type (t A 2)) none (Data.seq #[(Value.str (s A 71) 658), (Value.str (s A 120) 659)] 0) #[]))
noncomputable def o_411 (A : AT) : Params → Obj := (fun P => (Obj.mk (Value.type (t A 2)) none (Data.seq #[] 0) #[]))
noncomputable def o_412 (A : AT) : Params → Obj := (fun P => (Obj.mk Value.none none (Data.func (FuncData.mk (s A 100) (s A 101) (defArgs (inClass (stm A 42) 2)) (FuncBody.stmts (defBody (inClass (stm A 42) 2))) (defScope (inClass (stm A 42) 2)) 0 [] Value.none Value.none Value.none Value.none none Value.none Value.none 0)) #[]))
noncomputable def o_413 (A : AT) : Params → Obj := (fun P => (Obj.mk (Value.type (t A 4)) none (Data.fields #[(Value.str (s A 100) 655), (Value.str (s A 101) 656), (Value.str (s A 9) 657), (Value.int 161 0), (Value.int 2 0), (Value.int 0 0), (Value.int 0 0), (Value.int 3 0), (Value.ref 348), (Value.bool true), (Value.int 181 0), (Value.ref 349), Value.none, (Value.ref 350), (Value.ref 351), (Value.ref 352), (Value.int 660 0), (Value.int 161 0), (Value.str (s A 9) 661)]) #[]))
noncomputable def o_414 (A : AT) : Params → Obj := (fun P => (Obj.mk (Value.type (t A 3)) none (Data.func (FuncData.mk (s A 100) (s A 101) (defArgs (inClass (stm A 42) 2)) (FuncBody.stmts (defBody (inClass (stm A 42) 2))) (defScope (inClass (stm A 42) 2)) 3 [] Value.none Value.none Value.none (Value.str (s A 33) 541) none (Value.ref 353) Value.none 0)) #[]))
noncomputable def o_415 (A : AT) : Params → Obj := (fun P => (Obj.mk (Value.type (t A 2)) none (Data.seq #[] 0) #[]))
noncomputable def o_416 (A : AT) : Params → Obj := (fun P => (Obj.mk Value.none none (Data.fields #[]) #[]))
noncomputable def o_417 (A : AT) : Params → Obj := (fun P => (Obj.mk (Value.type (t A 2)) none (Data.seq #[(Value.str (s A 71) 666), (Value.str (s A 132) 667)] 0) #[]))
noncomputable def o_418 (A : AT) : Params → Obj := (fun P => (Obj.mk (Value.type (t A 2)) none (Data.seq #[] 0) #[]))
noncomputable def o_419 (A : AT) : Params → Obj := (fun P => (Obj.mk Value.none none (Data.func (FuncData.mk (s A 94) (s A 95) (defArgs (inClass (stm A 42) 3)) (FuncBody.stmts (defBody (inClass (stm A 42) 3))) (defScope (inClass (stm A 42) 3)) 0 [] Value.none Value.none Value.none Value.none none Value.none Value.none 0)) #[]))
noncomputable def o_420 (A : AT) : Params → Obj := (fun P => (Obj.mk (Value.type (t A 4)) none (Data.fields #[(Value.str (s A 94) 663), (Value.str (s A 95) 664), (Value.str (s A 9) 665), (Value.int 164 0), (Value.int 2 0), (Value.int 0 0), (Value.int 0 0), (Value.int 3 0), (Value.ref 355), (Value.bool true), (Value.int 181 0), (Value.ref 356), Value.none, (Value.ref 357), (Value.ref 358), (Value.ref 359), (Value.int 668 0), (Value.int 164 0), (Value.str (s A 9) 669)]) #[]))
noncomputable def o_421 (A : AT) : Params → Obj := (fun P => (Obj.mk (Value.type (t A 3)) none (Data.func (FuncData.mk (s A 94) (s A 95) (defArgs (inClass (stm A 42) 3)) (FuncBody.stmts (defBody (inClass (stm A 42) 3))) (defScope (inClass (stm A 42) 3)) 3 [] Value.none Value.none Value.none (Value.str (s A 33) 541) none (Value.ref 360) Value.none 0)) #[]))
noncomputable def o_422 (A : AT) : Params → Obj := (fun P => (Obj.mk (Value.type (t A 2)) none (Data.seq #[] 0) #[]))
noncomputable def o_423 (A : AT) : Params → Obj := (fun P => (Obj.mk Value.none none (Data.fields #[]) #[]))
noncomputable def o_424 (A : AT) : Params → Obj := (fun P => (Obj.mk (Value.type (t A 2)) none (Data.seq #[(Value.str (s A 71) 674)] 0) #[]))
noncomputable def o_425 (A : AT) : Params → Obj := (fun P => (Obj.mk (Value.type (t A 2)) none (Data.seq #[] 0) #[]))
noncomputable def o_426 (A : AT) : Params → Obj := (fun P => (Obj.mk Value.none none (Data.func (FuncData.mk (s A 110) (s A 117) (defArgs (inClass (stm A 42) 4)) (FuncBody.stmts (defBody (inClass (stm A 42) 4))) (defScope (inClass (stm A 42) 4)) 0 [] Value.none Value.none Value.none Value.none none Value.none Value.none 0)) #[]))
noncomputable def o_427 (A : AT) : Params → Obj := (fun P => (Obj.mk (Value.type (t A 4)) none (Data.fields #[(Value.str (s A 110) 671), (Value.str (s A 117) 672), (Value.str (s A 9) 673), (Value.int 167 0), (Value.int 1 0), (Value.int 0 0), (Value.int 0 0), (Value.int 3 0), (Value.ref 362), (Value.bool true), (Value.int 181 0), (Value.ref 363), Value.none, (Value.ref 364), (Value.ref 365), (Value.ref 366), (Value.int 675 0), (Value.int 167 0), (Value.str (s A 9) 676)]) #[]))
noncomputable def o_428 (A : AT) : Params → Obj := (fun P => (Obj.mk (Value.type (t A 3)) none (Data.func (FuncData.mk (s A 110) (s A 117) (defArgs (inClass (stm A 42) 4)) (FuncBody.stmts (defBody (inClass (stm A 42) 4))) (defScope (inClass (stm A 42) 4)) 3 [] Value.none Value.none Value.none (Value.str (s A 33) 541) none (Value.ref 367) Value.none 0)) #[]))
noncomputable def o_429 (A : AT) : Params → Obj := (fun P => (Obj.mk (Value.type (t A 2)) none (Data.seq #[(Value.str (s A 74) 678), (Value.str (s A 72) 679), (Value.str (s A 73) 680), (Value.str (s A 58) 681)] 0) #[]))
noncomputable def o_430 (A : AT) : Params → Obj := (fun P => (Obj.mk (Value.type (t A 0)) none (Data.dict #[(DictEntry.mk (PyData.keyHash P (s A 62)) (Value.str (s A 62) 630) (Value.str (s A 33) 541)), (DictEntry.mk (PyData.keyHash P (s A 63)) (Value.str (s A 63) 634) (Value.int 146 633)), (DictEntry.mk (PyData.keyHash P (s A 64)) (Value.str (s A 64) 646) (Value.ref 340)), (DictEntry.mk (PyData.keyHash P (s A 67)) (Value.str (s A 67) 654) (Value.ref 347)), (DictEntry.mk (PyData.keyHash P (s A 100)) (Value.str (s A 100) 662) (Value.ref 354)), (DictEntry.mk (PyData.keyHash P (s A 94)) (Value.str (s A 94) 670) (Value.ref 361)), (DictEntry.mk (PyData.keyHash P (s A 110)) (Value.str (s A 110) 677) (Value.ref 368)), (DictEntry.mk (PyData.keyHash P (s A 65)) (Value.str (s A 65) 682) (Value.ref 369)), (DictEntry.mk (PyData.keyHash P (s A 61)) (Value.str (s A 61) 684) (Value.ref 372)), (DictEntry.mk (PyData.keyHash P (s A 66)) (Value.str (s A 66) 686) (Value.ref 373)), (DictEntry.mk (PyData.keyHash P (s A 2)) (Value.str (s A 2) 687) Value.none)] 4) #[]))
noncomputable def o_431 (A : AT) : Params → Obj := (fun P => (Obj.mk (Value.type (t A 5)) none (Data.cls (ClassData.mk (s A 46) [(Value.type (t A 6))] [(Value.ref 371), (Value.type (t A 6))] 370 (s A 46) true [] [] false none false)) #[none, none, (some (Value.str (s A 46) 623)), (some (Value.str (s A 46) 631)), (some (Value.builtin (t A 7))), (some (Value.bool true))]))
noncomputable def o_432 (A : AT) : Params → Obj := (fun P => (Obj.mk (Value.type (t A 10)) none (Data.fields #[(Value.str (s A 61) 683), (Value.ref 371), (Value.builtin (t A 11)), (Value.builtin (t A 12))]) #[]))
noncomputable def o_433 (A : AT) : Params → Obj := (fun P => (Obj.mk (Value.type (t A 10)) none (Data.fields #[(Value.str (s A 66) 685), (Value.ref 371), (Value.builtin (t A 20)), Value.none]) #[]))
noncomputable def o_434 (A : AT) : Params → Obj := (fun P => (Obj.mk (Value.type (t A 14)) none (Data.fields #[(Value.ref 371), (Value.ref 371), (Value.ref 371)]) #[]))
noncomputable def o_435 (A : AT) : Params → Obj := (fun P => (Obj.mk (Value.type (t A 8)) none (Data.fields #[(Value.builtin (t A 9)), (Value.ref 371)]) #[]))
noncomputable def o_436 (A : AT) : Params → Obj := (fun P => (Obj.mk (Value.type (t A 2)) none (Data.seq #[] 0) #[]))
noncomputable def o_437 (A : AT) : Params → Obj := (fun P => (Obj.mk Value.none none (Data.fields #[]) #[]))
noncomputable def o_438 (A : AT) : Params → Obj := (fun P => (Obj.mk (Value.type (t A 2)) none (Data.seq #[(Value.str (s A 73) 693), (Value.str (s A 72) 694)] 0) #[]))
noncomputable def o_439 (A : AT) : Params → Obj := (fun P => (Obj.mk (Value.type (t A 2)) none (Data.seq #[] 0) #[]))
noncomputable def o_440 (A : AT) : Params → Obj := (fun P => (Obj.mk Value.none none (Data.func (FuncData.mk (s A 47) (s A 47) (defArgs (stm A 43)) (FuncBody.stmts (defBody (stm A 43))) (defScope (stm A 43)) 0 [] Value.none Value.none Value.none Value.none none Value.none Value.none 0)) #[]))
noncomputable def o_441 (A : AT) : Params → Obj := (fun P => (Obj.mk (Value.type (t A 4)) none (Data.fields #[(Value.str (s A 47) 690), (Value.str (s A 47) 691), (Value.str (s A 9) 692), (Value.int 169 0), (Value.int 2 0), (Value.int 0 0), (Value.int 0 0), (Value.int 3 0), (Value.ref 376), (Value.bool true), (Value.int 181 0), (Value.ref 377), Value.none, (Value.ref 378), (Value.ref 379), (Value.ref 380), (Value.int 695 0), (Value.int 169 0), (Value.str (s A 9) 696)]) #[]))
noncomputable def o_442 (A : AT) : Params → Obj := (fun P => (Obj.mk (Value.type (t A 3)) none (Data.func (FuncData.mk (s A 47) (s A 47) (defArgs (stm A 43)) (FuncBody.stmts (defBody (stm A 43))) (defScope (stm A 43)) 3 [] Value.none Value.none Value.none (Value.str (s A 33) 541) none (Value.ref 381) Value.none 0)) #[]))
noncomputable def o_443 (A : AT) : Params → Obj := (fun P => (Obj.mk (Value.type (t A 0)) none (Data.dict #[(DictEntry.mk (PyData.keyHash P (s A 0)) (Value.str (s A 0) 165) (Value.str (s A 49) 704)), (DictEntry.mk (PyData.keyHash P (s A 2)) (Value.str (s A 2) 166) Value.none), (DictEntry.mk (PyData.keyHash P (s A 3)) (Value.str (s A 3) 167) Value.none), (DictEntry.mk (PyData.keyHash P (s A 4)) (Value.str (s A 4) 168) (Value.builtin (t A 1))), (DictEntry.mk (PyData.keyHash P (s A 5)) (Value.str (s A 5) 169) Value.none), (DictEntry.mk (PyData.keyHash P (s A 6)) (Value.str (s A 6) 170) (Value.ref 6)), (DictEntry.mk (PyData.keyHash P (s A 7)) (Value.str (s A 7) 171) (Value.ref 4)), (DictEntry.mk (PyData.keyHash P (s A 8)) (Value.str (s A 8) 173) (Value.str (s A 9) 172)), (DictEntry.mk (PyData.keyHash P (s A 10)) (Value.str (s A 10) 174) Value.none), (DictEntry.mk (PyData.keyHash P (s A 11)) (Value.str (s A 11) 193) (Value.ref 21)), (DictEntry.mk (PyData.keyHash P (s A 12)) (Value.str (s A 12) 213) (Value.ref 31)), (DictEntry.mk (PyData.keyHash P (s A 13)) (Value.str (s A 13) 229) (Value.ref 44)), (DictEntry.mk (PyData.keyHash P (s A 14)) (Value.str (s A 14) 245) (Value.ref 56)), (DictEntry.mk (PyData.keyHash P (s A 15)) (Value.str (s A 15) 270) (Value.ref 76)), (DictEntry.mk (PyData.keyHash P (s A 16)) (Value.str (s A 16) 279) (Value.ref 85)), (DictEntry.mk (PyData.keyHash P (s A 17)) (Value.str (s A 17) 288) (Value.ref 92)), (DictEntry.mk (PyData.keyHash P (s A 18)) (Value.str (s A 18) 296) (Value.ref 99)), (DictEntry.mk (PyData.keyHash P (s A 19)) (Value.str (s A 19) 300) (Value.int 1440 299)), (DictEntry.mk (PyData.keyHash P (s A 20)) (Value.str (s A 20) 307) (Value.ref 106)), (DictEntry.mk (PyData.keyHash P (s A 21)) (Value.str (s A 21) 314) (Value.ref 113)), (DictEntry.mk (PyData.keyHash P (s A 22)) (Value.str (s A 22) 321) (Value.ref 120)), (DictEntry.mk (PyData.keyHash P (s A 23)) (Value.str (s A 23) 328) (Value.ref 127)), (DictEntry.mk (PyData.keyHash P (s A 24)) (Value.str (s A 24) 335) (Value.ref 134)), (DictEntry.mk (PyData.keyHash P (s A 25)) (Value.str (s A 25) 344) (Value.ref 141)), (DictEntry.mk (PyData.keyHash P (s A 26)) (Value.str (s A 26) 356) (Value.ref 148)), (DictEntry.mk (PyData.keyHash P (s A 27)) (Value.str (s A 27) 365) (Value.ref 155)), (DictEntry.mk (PyData.keyHash P (s A 28)) (Value.str (s A 28) 374) (Value.ref 162)), (DictEntry.mk (PyData.keyHash P (s A 29)) (Value.str (s A 29) 378) (Value.str (s A 30) 377)), (DictEntry.mk (PyData.keyHash P (s A 31)) (Value.str (s A 31) 380) (Value.int 8 379)), (DictEntry.mk (PyData.keyHash P (s A 32)) (Value.str (s A 32) 386) (Value.ref 167)), (DictEntry.mk (PyData.keyHash P (s A 34)) (Value.str (s A 34) 422) (Value.ref 185)), (DictEntry.mk (PyData.keyHash P (s A 35)) (Value.str (s A 35) 430) (Value.ref 196)), (DictEntry.mk (PyData.keyHash P (s A 36)) (Value.str (s A 36) 440) (Value.ref 203)), (DictEntry.mk (PyData.keyHash P (s A 37)) (Value.str (s A 37) 450) (Value.ref 210)), (DictEntry.mk (PyData.keyHash P (s A 38)) (Value.str (s A 38) 456) (Value.ref 215)), (DictEntry.mk (PyData.keyHash P (s A 39)) (Value.str (s A 39) 464) (Value.ref 220)), (DictEntry.mk (PyData.keyHash P (s A 40)) (Value.str (s A 40) 486) (Value.ref 230)), (DictEntry.mk (PyData.keyHash P (s A 41)) (Value.str (s A 41) 508) (Value.ref 244)), (DictEntry.mk (PyData.keyHash P (s A 42)) (Value.str (s A 42) 540) (Value.ref 272)), (DictEntry.mk (PyData.keyHash P (s A 43)) (Value.str (s A 43) 575) (Value.ref 292)), (DictEntry.mk (PyData.keyHash P (s A 44)) (Value.str (s A 44) 612) (Value.ref 314)), (DictEntry.mk (PyData.keyHash P (s A 45)) (Value.str (s A 45) 622) (Value.ref 325)), (DictEntry.mk (PyData.keyHash P (s A 46)) (Value.str (s A 46) 689) (Value.ref 371)), (DictEntry.mk (PyData.keyHash P (s A 47)) (Value.str (s A 47) 697) (Value.ref 382)), (DictEntry.mk (PyData.keyHash P (s A 75)) (Value.str (s A 75) 703) (Value.ref 387)), (DictEntry.mk (PyData.keyHash P (s A 69)) (Value.str (s A 69) 713) (Value.ref 394)), (DictEntry.mk (PyData.keyHash P (s A 51)) (Value.str (s A 51) 722) (Value.ref 401)), (DictEntry.mk (PyData.keyHash P (s A 76)) (Value.str (s A 76) 729) (Value.ref 408)), (DictEntry.mk (PyData.keyHash P (s A 77)) (Value.str (s A 77) 739) (Value.ref 415)), (DictEntry.mk (PyData.keyHash P (s A 78)) (Value.str (s A 78) 746) (Value.ref 422)), (DictEntry.mk (PyData.keyHash P (s A 79)) (Value.str (s A 79) 752) (Value.ref 427)), (DictEntry.mk (PyData.keyHash P (s A 80)) (Value.str (s A 80) 762) (Value.ref 434)), (DictEntry.mk (PyData.keyHash P (s A 81)) (Value.str (s A 81) 771) (Value.ref 441)), (DictEntry.mk (PyData.keyHash P (s A 82)) (Value.str (s A 82) 783) (Value.ref 448)), (DictEntry.mk (PyData.keyHash P (s A 56)) (Value.str (s A 56) 795) (Value.ref 455)), (DictEntry.mk (PyData.keyHash P (s A 70)) (Value.str (s A 70) 801) (Value.ref 460)), (DictEntry.mk (PyData.keyHash P (s A 83)) (Value.str (s A 83) 807) (Value.ref 465))] 57) #[]))
noncomputable def o_444 (A : AT) : Params → Obj := (fun P => (Obj.mk Value.none none (Data.fields #[(Value.int 1 0), (Value.int 0 0), (Value.ref 20), (Value.int 5 0), (Value.int 0 0), (Value.ref 27), (Value.int 7 0), (Value.int 0 0), (Value.ref 40), (Value.int 9 0), (Value.int 0 0), (Value.ref 52), (Value.int 11 0), (Value.int 0 0), (Value.ref 64), (Value.int 16 0), (Value.int 0 0), (Value.ref 84), (Value.int 18 0), (Value.int 0 0), (Value.ref 91), (Value.int 20 0), (Value.int 0 0), (Value.ref 98), (Value.int 24 0), (Value.int 0 0), (Value.ref 105), (Value.int 26 0), (Value.int 0 0), (Value.ref 112), (Value.int 32 0), (Value.int 0 0), (Value.ref 119), (Value.int 35 0), (Value.int 0 0), (Value.ref 126), (Value.int 38 0), (Value.int 0 0), (Value.ref 133), (Value.int 41 0), (Value.int 0 0), (Value.ref 140), (Value.int 45 0), (Value.int 0 0), (Value.ref 147), (Value.int 55 0), (Value.int 0 0), (Value.ref 154), (Value.int 59 0), (Value.int 0 0), (Value.ref 161), (Value.int 66 0), (Value.int 0 0), (Value.ref 166), (Value.int 71 0), (Value.int 0 0), (Value.ref 173), (Value.int 79 0), (Value.int 0 0), (Value.ref 195), (Value.int 81 0), (Value.int 0 0), (Value.ref 202), (Value.int 83 0), (Value.int 0 0), (Value.ref 209), (Value.int 87 0), (Value.int 0 0), (Value.ref 214), (Value.int 91 0), (Value.int 0 0), (Value.ref 219), (Value.int 96 0), (Value.int 0 0), (Value.ref 226), (Value.int 99 0), (Value.int 0 0), (Value.ref 240), (Value.int 101 0), (Value.int 0 0), (Value.ref 254), (Value.int 109 0), (Value.int 0 0), (Value.ref 280), (Value.int 121 0), (Value.int 0 0), (Value.ref 302), (Value.int 140 0), (Value.int 0 0), (Value.ref 324), (Value.int 146 0), (Value.int 0 0), (Value.ref 331), (Value.int 169 0), (Value.int 0 0), (Value.ref 381), (Value.int 174 0), (Value.int 0 0), (Value.ref 386), (Value.int 180 0), (Value.int 0 0), (Value.ref 393), (Value.int 184 0), (Value.int 0 0), (Value.ref 400), (Value.int 188 0), (Value.int 0 0), (Value.ref 407), (Value.int 190 0), (Value.int 0 0), (Value.ref 414), (Value.int 200 0), (Value.int 0 0), (Value.ref 421), (Value.int 202 0), (Value.int 0 0), (Value.ref 426), (Value.int 213 0), (Value.int 0 0), (Value.ref 433), (Value.int 218 0), (Value.int 0 0), (Value.ref 440), (Value.int 227 0), (Value.int 0 0), (Value.ref 447), (Value.int 234 0), (Value.int 0 0), (Value.ref 454), (Value.int 240 0), (Value.int 0 0), (Value.ref 459), (Value.int 242 0), (Value.int 0 0), (Value.ref 464)]) #[]))
noncomputable def o_445 (A : AT) : Params → Obj := (fun P => (Obj.mk (Value.type (t A 2)) none (Data.seq #[] 0) #[]))
noncomputable def o_446 (A : AT) : Params → Obj := (fun P => (Obj.mk Value.none none (Data.fields #[]) #[]))
noncomputable def o_447 (A : AT) : Params → Obj := (fun P => (Obj.mk Value.none none (Data.func (FuncData.mk (s A 75) (s A 75) (defArgs (stm A 44)) (FuncBody.stmts (defBody (stm A 44))) (defScope (stm A 44)) 0 [] Value.none Value.none Value.none Value.none none Value.none Value.none 0)) #[]))
noncomputable def o_448 (A : AT) : Params → Obj := (fun P => (Obj.mk (Value.type (t A 4)) none (Data.fields #[(Value.str (s A 75) 698), (Value.str (s A 75) 699), (Value.str (s A 9) 700), (Value.int 174 0), (Value.int 1 0), (Value.int 0 0), (Value.int 0 0), (Value.int 3 0), (Value.ref 383), (Value.bool true), (Value.int 181 0), (Value.ref 384), Value.none, Value.none, Value.none, (Value.ref 385), (Value.int 701 0), (Value.int 174 0), (Value.str (s A 9) 702)]) #[]))
noncomputable def o_449 (A : AT) : Params → Obj := (fun P => (Obj.mk (Value.type (t A 3)) none (Data.func (FuncData.mk (s A 75) (s A 75) (defArgs (stm A 44)) (FuncBody.stmts (defBody (stm A 44))) (defScope (stm A 44)) 3 [] Value.none Value.none Value.none (Value.str (s A 33) 541) none (Value.ref 386) Value.none 0)) #[]))
noncomputable def o_450 (A : AT) : Params → Obj := (fun P => (Obj.mk (Value.type (t A 2)) none (Data.seq #[] 0) #[]))
noncomputable def o_451 (A : AT) : Params → Obj := (fun P => (Obj.mk Value.none none (Data.fields #[]) #[]))
noncomputable def o_452 (A : AT) : Params → Obj := (fun P => (Obj.mk (Value.type (t A 2)) none (Data.seq #[(Value.str (s A 99) 709), (Value.str (s A 91) 710)] 0) #[]))
noncomputable def o_453 (A : AT) : Params → Obj := (fun P => (Obj.mk (Value.type (t A 2)) none (Data.seq #[] 0) #[]))
noncomputable def o_454 (A : AT) : Params → Obj := (fun P => (Obj.mk Value.none none (Data.func (FuncData.mk (s A 69) (s A 69) (defArgs (stm A 46)) (FuncBody.stmts (defBody (stm A 46))) (defScope (stm A 46)) 0 [] Value.none Value.none Value.none Value.none none Value.none Value.none 0)) #[]))
noncomputable def o_455 (A : AT) : Params → Obj := (fun P => (Obj.mk (Value.type (t A 4)) none (Data.fields #[(Value.str (s A 69) 706), (Value.str (s A 69) 707), (Value.str (s A 9) 708), (Value.int 180 0), (Value.int 2 0), (Value.int 0 0), (Value.int 0 0), (Value.int 3 0), (Value.ref 388), (Value.bool true), (Value.int 181 0), (Value.ref 389), Value.none, (Value.ref 390), (Value.ref 391), (Value.ref 392), (Value.int 711 0), (Value.int 180 0), (Value.str (s A 9) 712)]) #[]))
noncomputable def o_456 (A : AT) : Params → Obj := (fun P => (Obj.mk (Value.type (t A 3)) none (Data.func (FuncData.mk (s A 69) (s A 69) (defArgs (stm A 46)) (FuncBody.stmts (defBody (stm A 46))) (defScope (stm A 46)) 3 [] Value.none Value.none Value.none (Value.str (s A 49) 704) none (Value.ref 393) Value.none 0)) #[]))
noncomputable def o_457 (A : AT) : Params → Obj := (fun P => (Obj.mk (Value.type (t A 2)) none (Data.seq #[] 0) #[]))
noncomputable def o_458 (A : AT) : Params → Obj := (fun P => (Obj.mk Value.none none (Data.fields #[]) #[]))
noncomputable def o_459 (A : AT) : Params → Obj := (fun P => (Obj.mk (Value.type (t A 2)) none (Data.seq #[(Value.str (s A 90) 717), (Value.str (s A 91) 718), (Value.str (s A 92) 719)] 0) #[]))
noncomputable def o_460 (A : AT) : Params → Obj := (fun P => (Obj.mk (Value.type (t A 2)) none (Data.seq #[] 0) #[]))
noncomputable def o_461 (A : AT) : Params → Obj := (fun P => (Obj.mk Value.none none (Data.func (FuncData.mk (s A 51) (s A 51) (defArgs (stm A 47)) (FuncBody.stmts (defBody (stm A 47))) (defScope (stm A 47)) 0 [] Value.none Value.none Value.none Value.none none Value.none Value.none 0)) #[]))
noncomputable def o_462 (A : AT) : Params → Obj := (fun P => (Obj.mk (Value.type (t A 4)) none (Data.fields #[(Value.str (s A 51) 714), (Value.str (s A 51) 715), (Value.str (s A 9) 716), (Value.int 184 0), (Value.int 2 0), (Value.int 0 0), (Value.int 0 0), (Value.int 3 0), (Value.ref 395), (Value.bool true), (Value.int 181 0), (Value.ref 396), Value.none, (Value.ref 397), (Value.ref 398), (Value.ref 399), (Value.int 720 0), (Value.int 184 0), (Value.str (s A 9) 721)]) #[]))
noncomputable def o_463 (A : AT) : Params → Obj := (fun P => (Obj.mk (Value.type (t A 3)) none (Data.func (FuncData.mk (s A 51) (s A 51) (defArgs (stm A 47)) (FuncBody.stmts (defBody (stm A 47))) (defScope (stm A 47)) 3 [] Value.none Value.none Value.none (Value.str (s A 49) 704) none (Value.ref 400) Value.none 0)) #[]))
noncomputable def o_464 (A : AT) : Params → Obj := (fun P => (Obj.mk (Value.type (t A 2)) none (Data.seq #[] 0) #[]))
noncomputable def o_465 (A : AT) : Params → Obj := (fun P => (Obj.mk Value.none none (Data.fields #[]) #[]))
noncomputable def o_466 (A : AT) : Params → Obj := (fun P => (Obj.mk (Value.type (t A 2)) none (Data.seq #[(Value.str (s A 90) 726)] 0) #[]))
noncomputable def o_467 (A : AT) : Params → Obj := (fun P => (Obj.mk (Value.type (t A 2)) none (Data.seq #[] 0) #[]))
noncomputable def o_468 (A : AT) : Params → Obj := (fun P => (Obj.mk Value.none none (Data.func (FuncData.mk (s A 76) (s A 76) (defArgs (stm A 48)) (FuncBody.stmts (defBody (stm A 48))) (defScope (stm A 48)) 0 [] Value.none Value.none Value.none Value.none none Value.none Value.none 0)) #[]))
noncomputable def o_469 (A : AT) : Params → Obj := (fun P => (Obj.mk (Value.type (t A 4)) none (Data.fields #[(Value.str (s A 76) 723), (Value.str (s A 76) 724), (Value.str (s A 9) 725), (Value.int 188 0), (Value.int 1 0), (Value.int 0 0), (Value.int 0 0), (Value.int 3 0), (Value.ref 402), (Value.bool true), (Value.int 181 0), (Value.ref 403), Value.none, (Value.ref 404), (Value.ref 405), (Value.ref 406), (Value.int 727 0), (Value.int 188 0), (Value.str (s A 9) 728)]) #[]))
noncomputable def o_470 (A : AT) : Params → Obj := (fun P => (Obj.mk (Value.type (t A 3)) none (Data.func (FuncData.mk (s A 76) (s A 76) (defArgs (stm A 48)) (FuncBody.stmts (defBody (stm A 48))) (defScope (stm A 48)) 3 [] Value.none Value.none Value.none (Value.str (s A 49) 704) none (Value.ref 407) Value.none 0)) #[]))
noncomputable def o_471 (A : AT) : Params → Obj := (fun P => (Obj.mk (Value.type (t A 2)) none (Data.seq #[] 0) #[]))
noncomputable def o_472 (A : AT) : Params → Obj := (fun P => (Obj.mk Value.none none (Data.fields #[]) #[]))
noncomputable def o_473 (A : AT) : Params → Obj := (fun P => (Obj.mk (Value.type (t A 2)) none (Data.seq #[(Value.str (s A 52) 733), (Value.str (s A 53) 734), (Value.str (s A 54) 735), (Value.str (s A 55) 736)] 0) #[]))
noncomputable def o_474 (A : AT) : Params → Obj := (fun P => (Obj.mk (Value.type (t A 2)) none (Data.seq #[] 0) #[]))
noncomputable def o_475 (A : AT) : Params → Obj := (fun P => (Obj.mk Value.none none (Data.func (FuncData.mk (s A 77) (s A 77) (defArgs (stm A 49)) (FuncBody.stmts (defBody (stm A 49))) (defScope (stm A 49)) 0 [] Value.none Value.none Value.none Value.none none Value.none Value.none 0)) #[]))
noncomputable def o_476 (A : AT) : Params → Obj := (fun P => (Obj.mk (Value.type (t A 4)) none (Data.fields #[(Value.str (s A 77) 730), (Value.str (s A 77) 731), (Value.str (s A 9) 732), (Value.int 190 0), (Value.int 2 0), (Value.int 0 0), (Value.int 0 0), (Value.int 3 0), (Value.ref 409), (Value.bool true), (Value.int 181 0), (Value.ref 410), Value.none, (Value.ref 411), (Value.ref 412), (Value.ref 413), (Value.int 737 0), (Value.int 190 0), (Value.str (s A 9) 738)]) #[]))
noncomputable def o_477 (A : AT) : Params → Obj := (fun P => (Obj.mk (Value.type (t A 3)) none (Data.func (FuncData.mk (s A 77) (s A 77) (defArgs (stm A 49)) (FuncBody.stmts (defBody (stm A 49))) (defScope (stm A 49)) 3 [] Value.none Value.none Value.none (Value.str (s A 49) 704) none (Value.ref 414) Value.none 0)) #[]))
noncomputable def o_478 (A : AT) : Params → Obj := (fun P => (Obj.mk (Value.type (t A 2)) none (Data.seq #[] 0) #[]))
noncomputable def o_479 (A : AT) : Params → Obj := (fun P => (Obj.mk Value.none none (Data.fields #[]) #[]))
noncomputable def o_480 (A : AT) : Params → Obj := (fun P => (Obj.mk (Value.type (t A 2)) none (Data.seq #[(Value.str (s A 54) 743)] 0) #[]))
noncomputable def o_481 (A : AT) : Params → Obj := (fun P => (Obj.mk (Value.type (t A 2)) none (Data.seq #[] 0) #[]))
noncomputable def o_482 (A : AT) : Params → Obj := (fun P => (Obj.mk Value.none none (Data.func (FuncData.mk (s A 78) (s A 78) (defArgs (stm A 50)) (FuncBody.stmts (defBody (stm A 50))) (defScope (stm A 50)) 0 [] Value.none Value.none Value.none Value.none none Value.none Value.none 0)) #[]))
noncomputable def o_483 (A : AT) : Params → Obj := (fun P => (Obj.mk (Value.type (t A 4)) none (Data.fields #[(Value.str (s A 78) 740), (Value.str (s A 78) 741), (Value.str (s A 9) 742), (Value.int 200 0), (Value.int 1 0), (Value.int 0 0), (Value.int 0 0), (Value.int 3 0), (Value.ref 416), (Value.bool true), (Value.int 181 0), (Value.ref 417), Value.none, (Value.ref 418), (Value.ref 419), (Value.ref 420), (Value.int 744 0), (Value.int 200 0), (Value.str (s A 9) 745)]) #[]))
noncomputable def o_484 (A : AT) : Params → Obj := (fun P => (Obj.mk (Value.type (t A 3)) none (Data.func (FuncData.mk (s A 78) (s A 78) (defArgs (stm A 50)) (FuncBody.stmts (defBody (stm A 50))) (defScope (stm A 50)) 3 [] Value.none Value.none Value.none (Value.str (s A 49) 704) none (Value.ref 421) Value.none 0)) #[]))
noncomputable def o_485 (A : AT) : Params → Obj := (fun P => (Obj.mk (Value.type (t A 2)) none (Data.seq #[] 0) #[]))
noncomputable def o_486 (A : AT) : Params → Obj := (fun P => (Obj.mk Value.none none (Data.fields #[]) #[]))
noncomputable def o_487 (A : AT) : Params → Obj := (fun P => (Obj.mk Value.none none (Data.func (FuncData.mk (s A 79) (s A 79) (defArgs (stm A 51)) (FuncBody.stmts (defBody (stm A 51))) (defScope (stm A 51)) 0 [] Value.none Value.none Value.none Value.none none Value.none Value.none 0)) #[]))
noncomputable def o_488 (A : AT) : Params → Obj := (fun P => (Obj.mk (Value.type (t A 4)) none (Data.fields #[(Value.str (s A 79) 747), (Value.str (s A 79) 748), (Value.str (s A 9) 749), (Value.int 202 0), (Value.int 2 0), (Value.int 0 0), (Value.int 0 0), (Value.int 3 0), (Value.ref 423), (Value.bool true), (Value.int 181 0), (Value.ref 424), Value.none, Value.none, Value.none, (Value.ref 425), (Value.int 750 0), (Value.int 202 0), (Value.str (s A 9) 751)]) #[]))
noncomputable def o_489 (A : AT) : Params → Obj := (fun P => (Obj.mk (Value.type (t A 3)) none (Data.func (FuncData.mk (s A 79) (s A 79) (defArgs (stm A 51)) (FuncBody.stmts (defBody (stm A 51))) (defScope (stm A 51)) 3 [] Value.none Value.none Value.none (Value.str (s A 49) 704) none (Value.ref 426) Value.none 0)) #[]))
noncomputable def o_490 (A : AT) : Params → Obj := (fun P => (Obj.mk (Value.type (t A 2)) none (Data.seq #[] 0) #[]))
noncomputable def o_491 (A : AT) : Params → Obj := (fun P => (Obj.mk Value.none none (Data.fields #[]) #[]))
noncomputable def o_492 (A : AT) : Params → Obj := (fun P => (Obj.mk (Value.type (t A 2)) none (Data.seq #[(Value.str (s A 52) 756), (Value.str (s A 143) 757), (Value.str (s A 141) 758), (Value.str (s A 106) 759)] 0) #[]))
noncomputable def o_493 (A : AT) : Params → Obj := (fun P => (Obj.mk (Value.type (t A 2)) none (Data.seq #[] 0) #[]))
noncomputable def o_494 (A : AT) : Params → Obj := (fun P => (Obj.mk Value.none none (Data.func (FuncData.mk (s A 80) (s A 80) (defArgs (stm A 52)) (FuncBody.stmts (defBody (stm A 52))) (defScope (stm A 52)) 0 [] Value.none Value.none Value.none Value.none none Value.none Value.none 0)) #[]))
noncomputable def o_495 (A : AT) : Params → Obj := (fun P => (Obj.mk (Value.type (t A 4)) none (Data.fields #[(Value.str (s A 80) 753), (Value.str (s A 80) 754), (Value.str (s A 9) 755), (Value.int 213 0), (Value.int 1 0), (Value.int 0 0), (Value.int 0 0), (Value.int 3 0), (Value.ref 428), (Value.bool true), (Value.int 181 0), (Value.ref 429), Value.none, (Value.ref 430), (Value.ref 431), (Value.ref 432), (Value.int 760 0), (Value.int 213 0), (Value.str (s A 9) 761)]) #[]))
noncomputable def o_496 (A : AT) : Params → Obj := (fun P => (Obj.mk (Value.type (t A 3)) none (Data.func (FuncData.mk (s A 80) (s A 80) (defArgs (stm A 52)) (FuncBody.stmts (defBody (stm A 52))) (defScope (stm A 52)) 3 [] Value.none Value.none Value.none (Value.str (s A 49) 704) none (Value.ref 433) Value.none 0)) #[]))
noncomputable def o_497 (A : AT) : Params → Obj := (fun P => (Obj.mk (Value.type (t A 2)) none (Data.seq #[] 0) #[]))
noncomputable def o_498 (A : AT) : Params → Obj := (fun P => (Obj.mk Value.none none (Data.fields #[]) #[]))
noncomputable def o_499 (A : AT) : Params → Obj := (fun P => (Obj.mk (Value.type (t A 2)) none (Data.seq #[(Value.str (s A 106) 766), (Value.str (s A 107) 767), (Value.str (s A 108) 768)] 0) #[]))
noncomputable def o_500 (A : AT) : Params → Obj := (fun P => (Obj.mk (Value.type (t A 2)) none (Data.seq #[] 0) #[]))
noncomputable def o_501 (A : AT) : Params → Obj := (fun P => (Obj.mk Value.none none (Data.func (FuncData.mk (s A 81) (s A 81) (defArgs (stm A 53)) (FuncBody.stmts (defBody (stm A 53))) (defScope (stm A 53)) 0 [] Value.none Value.none Value.none Value.none none Value.none Value.none 0)) #[]))
noncomputable def o_502 (A : AT) : Params → Obj := (fun P => (Obj.mk (Value.type (t A 4)) none (Data.fields #[(Value.str (s A 81) 763), (Value.str (s A 81) 764), (Value.str (s A 9) 765), (Value.int 218 0), (Value.int 1 0), (Value.int 0 0), (Value.int 0 0), (Value.int 3 0), (Value.ref 435), (Value.bool true), (Value.int 181 0), (Value.ref 436), Value.none, (Value.ref 437), (Value.ref 438), (Value.ref 439), (Value.int 769 0), (Value.int 218 0), (Value.str (s A 9) 770)]) #[]))
noncomputable def o_503 (A : AT) : Params → Obj := (fun P => (Obj.mk (Value.type (t A 3)) none (Data.func (FuncData.mk (s A 81) (s A 81) (defArgs (stm A 53)) (FuncBody.stmts (defBody (stm A 53))) (defScope (stm A 53)) 3 [] Value.none Value.none Value.none (Value.str (s A 49) 704) none (Value.ref 440) Value.none 0)) #[]))
noncomputable def o_504 (A : AT) : Params → Obj := (fun P => (Obj.mk (Value.type (t A 2)) none (Data.seq #[] 0) #[]))
noncomputable def o_505 (A : AT) : Params → Obj := (fun P => (Obj.mk Value.none none (Data.fields #[]) #[]))
noncomputable def o_506 (A : AT) : Params → Obj := (fun P => (Obj.mk (Value.type (t A 2)) none (Data.seq #[(Value.str (s A 52) 775), (Value.str (s A 140) 776), (Value.str (s A 141) 777), (Value.str (s A 54) 778), (Value.str (s A 91) 779), (Value.str (s A 142) 780)] 0) #[]))
noncomputable def o_507 (A : AT) : Params → Obj := (fun P => (Obj.mk (Value.type (t A 2)) none (Data.seq #[] 0) #[]))
noncomputable def o_508 (A : AT) : Params → Obj := (fun P => (Obj.mk Value.none none (Data.func (FuncData.mk (s A 82) (s A 82) (defArgs (stm A 54)) (FuncBody.stmts (defBody (stm A 54))) (defScope (stm A 54)) 0 [] Value.none Value.none Value.none Value.none none Value.none Value.none 0)) #[]))
noncomputable def o_509 (A : AT) : Params → Obj := (fun P => (Obj.mk (Value.type (t A 4)) none (Data.fields #[(Value.str (s A 82) 772), (Value.str (s A 82) 773), (Value.str (s A 9) 774), (Value.int 227 0), (Value.int 2 0), (Value.int 0 0), (Value.int 0 0), (Value.int 3 0), (Value.ref 442), (Value.bool true), (Value.int 181 0), (Value.ref 443), Value.none, (Value.ref 444), (Value.ref 445), (Value.ref 446), (Value.int 781 0), (Value.int 227 0), (Value.str (s A 9) 782)]) #[]))
noncomputable def o_510 (A : AT) : Params → Obj := (fun P => (Obj.mk (Value.type (t A 3)) none (Data.func (FuncData.mk (s A 82) (s A 82) (defArgs (stm A 54)) (FuncBody.stmts (defBody (stm A 54))) (defScope (stm A 54)) 3 [] Value.none Value.none Value.none (Value.str (s A 49) 704) none (Value.ref 447) Value.none 0)) #[]))
noncomputable def o_511 (A : AT) : Params → Obj := (fun P => (Obj.mk (Value.type (t A 2)) none (Data.seq #[] 0) #[]))
noncomputable def o_512 (A : AT) : Params → Obj := (fun P => (Obj.mk Value.none none (Data.fields #[]) #[]))
noncomputable def o_513 (A : AT) : Params → Obj := (fun P => (Obj.mk (Value.type (t A 2)) none (Data.seq #[(Value.str (s A 52) 787), (Value.str (s A 136) 788), (Value.str (s A 106) 789), (Value.str (s A 137) 790), (Value.str (s A 138) 791), (Value.str (s A 139) 792)] 0) #[]))
noncomputable def o_514 (A : AT) : Params → Obj := (fun P => (Obj.mk (Value.type (t A 2)) none (Data.seq #[] 0) #[]))
noncomputable def o_515 (A : AT) : Params → Obj := (fun P => (Obj.mk Value.none none (Data.func (FuncData.mk (s A 56) (s A 56) (defArgs (stm A 55)) (FuncBody.stmts (defBody (stm A 55))) (defScope (stm A 55)) 0 [] Value.none Value.none Value.none Value.none none Value.none Value.none 0)) #[]))
noncomputable def o_516 (A : AT) : Params → Obj := (fun P => (Obj.mk (Value.type (t A 4)) none (Data.fields #[(Value.str (s A 56) 784), (Value.str (s A 56) 785), (Value.str (s A 9) 786), (Value.int 234 0), (Value.int 4 0), (Value.int 0 0), (Value.int 0 0), (Value.int 3 0), (Value.ref 449), (Value.bool true), (Value.int 181 0), (Value.ref 450), Value.none, (Value.ref 451), (Value.ref 452), (Value.ref 453), (Value.int 793 0), (Value.int 234 0), (Value.str (s A 9) 794)]) #[]))
noncomputable def o_517 (A : AT) : Params → Obj := (fun P => (Obj.mk (Value.type (t A 3)) none (Data.func (FuncData.mk (s A 56) (s A 56) (defArgs (stm A 55)) (FuncBody.stmts (defBody (stm A 55))) (defScope (stm A 55)) 3 [] Value.none Value.none Value.none (Value.str (s A 49) 704) none (Value.ref 454) Value.none 0)) #[]))
noncomputable def o_518 (A : AT) : Params → Obj := (fun P => (Obj.mk (Value.type (t A 2)) none (Data.seq #[] 0) #[]))
noncomputable def o_519 (A : AT) : Params → Obj := (fun P => (Obj.mk Value.none none (Data.fields #[]) #[]))
noncomputable def o_520 (A : AT) : Params → Obj := (fun P => (Obj.mk Value.none none (Data.func (FuncData.mk (s A 70) (s A 70) (defArgs (stm A 56)) (FuncBody.stmts (defBody (stm A 56))) (defScope (stm A 56)) 0 [] Value.none Value.none Value.none Value.none none Value.none Value.none 0)) #[]))
noncomputable def o_521 (A : AT) : Params → Obj := (fun P => (Obj.mk (Value.type (t A 4)) none (Data.fields #[(Value.str (s A 70) 796), (Value.str (s A 70) 797), (Value.str (s A 9) 798), (Value.int 240 0), (Value.int 5 0), (Value.int 0 0), (Value.int 0 0), (Value.int 3 0), (Value.ref 456), (Value.bool true), (Value.int 181 0), (Value.ref 457), Value.none, Value.none, Value.none, (Value.ref 458), (Value.int 799 0), (Value.int 240 0), (Value.str (s A 9) 800)]) #[]))
noncomputable def o_522 (A : AT) : Params → Obj := (fun P => (Obj.mk (Value.type (t A 3)) none (Data.func (FuncData.mk (s A 70) (s A 70) (defArgs (stm A 56)) (FuncBody.stmts (defBody (stm A 56))) (defScope (stm A 56)) 3 [] Value.none Value.none Value.none (Value.str (s A 49) 704) none (Value.ref 459) Value.none 0)) #[]))
noncomputable def o_523 (A : AT) : Params → Obj := (fun P => (Obj.mk (Value.type (t A 2)) none (Data.seq #[] 0) #[]))
noncomputable def o_524 (A : AT) : Params → Obj := (fun P => (Obj.mk Value.none none (Data.fields #[]) #[]))
noncomputable def o_525 (A : AT) : Params → Obj := (fun P => (Obj.mk Value.none none (Data.func (FuncData.mk (s A 83) (s A 83) (defArgs (stm A 57)) (FuncBody.stmts (defBody (stm A 57))) (defScope (stm A 57)) 0 [] Value.none Value.none Value.none Value.none none Value.none Value.none 0)) #[]))
noncomputable def o_526 (A : AT) : Params → Obj := (fun P => (Obj.mk (Value.type (t A 4)) none (Data.fields #[(Value.str (s A 83) 802), (Value.str (s A 83) 803), (Value.str (s A 9) 804), (Value.int 242 0), (Value.int 3 0), (Value.int 0 0), (Value.int 0 0), (Value.int 3 0), (Value.ref 461), (Value.bool true), (Value.int 181 0), (Value.ref 462), Value.none, Value.none, Value.none, (Value.ref 463), (Value.int 805 0), (Value.int 242 0), (Value.str (s A 9) 806)]) #[]))
noncomputable def o_527 (A : AT) : Params → Obj := (fun P => (Obj.mk (Value.type (t A 3)) none (Data.func (FuncData.mk (s A 83) (s A 83) (defArgs (stm A 57)) (FuncBody.stmts (defBody (stm A 57))) (defScope (stm A 57)) 3 [] Value.none Value.none Value.none (Value.str (s A 49) 704) none (Value.ref 464) Value.none 0)) #[]))
noncomputable def o_528 (A : AT) : Params → Obj := (fun P => (Obj.mk (Value.type (t A 0)) none (Data.dict #[(DictEntry.mk (PyData.keyHash P (s A 0)) (Value.str (s A 0) 165) (Value.str (s A 49) 704)), (DictEntry.mk (PyData.keyHash P (s A 2)) (Value.str (s A 2) 166) Value.none), (DictEntry.mk (PyData.keyHash P (s A 3)) (Value.str (s A 3) 167) Value.none), (DictEntry.mk (PyData.keyHash P (s A 4)) (Value.str (s A 4) 168) (Value.builtin (t A 1))), (DictEntry.mk (PyData.keyHash P (s A 5)) (Value.str (s A 5) 169) Value.none), (DictEntry.mk (PyData.keyHash P (s A 6)) (Value.str (s A 6) 170) (Value.ref 6)), (DictEntry.mk (PyData.keyHash P (s A 7)) (Value.str (s A 7) 171) (Value.ref 4)), (DictEntry.mk (PyData.keyHash P (s A 8)) (Value.str (s A 8) 173) (Value.str (s A 9) 172)), (DictEntry.mk (PyData.keyHash P (s A 10)) (Value.str (s A 10) 174) Value.none), (DictEntry.mk (PyData.keyHash P (s A 11)) (Value.str (s A 11) 193) (Value.ref 21)), (DictEntry.mk (PyData.keyHash P (s A 12)) (Value.str (s A 12) 213) (Value.ref 31)), (DictEntry.mk (PyData.keyHash P (s A 13)) (Value.str (s A 13) 229) (Value.ref 44)), (DictEntry.mk (PyData.keyHash P (s A 14)) (Value.str (s A 14) 245) (Value.ref 56)), (DictEntry.mk (PyData.keyHash P (s A 15)) (Value.str (s A 15) 270) (Value.ref 76)), (DictEntry.mk (PyData.keyHash P (s A 16)) (Value.str (s A 16) 279) (Value.ref 85)), (DictEntry.mk (PyData.keyHash P (s A 17)) (Value.str (s A 17) 288) (Value.ref 92)), (DictEntry.mk (PyData.keyHash P (s A 18)) (Value.str (s A 18) 296) (Value.ref 99)), (DictEntry.mk (PyData.keyHash P (s A 19)) (Value.str (s A 19) 300) (Value.int 1440 299)), (DictEntry.mk (PyData.keyHash P (s A 20)) (Value.str (s A 20) 307) (Value.ref 106)), (DictEntry.mk (PyData.keyHash P (s A 21)) (Value.str (s A 21) 314) (Value.ref 113)), (DictEntry.mk (PyData.keyHash P (s A 22)) (Value.str (s A 22) 321) (Value.ref 120)), (DictEntry.mk (PyData.keyHash P (s A 23)) (Value.str (s A 23) 328) (Value.ref 127)), (DictEntry.mk (PyData.keyHash P (s A 24)) (Value.str (s A 24) 335) (Value.ref 134)), (DictEntry.mk (PyData.keyHash P (s A 25)) (Value.str (s A 25) 344) (Value.ref 141)), (DictEntry.mk (PyData.keyHash P (s A 26)) (Value.str (s A 26) 356) (Value.ref 148)), (DictEntry.mk (PyData.keyHash P (s A 27)) (Value.str (s A 27) 365) (Value.ref 155)), (DictEntry.mk (PyData.keyHash P (s A 28)) (Value.str (s A 28) 374) (Value.ref 162)), (DictEntry.mk (PyData.keyHash P (s A 29)) (Value.str (s A 29) 378) (Value.str (s A 30) 377)), (DictEntry.mk (PyData.keyHash P (s A 31)) (Value.str (s A 31) 380) (Value.int 8 379)), (DictEntry.mk (PyData.keyHash P (s A 32)) (Value.str (s A 32) 386) (Value.ref 167)), (DictEntry.mk (PyData.keyHash P (s A 34)) (Value.str (s A 34) 422) (Value.ref 185)), (DictEntry.mk (PyData.keyHash P (s A 35)) (Value.str (s A 35) 430) (Value.ref 196)), (DictEntry.mk (PyData.keyHash P (s A 36)) (Value.str (s A 36) 440) (Value.ref 203)), (DictEntry.mk (PyData.keyHash P (s A 37)) (Value.str (s A 37) 450) (Value.ref 210)), (DictEntry.mk (PyData.keyHash P (s A 38)) (Value.str (s A 38) 456) (Value.ref 215)), (DictEntry.mk (PyData.keyHash P (s A 39)) (Value.str (s A 39) 464) (Value.ref 220)), (DictEntry.mk (PyData.keyHash P (s A 40)) (Value.str (s A 40) 486) (Value.ref 230)), (DictEntry.mk (PyData.keyHash P (s A 41)) (Value.str (s A 41) 508) (Value.ref 244)), (DictEntry.mk (PyData.keyHash P (s A 42)) (Value.str (s A 42) 540) (Value.ref 272)), (DictEntry.mk (PyData.keyHash P (s A 43)) (Value.str (s A 43) 575) (Value.ref 292)), (DictEntry.mk (PyData.keyHash P (s A 44)) (Value.str (s A 44) 612) (Value.ref 314)), (DictEntry.mk (PyData.keyHash P (s A 45)) (Value.str (s A 45) 622) (Value.ref 325)), (DictEntry.mk (PyData.keyHash P (s A 46)) (Value.str (s A 46) 689) (Value.ref 371)), (DictEntry.mk (PyData.keyHash P (s A 47)) (Value.str (s A 47) 697) (Value.ref 382)), (DictEntry.mk (PyData.keyHash P (s A 75)) (Value.str (s A 75) 703) (Value.ref 387)), (DictEntry.mk (PyData.keyHash P (s A 69)) (Value.str (s A 69) 713) (Value.ref 394)), (DictEntry.mk (PyData.keyHash P (s A 51)) (Value.str (s A 51) 722) (Value.ref 401)), (DictEntry.mk (PyData.keyHash P (s A 76)) (Value.str (s A 76) 729) (Value.ref 408)), (DictEntry.mk (PyData.keyHash P (s A 77)) (Value.str (s A 77) 739) (Value.ref 415)), (DictEntry.mk (PyData.keyHash P (s A 78)) (Value.str (s A 78) 746) (Value.ref 422)), (DictEntry.mk (PyData.keyHash P (s A 79)) (Value.str (s A 79) 752) (Value.ref 427)), (DictEntry.mk (PyData.keyHash P (s A 80)) (Value.str (s A 80) 762) (Value.ref 434)), (DictEntry.mk (PyData.keyHash P (s A 81)) (Value.str (s A 81) 771) (Value.ref 441)), (DictEntry.mk (PyData.keyHash P (s A 82)) (Value.str (s A 82) 783) (Value.ref 448)), (DictEntry.mk (PyData.keyHash P (s A 56)) (Value.str (s A 56) 795) (Value.ref 455)), (DictEntry.mk (PyData.keyHash P (s A 70)) (Value.str (s A 70) 801) (Value.ref 460)), (DictEntry.mk (PyData.keyHash P (s A 83)) (Value.str (s A 83) 807) (Value.ref 465)), (DictEntry.mk (PyData.keyHash P (s A 48)) (Value.str (s A 48) 813) (Value.ref 470))] 58) #[]))
noncomputable def o_529 (A : AT) : Params → Obj := (fun P => (Obj.mk Value.none none (Data.fields #[(Value.int 1 0), (Value.int 0 0), (Value.ref 20), (Value.int 5 0), (Value.int 0 0), (Value.ref 27), (Value.int 7 0), (Value.int 0 0), (Value.ref 40), (Value.int 9 0), (Value.int 0 0), (Value.ref 52), (Value.int 11 0), (Value.int 0 0), (Value.ref 64), (Value.int 16 0), (Value.int 0 0), (Value.ref 84), (Value.int 18 0), (Value.int 0 0), (Value.ref 91), (Value.int 20 0), (Value.int 0 0), (Value.ref 98), (Value.int 24 0), (Value.int 0 0), (Value.ref 105), (Value.int 26 0), (Value.int 0 0), (Value.ref 112), (Value.int 32 0), (Value.int 0 0), (Value.ref 119), (Value.int 35 0), (Value.int 0 0), (Value.ref 126), (Value.int 38 0), (Value.int 0 0), (Value.ref 133), (Value.int 41 0), (Value.int 0 0), (Value.ref 140), (Value.int 45 0), (Value.int 0 0), (Value.ref 147), (Value.int 55 0), (Value.int 0 0), (Value.ref 154), (Value.int 59 0), (Value.int 0 0), (Value.ref 161), (Value.int 66 0), (Value.int 0 0), (Value.ref 166), (Value.int 71 0), (Value.int 0 0), (Value.ref 173), (Value.int 79 0), (Value.int 0 0), (Value.ref 195), (Value.int 81 0), (Value.int 0 0), (Value.ref 202), (Value.int 83 0), (Value.int 0 0), (Value.ref 209), (Value.int 87 0), (Value.int 0 0), (Value.ref 214), (Value.int 91 0), (Value.int 0 0), (Value.ref 219), (Value.int 96 0), (Value.int 0 0), (Value.ref 226), (Value.int 99 0), (Value.int 0 0), (Value.ref 240), (Value.int 101 0), (Value.int 0 0), (Value.ref 254), (Value.int 109 0), (Value.int 0 0), (Value.ref 280), (Value.int 121 0), (Value.int 0 0), (Value.ref 302), (Value.int 140 0), (Value.int 0 0), (Value.ref 324), (Value.int 146 0), (Value.int 0 0), (Value.ref 331), (Value.int 169 0), (Value.int 0 0), (Value.ref 381), (Value.int 174 0), (Value.int 0 0), (Value.ref 386), (Value.int 180 0), (Value.int 0 0), (Value.ref 393), (Value.int 184 0), (Value.int 0 0), (Value.ref 400), (Value.int 188 0), (Value.int 0 0), (Value.ref 407), (Value.int 190 0), (Value.int 0 0), (Value.ref 414), (Value.int 200 0), (Value.int 0 0), (Value.ref 421), (Value.int 202 0), (Value.int 0 0), (Value.ref 426), (Value.int 213 0), (Value.int 0 0), (Value.ref 433), (Value.int 218 0), (Value.int 0 0), (Value.ref 440), (Value.int 227 0), (Value.int 0 0), (Value.ref 447), (Value.int 234 0), (Value.int 0 0), (Value.ref 454), (Value.int 240 0), (Value.int 0 0), (Value.ref 459), (Value.int 242 0), (Value.int 0 0), (Value.ref 464), (Value.int 246 0), (Value.int 0 0), (Value.ref 469)]) #[]))
noncomputable def o_530 (A : AT) : Params → Obj := (fun P => (Obj.mk (Value.type (t A 2)) none (Data.seq #[] 0) #[]))
noncomputable def o_531 (A : AT) : Params → Obj := (fun P => (Obj.mk Value.none none (Data.fields #[]) #[]))
noncomputable def o_532 (A : AT) : Params → Obj := (fun P => (Obj.mk Value.none none (Data.func (FuncData.mk (s A 48) (s A 48) (defArgs (stm A 58)) (FuncBody.stmts (defBody (stm A 58))) (defScope (stm A 58)) 0 [] Value.none Value.none Value.none Value.none none Value.none Value.none 0)) #[]))
noncomputable def o_533 (A : AT) : Params → Obj := (fun P => (Obj.mk (Value.type (t A 4)) none (Data.fields #[(Value.str (s A 48) 808), (Value.str (s A 48) 809), (Value.str (s A 9) 810), (Value.int 246 0), (Value.int 1 0), (Value.int 0 0), (Value.int 0 0), (Value.int 3 0), (Value.ref 466), (Value.bool true), (Value.int 181 0), (Value.ref 467), Value.none, Value.none, Value.none, (Value.ref 468), (Value.int 811 0), (Value.int 246 0), (Value.str (s A 9) 812)]) #[]))
noncomputable def o_534 (A : AT) : Params → Obj := (fun P => (Obj.mk (Value.type (t A 3)) none (Data.func (FuncData.mk (s A 48) (s A 48) (defArgs (stm A 58)) (FuncBody.stmts (defBody (stm A 58))) (defScope (stm A 58)) 3 [] Value.none Value.none Value.none (Value.str (s A 49) 704) none (Value.ref 469) Value.none 0)) #[]))
noncomputable def heap_46 (A : AT) : Params → PySem.Heap := (fun P => (Heap.mk (Array.mk [(boot_o_0 P), (boot_o_1 P), (boot_o_2 P), (boot_o_3 P), (boot_o_4 P), (boot_o_5 P), (boot_o_6 P), (boot_o_7 P), (boot_o_8 P), (boot_o_9 P), (boot_o_10 P), (o_43 A P), (o_44 A P), (o_45 A P), (o_46 A P)]) (Life.mk [] [] [] 0 [] [] false #[] [] 0 false false false 0 [2000, 10, 10] false 0 true [] [] 0 false)))
noncomputable def tree_85 (A : AT) : Params → PySem.W.BT := (fun P => (N (boot_o_0 P) (N (boot_o_1 P) (N (o_71 A P) (N (boot_o_7 P) (N (o_51 A P) (N (o_73 A P) L L) L) (N (o_59 A P) (N (o_78 A P) L L) L)) (N (o_43 A P) (N (o_55 A P) (N (o_74 A P) L L) L) (N (o_63 A P) (N (o_82 A P) L L) L))) (N (boot_o_5 P) (N (boot_o_9 P) (N (o_53 A P) (N (o_69 A P) L L) L) (N (o_61 A P) (N (o_80 A P) L L) L)) (N (o_45 A P) (N (o_57 A P) (N (o_76 A P) L L) L) (N (o_65 A P) (N (o_84 A P) L L) L)))) (N (boot_o_2 P) (N (boot_o_4 P) (N (boot_o_8 P) (N (o_52 A P) (N (o_68 A P) L L) L) (N (o_60 A P) (N (o_79 A P) L L) L)) (N (o_72 A P) (N (o_56 A P) (N (o_75 A P) L L) L) (N (o_64 A P) (N (o_83 A P) L L) L))) (N (boot_o_6 P) (N (boot_o_10 P) (N (o_54 A P) (N (o_70 A P) L L) L) (N (o_62 A P) (N (o_81 A P) L L) L)) (N (o_46 A P) (N (o_58 A P) (N (o_77 A P) L L) L) (N (o_66 A P) (N (o_85 A P) L L) L))))))
noncomputable def tree_534 (A : AT) : Params → PySem.W.BT := (fun P => (N (boot_o_0 P) (N (boot_o_1 P) (N (o_528 A P) (N (boot_o_7 P) (N (o_51 A P) (N (o_103 A P) (N (o_108 A P) (N (o_174 A P) (N (o_309 A P) L L) (N (o_445 A P) L L)) (N (o_240 A P) (N (o_377 A P) L L) (N (o_509 A P) L L))) (N (o_140 A P) (N (o_206 A P) (N (o_343 A P) L L) (N (o_477 A P) L L)) (N (o_274 A P) (N (o_411 A P) L L) L))) (N (o_89 A P) (N (o_124 A P) (N (o_190 A P) (N (o_325 A P) L L) (N (o_461 A P) L L)) (N (o_256 A P) (N (o_395 A P) L L) (N (o_525 A P) L L))) (N (o_158 A P) (N (o_224 A P) (N (o_361 A P) L L) (N (o_493 A P) L L)) (N (o_290 A P) (N (o_427 A P) L L) L)))) (N (o_59 A P) (N (o_78 A P) (N (o_116 A P) (N (o_182 A P) (N (o_317 A P) L L) (N (o_453 A P) L L)) (N (o_248 A P) (N (o_387 A P) L L) (N (o_517 A P) L L))) (N (o_148 A P) (N (o_214 A P) (N (o_351 A P) L L) (N (o_485 A P) L L)) (N (o_282 A P) (N (o_419 A P) L L) L))) (N (o_97 A P) (N (o_132 A P) (N (o_198 A P) (N (o_335 A P) L L) (N (o_469 A P) L L)) (N (o_264 A P) (N (o_403 A P) L L) L)) (N (o_166 A P) (N (o_232 A P) (N (o_369 A P) L L) (N (o_501 A P) L L)) (N (o_298 A P) (N (o_435 A P) L L) L))))) (N (o_43 A P) (N (o_55 A P) (N (o_74 A P) (N (o_112 A P) (N (o_178 A P) (N (o_313 A P) L L) (N (o_449 A P) L L)) (N (o_244 A P) (N (o_381 A P) L L) (N (o_513 A P) L L))) (N (o_144 A P) (N (o_210 A P) (N (o_347 A P) L L) (N (o_481 A P) L L)) (N (o_278 A P) (N (o_415 A P) L L) L))) (N (o_93 A P) (N (o_128 A P) (N (o_194 A P) (N (o_331 A P) L L) (N (o_465 A P) L L)) (N (o_260 A P) (N (o_399 A P) L L) (N (o_531 A P) L L))) (N (o_162 A P) (N (o_228 A P) (N (o_365 A P) L L) (N (o_497 A P) L L)) (N (o_294 A P) (N (o_431 A P) L L) L)))) (N (o_63 A P) (N (o_82 A P) (N (o_120 A P) (N (o_186 A P) (N (o_321 A P) L L) (N (o_457 A P) L L)) (N (o_252 A P) (N (o_391 A P) L L) (N (o_521 A P) L L))) (N (o_154 A P) (N (o_220 A P) (N (o_357 A P) L L) (N (o_489 A P) L L)) (N (o_286 A P) (N (o_423 A P) L L) L))) (N (o_104 A P) (N (o_136 A P) (N (o_202 A P) (N (o_339 A P) L L) (N (o_473 A P) L L)) (N (o_268 A P) (N (o_407 A P) L L) L)) (N (o_170 A P) (N (o_236 A P) (N (o_373 A P) L L) (N (o_505 A P) L L)) (N (o_305 A P) (N (o_439 A P) L L) L)))))) (N (boot_o_5 P) (N (boot_o_9 P) (N (o_53 A P) (N (o_69 A P) (N (o_110 A P) (N (o_176 A P) (N (o_311 A P) L L) (N (o_447 A P) L L)) (N (o_242 A P) (N (o_379 A P) L L) (N (o_511 A P) L L))) (N (o_142 A P) (N (o_208 A P) (N (o_345 A P) L L) (N (o_479 A P) L L)) (N (o_276 A P) (N (o_413 A P) L L) L))) (N (o_91 A P) (N (o_126 A P) (N (o_192 A P) (N (o_327 A P) L L) (N (o_463 A P) L L)) (N (o_258 A P) (N (o_397 A P) L L) (N (o_527 A P) L L))) (N (o_160 A P) (N (o_226 A P) (N (o_363 A P) L L) (N (o_495 A P) L L)) (N (o_292 A P) (N (o_429 A P) L L) L)))) (N (o_61 A P) (N (o_80 A P) (N (o_118 A P) (N (o_184 A P) (N (o_319 A P) L L) (N (o_455 A P) L L)) (N (o_250 A P) (N (o_389 A P) L L) (N (o_519 A P) L L))) (N (o_150 A P) (N (o_218 A P) (N (o_355 A P) L L) (N (o_487 A P) L L)) (N (o_284 A P) (N (o_421 A P) L L) L))) (N (o_99 A P) (N (o_134 A P) (N (o_200 A P) (N (o_337 A P) L L) (N (o_471 A P) L L)) (N (o_266 A P) (N (o_405 A P) L L) L)) (N (o_168 A P) (N (o_234 A P) (N (o_371 A P) L L) (N (o_503 A P) L L)) (N (o_303 A P) (N (o_437 A P) L L) L))))) (N (o_45 A P) (N (o_57 A P) (N (o_76 A P) (N (o_114 A P) (N (o_180 A P) (N (o_315 A P) L L) (N (o_451 A P) L L)) (N (o_246 A P) (N (o_383 A P) L L) (N (o_515 A P) L L))) (N (o_146 A P) (N (o_212 A P) (N (o_349 A P) L L) (N (o_483 A P) L L)) (N (o_280 A P) (N (o_417 A P) L L) L))) (N (o_95 A P) (N (o_130 A P) (N (o_196 A P) (N (o_333 A P) L L) (N (o_467 A P) L L)) (N (o_262 A P) (N (o_401 A P) L L) (N (o_533 A P) L L))) (N (o_164 A P) (N (o_230 A P) (N (o_367 A P) L L) (N (o_499 A P) L L)) (N (o_296 A P) (N (o_433 A P) L L) L)))) (N (o_65 A P) (N (o_84 A P) (N (o_122 A P) (N (o_188 A P) (N (o_323 A P) L L) (N (o_459 A P) L L)) (N (o_254 A P) (N (o_393 A P) L L) (N (o_523 A P) L L))) (N (o_156 A P) (N (o_222 A P) (N (o_359 A P) L L) (N (o_491 A P) L L)) (N (o_288 A P) (N (o_425 A P) L L) L))) (N (o_106 A P) (N (o_138 A P) (N (o_204 A P) (N (o_341 A P) L L) (N (o_475 A P) L L)) (N (o_272 A P) (N (o_409 A P) L L) L)) (N (o_172 A P) (N (o_238 A P) (N (o_375 A P) L L) (N (o_507 A P) L L)) (N (o_307 A P) (N (o_441 A P) L L) L))))))) (N (boot_o_2 P) (N (boot_o_4 P) (N (boot_o_8 P) (N (o_52 A P) (N (o_68 A P) (N (o_109 A P) (N (o_175 A P) (N (o_310 A P) L L) (N (o_446 A P) L L)) (N (o_241 A P) (N (o_378 A P) L L) (N (o_510 A P) L L))) (N (o_141 A P) (N (o_207 A P) (N (o_344 A P) L L) (N (o_478 A P) L L)) (N (o_275 A P) (N (o_412 A P) L L) L))) (N (o_90 A P) (N (o_125 A P) (N (o_191 A P) (N (o_326 A P) L L) (N (o_462 A P) L L)) (N (o_257 A P) (N (o_396 A P) L L) (N (o_526 A P) L L))) (N (o_159 A P) (N (o_225 A P) (N (o_362 A P) L L) (N (o_494 A P) L L)) (N (o_291 A P) (N (o_428 A P) L L) L)))) (N (o_60 A P) (N (o_79 A P) (N (o_117 A P) (N (o_183 A P) (N (o_318 A P) L L) (N (o_454 A P) L L)) (N (o_249 A P) (N (o_388 A P) L L) (N (o_518 A P) L L))) (N (o_149 A P) (N (o_217 A P) (N (o_352 A P) L L) (N (o_486 A P) L L)) (N (o_283 A P) (N (o_420 A P) L L) L))) (N (o_98 A P) (N (o_133 A P) (N (o_199 A P) (N (o_336 A P) L L) (N (o_470 A P) L L)) (N (o_265 A P) (N (o_404 A P) L L) L)) (N (o_167 A P) (N (o_233 A P) (N (o_370 A P) L L) (N (o_502 A P) L L)) (N (o_299 A P) (N (o_436 A P) L L) L))))) (N (o_529 A P) (N (o_56 A P) (N (o_75 A P) (N (o_113 A P) (N (o_179 A P) (N (o_314 A P) L L) (N (o_450 A P) L L)) (N (o_245 A P) (N (o_382 A P) L L) (N (o_514 A P) L L))) (N (o_145 A P) (N (o_211 A P) (N (o_348 A P) L L) (N (o_482 A P) L L)) (N (o_279 A P) (N (o_416 A P) L L) L))) (N (o_94 A P) (N (o_129 A P) (N (o_195 A P) (N (o_332 A P) L L) (N (o_466 A P) L L)) (N (o_261 A P) (N (o_400 A P) L L) (N (o_532 A P) L L))) (N (o_163 A P) (N (o_229 A P) (N (o_366 A P) L L) (N (o_498 A P) L L)) (N (o_302 A P) (N (o_432 A P) L L) L)))) (N (o_64 A P) (N (o_83 A P) (N (o_121 A P) (N (o_187 A P) (N (o_322 A P) L L) (N (o_458 A P) L L)) (N (o_253 A P) (N (o_392 A P) L L) (N (o_522 A P) L L))) (N (o_155 A P) (N (o_221 A P) (N (o_358 A P) L L) (N (o_490 A P) L L)) (N (o_287 A P) (N (o_424 A P) L L) L))) (N (o_105 A P) (N (o_137 A P) (N (o_203 A P) (N (o_340 A P) L L) (N (o_474 A P) L L)) (N (o_269 A P) (N (o_408 A P) L L) L)) (N (o_171 A P) (N (o_237 A P) (N (o_374 A P) L L) (N (o_506 A P) L L)) (N (o_306 A P) (N (o_440 A P) L L) L)))))) (N (boot_o_6 P) (N (boot_o_10 P) (N (o_54 A P) (N (o_70 A P) (N (o_111 A P) (N (o_177 A P) (N (o_312 A P) L L) (N (o_448 A P) L L)) (N (o_243 A P) (N (o_380 A P) L L) (N (o_512 A P) L L))) (N (o_143 A P) (N (o_209 A P) (N (o_346 A P) L L) (N (o_480 A P) L L)) (N (o_277 A P) (N (o_414 A P) L L) L))) (N (o_92 A P) (N (o_127 A P) (N (o_193 A P) (N (o_328 A P) L L) (N (o_464 A P) L L)) (N (o_259 A P) (N (o_398 A P) L L) (N (o_530 A P) L L))) (N (o_161 A P) (N (o_227 A P) (N (o_364 A P) L L) (N (o_496 A P) L L)) (N (o_293 A P) (N (o_430 A P) L L) L)))) (N (o_62 A P) (N (o_81 A P) (N (o_119 A P) (N (o_185 A P) (N (o_320 A P) L L) (N (o_456 A P) L L)) (N (o_251 A P) (N (o_390 A P) L L) (N (o_520 A P) L L))) (N (o_151 A P) (N (o_219 A P) (N (o_356 A P) L L) (N (o_488 A P) L L)) (N (o_285 A P) (N (o_422 A P) L L) L))) (N (o_100 A P) (N (o_135 A P) (N (o_201 A P) (N (o_338 A P) L L) (N (o_472 A P) L L)) (N (o_267 A P) (N (o_406 A P) L L) L)) (N (o_169 A P) (N (o_235 A P) (N (o_372 A P) L L) (N (o_504 A P) L L)) (N (o_304 A P) (N (o_438 A P) L L) L))))) (N (o_46 A P) (N (o_58 A P) (N (o_77 A P) (N (o_115 A P) (N (o_181 A P) (N (o_316 A P) L L) (N (o_452 A P) L L)) (N (o_247 A P) (N (o_386 A P) L L) (N (o_516 A P) L L))) (N (o_147 A P) (N (o_213 A P) (N (o_350 A P) L L) (N (o_484 A P) L L)) (N (o_281 A P) (N (o_418 A P) L L) L))) (N (o_96 A P) (N (o_131 A P) (N (o_197 A P) (N (o_334 A P) L L) (N (o_468 A P) L L)) (N (o_263 A P) (N (o_402 A P) L L) (N (o_534 A P) L L))) (N (o_165 A P) (N (o_231 A P) (N (o_368 A P) L L) (N (o_500 A P) L L)) (N (o_297 A P) (N (o_434 A P) L L) L)))) (N (o_66 A P) (N (o_85 A P) (N (o_123 A P) (N (o_189 A P) (N (o_324 A P) L L) (N (o_460 A P) L L)) (N (o_255 A P) (N (o_394 A P) L L) (N (o_524 A P) L L))) (N (o_157 A P) (N (o_223 A P) (N (o_360 A P) L L) (N (o_492 A P) L L)) (N (o_289 A P) (N (o_426 A P) L L) L))) (N (o_107 A P) (N (o_139 A P) (N (o_205 A P) (N (o_342 A P) L L) (N (o_476 A P) L L)) (N (o_273 A P) (N (o_410 A P) L L) L)) (N (o_173 A P) (N (o_239 A P) (N (o_376 A P) L L) (N (o_508 A P) L L)) (N (o_308 A P) (N (o_442 A P) L L) L)))))))))
noncomputable def tree_383 (A : AT) : Params → PySem.W.BT := (fun P => (N (boot_o_0 P) (N (boot_o_1 P) (N (o_353 A P) (N (boot_o_7 P) (N (o_51 A P) (N (o_103 A P) (N (o_108 A P) (N (o_174 A P) (N (o_309 A P) L L) L) (N (o_240 A P) (N (o_377 A P) L L) L)) (N (o_140 A P) (N (o_206 A P) (N (o_343 A P) L L) L) (N (o_274 A P) L L))) (N (o_89 A P) (N (o_124 A P) (N (o_190 A P) (N (o_325 A P) L L) L) (N (o_256 A P) L L)) (N (o_158 A P) (N (o_224 A P) (N (o_361 A P) L L) L) (N (o_290 A P) L L)))) (N (o_59 A P) (N (o_78 A P) (N (o_116 A P) (N (o_182 A P) (N (o_317 A P) L L) L) (N (o_248 A P) L L)) (N (o_148 A P) (N (o_214 A P) (N (o_351 A P) L L) L) (N (o_282 A P) L L))) (N (o_97 A P) (N (o_132 A P) (N (o_198 A P) (N (o_335 A P) L L) L) (N (o_264 A P) L L)) (N (o_166 A P) (N (o_232 A P) (N (o_369 A P) L L) L) (N (o_298 A P) L L))))) (N (o_43 A P) (N (o_55 A P) (N (o_74 A P) (N (o_112 A P) (N (o_178 A P) (N (o_313 A P) L L) L) (N (o_244 A P) (N (o_381 A P) L L) L)) (N (o_144 A P) (N (o_210 A P) (N (o_347 A P) L L) L) (N (o_278 A P) L L))) (N (o_93 A P) (N (o_128 A P) (N (o_194 A P) (N (o_331 A P) L L) L) (N (o_260 A P) L L)) (N (o_162 A P) (N (o_228 A P) (N (o_365 A P) L L) L) (N (o_294 A P) L L)))) (N (o_63 A P) (N (o_82 A P) (N (o_120 A P) (N (o_186 A P) (N (o_321 A P) L L) L) (N (o_252 A P) L L)) (N (o_154 A P) (N (o_220 A P) (N (o_357 A P) L L) L) (N (o_286 A P) L L))) (N (o_104 A P) (N (o_136 A P) (N (o_202 A P) (N (o_339 A P) L L) L) (N (o_268 A P) L L)) (N (o_170 A P) (N (o_236 A P) (N (o_373 A P) L L) L) (N (o_305 A P) L L)))))) (N (boot_o_5 P) (N (boot_o_9 P) (N (o_53 A P) (N (o_69 A P) (N (o_110 A P) (N (o_176 A P) (N (o_311 A P) L L) L) (N (o_242 A P) (N (o_379 A P) L L) L)) (N (o_142 A P) (N (o_208 A P) (N (o_345 A P) L L) L) (N (o_276 A P) L L))) (N (o_91 A P) (N (o_126 A P) (N (o_192 A P) (N (o_327 A P) L L) L) (N (o_258 A P) L L)) (N (o_160 A P) (N (o_226 A P) (N (o_363 A P) L L) L) (N (o_292 A P) L L)))) (N (o_61 A P) (N (o_80 A P) (N (o_118 A P) (N (o_184 A P) (N (o_319 A P) L L) L) (N (o_250 A P) L L)) (N (o_150 A P) (N (o_218 A P) (N (o_355 A P) L L) L) (N (o_284 A P) L L))) (N (o_99 A P) (N (o_134 A P) (N (o_200 A P) (N (o_337 A P) L L) L) (N (o_266 A P) L L)) (N (o_168 A P) (N (o_234 A P) (N (o_371 A P) L L) L) (N (o_303 A P) L L))))) (N (o_45 A P) (N (o_57 A P) (N (o_76 A P) (N (o_114 A P) (N (o_180 A P) (N (o_315 A P) L L) L) (N (o_246 A P) (N (o_383 A P) L L) L)) (N (o_146 A P) (N (o_212 A P) (N (o_349 A P) L L) L) (N (o_280 A P) L L))) (N (o_95 A P) (N (o_130 A P) (N (o_196 A P) (N (o_333 A P) L L) L) (N (o_262 A P) L L)) (N (o_164 A P) (N (o_230 A P) (N (o_367 A P) L L) L) (N (o_296 A P) L L)))) (N (o_65 A P) (N (o_84 A P) (N (o_122 A P) (N (o_188 A P) (N (o_323 A P) L L) L) (N (o_254 A P) L L)) (N (o_156 A P) (N (o_222 A P) (N (o_359 A P) L L) L) (N (o_288 A P) L L))) (N (o_106 A P) (N (o_138 A P) (N (o_204 A P) (N (o_341 A P) L L) L) (N (o_272 A P) L L)) (N (o_172 A P) (N (o_238 A P) (N (o_375 A P) L L) L) (N (o_307 A P) L L))))))) (N (boot_o_2 P) (N (boot_o_4 P) (N (boot_o_8 P) (N (o_52 A P) (N (o_68 A P) (N (o_109 A P) (N (o_175 A P) (N (o_310 A P) L L) L) (N (o_241 A P) (N (o_378 A P) L L) L)) (N (o_141 A P) (N (o_207 A P) (N (o_344 A P) L L) L) (N (o_275 A P) L L))) (N (o_90 A P) (N (o_125 A P) (N (o_191 A P) (N (o_326 A P) L L) L) (N (o_257 A P) L L)) (N (o_159 A P) (N (o_225 A P) (N (o_362 A P) L L) L) (N (o_291 A P) L L)))) (N (o_60 A P) (N (o_79 A P) (N (o_117 A P) (N (o_183 A P) (N (o_318 A P) L L) L) (N (o_249 A P) L L)) (N (o_149 A P) (N (o_217 A P) (N (o_352 A P) L L) L) (N (o_283 A P) L L))) (N (o_98 A P) (N (o_133 A P) (N (o_199 A P) (N (o_336 A P) L L) L) (N (o_265 A P) L L)) (N (o_167 A P) (N (o_233 A P) (N (o_370 A P) L L) L) (N (o_299 A P) L L))))) (N (o_354 A P) (N (o_56 A P) (N (o_75 A P) (N (o_113 A P) (N (o_179 A P) (N (o_314 A P) L L) L) (N (o_245 A P) (N (o_382 A P) L L) L)) (N (o_145 A P) (N (o_211 A P) (N (o_348 A P) L L) L) (N (o_279 A P) L L))) (N (o_94 A P) (N (o_129 A P) (N (o_195 A P) (N (o_332 A P) L L) L) (N (o_261 A P) L L)) (N (o_163 A P) (N (o_229 A P) (N (o_366 A P) L L) L) (N (o_302 A P) L L)))) (N (o_64 A P) (N (o_83 A P) (N (o_121 A P) (N (o_187 A P) (N (o_322 A P) L L) L) (N (o_253 A P) L L)) (N (o_155 A P) (N (o_221 A P) (N (o_358 A P) L L) L) (N (o_287 A P) L L))) (N (o_105 A P) (N (o_137 A P) (N (o_203 A P) (N (o_340 A P) L L) L) (N (o_269 A P) L L)) (N (o_171 A P) (N (o_237 A P) (N (o_374 A P) L L) L) (N (o_306 A P) L L)))))) (N (boot_o_6 P) (N (boot_o_10 P) (N (o_54 A P) (N (o_70 A P) (N (o_111 A P) (N (o_177 A P) (N (o_312 A P) L L) L) (N (o_243 A P) (N (o_380 A P) L L) L)) (N (o_143 A P) (N (o_209 A P) (N (o_346 A P) L L) L) (N (o_277 A P) L L))) (N (o_92 A P) (N (o_127 A P) (N (o_193 A P) (N (o_328 A P) L L) L) (N (o_259 A P) L L)) (N (o_161 A P) (N (o_227 A P) (N (o_364 A P) L L) L) (N (o_293 A P) L L)))) (N (o_62 A P) (N (o_81 A P) (N (o_119 A P) (N (o_185 A P) (N (o_320 A P) L L) L) (N (o_251 A P) L L)) (N (o_151 A P) (N (o_219 A P) (N (o_356 A P) L L) L) (N (o_285 A P) L L))) (N (o_100 A P) (N (o_135 A P) (N (o_201 A P) (N (o_338 A P) L L) L) (N (o_267 A P) L L)) (N (o_169 A P) (N (o_235 A P) (N (o_372 A P) L L) L) (N (o_304 A P) L L))))) (N (o_46 A P) (N (o_58 A P) (N (o_77 A P) (N (o_115 A P) (N (o_181 A P) (N (o_316 A P) L L) L) (N (o_247 A P) L L)) (N (o_147 A P) (N (o_213 A P) (N (o_350 A P) L L) L) (N (o_281 A P) L L))) (N (o_96 A P) (N (o_131 A P) (N (o_197 A P) (N (o_334 A P) L L) L) (N (o_263 A P) L L)) (N (o_165 A P) (N (o_231 A P) (N (o_368 A P) L L) L) (N (o_297 A P) L L)))) (N (o_66 A P) (N (o_85 A P) (N (o_123 A P) (N (o_189 A P) (N (o_324 A P) L L) L) (N (o_255 A P) L L)) (N (o_157 A P) (N (o_223 A P) (N (o_360 A P) L L) L) (N (o_289 A P) L L))) (N (o_107 A P) (N (o_139 A P) (N (o_205 A P) (N (o_342 A P) L L) L) (N (o_273 A P) L L)) (N (o_173 A P) (N (o_239 A P) (N (o_376 A P) L L) L) (N (o_308 A P) L L)))))))))
noncomputable def tree_442 (A : AT) : Params → PySem.W.BT := (fun P => (N (boot_o_0 P) (N (boot_o_1 P) (N (o_384 A P) (N (boot_o_7 P) (N (o_51 A P) (N (o_103 A P) (N (o_108 A P) (N (o_174 A P) (N (o_309 A P) L L) L) (N (o_240 A P) (N (o_377 A P) L L) L)) (N (o_140 A P) (N (o_206 A P) (N (o_343 A P) L L) L) (N (o_274 A P) (N (o_411 A P) L L) L))) (N (o_89 A P) (N (o_124 A P) (N (o_190 A P) (N (o_325 A P) L L) L) (N (o_256 A P) (N (o_395 A P) L L) L)) (N (o_158 A P) (N (o_224 A P) (N (o_361 A P) L L) L) (N (o_290 A P) (N (o_427 A P) L L) L)))) (N (o_59 A P) (N (o_78 A P) (N (o_116 A P) (N (o_182 A P) (N (o_317 A P) L L) L) (N (o_248 A P) (N (o_387 A P) L L) L)) (N (o_148 A P) (N (o_214 A P) (N (o_351 A P) L L) L) (N (o_282 A P) (N (o_419 A P) L L) L))) (N (o_97 A P) (N (o_132 A P) (N (o_198 A P) (N (o_335 A P) L L) L) (N (o_264 A P) (N (o_403 A P) L L) L)) (N (o_166 A P) (N (o_232 A P) (N (o_369 A P) L L) L) (N (o_298 A P) (N (o_435 A P) L L) L))))) (N (o_43 A P) (N (o_55 A P) (N (o_74 A P) (N (o_112 A P) (N (o_178 A P) (N (o_313 A P) L L) L) (N (o_244 A P) (N (o_381 A P) L L) L)) (N (o_144 A P) (N (o_210 A P) (N (o_347 A P) L L) L) (N (o_278 A P) (N (o_415 A P) L L) L))) (N (o_93 A P) (N (o_128 A P) (N (o_194 A P) (N (o_331 A P) L L) L) (N (o_260 A P) (N (o_399 A P) L L) L)) (N (o_162 A P) (N (o_228 A P) (N (o_365 A P) L L) L) (N (o_294 A P) (N (o_431 A P) L L) L)))) (N (o_63 A P) (N (o_82 A P) (N (o_120 A P) (N (o_186 A P) (N (o_321 A P) L L) L) (N (o_252 A P) (N (o_391 A P) L L) L)) (N (o_154 A P) (N (o_220 A P) (N (o_357 A P) L L) L) (N (o_286 A P) (N (o_423 A P) L L) L))) (N (o_104 A P) (N (o_136 A P) (N (o_202 A P) (N (o_339 A P) L L) L) (N (o_268 A P) (N (o_407 A P) L L) L)) (N (o_170 A P) (N (o_236 A P) (N (o_373 A P) L L) L) (N (o_305 A P) (N (o_439 A P) L L) L)))))) (N (boot_o_5 P) (N (boot_o_9 P) (N (o_53 A P) (N (o_69 A P) (N (o_110 A P) (N (o_176 A P) (N (o_311 A P) L L) L) (N (o_242 A P) (N (o_379 A P) L L) L)) (N (o_142 A P) (N (o_208 A P) (N (o_345 A P) L L) L) (N (o_276 A P) (N (o_413 A P) L L) L))) (N (o_91 A P) (N (o_126 A P) (N (o_192 A P) (N (o_327 A P) L L) L) (N (o_258 A P) (N (o_397 A P) L L) L)) (N (o_160 A P) (N (o_226 A P) (N (o_363 A P) L L) L) (N (o_292 A P) (N (o_429 A P) L L) L)))) (N (o_61 A P) (N (o_80 A P) (N (o_118 A P) (N (o_184 A P) (N (o_319 A P) L L) L) (N (o_250 A P) (N (o_389 A P) L L) L)) (N (o_150 A P) (N (o_218 A P) (N (o_355 A P) L L) L) (N (o_284 A P) (N (o_421 A P) L L) L))) (N (o_99 A P) (N (o_134 A P) (N (o_200 A P) (N (o_337 A P) L L) L) (N (o_266 A P) (N (o_405 A P) L L) L)) (N (o_168 A P) (N (o_234 A P) (N (o_371 A P) L L) L) (N (o_303 A P) (N (o_437 A P) L L) L))))) (N (o_45 A P) (N (o_57 A P) (N (o_76 A P) (N (o_114 A P) (N (o_180 A P) (N (o_315 A P) L L) L) (N (o_246 A P) (N (o_383 A P) L L) L)) (N (o_146 A P) (N (o_212 A P) (N (o_349 A P) L L) L) (N (o_280 A P) (N (o_417 A P) L L) L))) (N (o_95 A P) (N (o_130 A P) (N (o_196 A P) (N (o_333 A P) L L) L) (N (o_262 A P) (N (o_401 A P) L L) L)) (N (o_164 A P) (N (o_230 A P) (N (o_367 A P) L L) L) (N (o_296 A P) (N (o_433 A P) L L) L)))) (N (o_65 A P) (N (o_84 A P) (N (o_122 A P) (N (o_188 A P) (N (o_323 A P) L L) L) (N (o_254 A P) (N (o_393 A P) L L) L)) (N (o_156 A P) (N (o_222 A P) (N (o_359 A P) L L) L) (N (o_288 A P) (N (o_425 A P) L L) L))) (N (o_106 A P) (N (o_138 A P) (N (o_204 A P) (N (o_341 A P) L L) L) (N (o_272 A P) (N (o_409 A P) L L) L)) (N (o_172 A P) (N (o_238 A P) (N (o_375 A P) L L) L) (N (o_307 A P) (N (o_441 A P) L L) L))))))) (N (boot_o_2 P) (N (boot_o_4 P) (N (boot_o_8 P) (N (o_52 A P) (N (o_68 A P) (N (o_109 A P) (N (o_175 A P) (N (o_310 A P) L L) L) (N (o_241 A P) (N (o_378 A P) L L) L)) (N (o_141 A P) (N (o_207 A P) (N (o_344 A P) L L) L) (N (o_275 A P) (N (o_412 A P) L L) L))) (N (o_90 A P) (N (o_125 A P) (N (o_191 A P) (N (o_326 A P) L L) L) (N (o_257 A P) (N (o_396 A P) L L) L)) (N (o_159 A P) (N (o_225 A P) (N (o_362 A P) L L) L) (N (o_291 A P) (N (o_428 A P) L L) L)))) (N (o_60 A P) (N (o_79 A P) (N (o_117 A P) (N (o_183 A P) (N (o_318 A P) L L) L) (N (o_249 A P) (N (o_388 A P) L L) L)) (N (o_149 A P) (N (o_217 A P) (N (o_352 A P) L L) L) (N (o_283 A P) (N (o_420 A P) L L) L))) (N (o_98 A P) (N (o_133 A P) (N (o_199 A P) (N (o_336 A P) L L) L) (N (o_265 A P) (N (o_404 A P) L L) L)) (N (o_167 A P) (N (o_233 A P) (N (o_370 A P) L L) L) (N (o_299 A P) (N (o_436 A P) L L) L))))) (N (o_385 A P) (N (o_56 A P) (N (o_75 A P) (N (o_113 A P) (N (o_179 A P) (N (o_314 A P) L L) L) (N (o_245 A P) (N (o_382 A P) L L) L)) (N (o_145 A P) (N (o_211 A P) (N (o_348 A P) L L) L) (N (o_279 A P) (N (o_416 A P) L L) L))) (N (o_94 A P) (N (o_129 A P) (N (o_195 A P) (N (o_332 A P) L L) L) (N (o_261 A P) (N (o_400 A P) L L) L)) (N (o_163 A P) (N (o_229 A P) (N (o_366 A P) L L) L) (N (o_302 A P) (N (o_432 A P) L L) L)))) (N (o_64 A P) (N (o_83 A P) (N (o_121 A P) (N (o_187 A P) (N (o_322 A P) L L) L) (N (o_253 A P) (N (o_392 A P) L L) L)) (N (o_155 A P) (N (o_221 A P) (N (o_358 A P) L L) L) (N (o_287 A P) (N (o_424 A P) L L) L))) (N (o_105 A P) (N (o_137 A P) (N (o_203 A P) (N (o_340 A P) L L) L) (N (o_269 A P) (N (o_408 A P) L L) L)) (N (o_171 A P) (N (o_237 A P) (N (o_374 A P) L L) L) (N (o_306 A P) (N (o_440 A P) L L) L)))))) (N (boot_o_6 P) (N (boot_o_10 P) (N (o_54 A P) (N (o_70 A P) (N (o_111 A P) (N (o_177 A P) (N (o_312 A P) L L) L) (N (o_243 A P) (N (o_380 A P) L L) L)) (N (o_143 A P) (N (o_209 A P) (N (o_346 A P) L L) L) (N (o_277 A P) (N (o_414 A P) L L) L))) (N (o_92 A P) (N (o_127 A P) (N (o_193 A P) (N (o_328 A P) L L) L) (N (o_259 A P) (N (o_398 A P) L L) L)) (N (o_161 A P) (N (o_227 A P) (N (o_364 A P) L L) L) (N (o_293 A P) (N (o_430 A P) L L) L)))) (N (o_62 A P) (N (o_81 A P) (N (o_119 A P) (N (o_185 A P) (N (o_320 A P) L L) L) (N (o_251 A P) (N (o_390 A P) L L) L)) (N (o_151 A P) (N (o_219 A P) (N (o_356 A P) L L) L) (N (o_285 A P) (N (o_422 A P) L L) L))) (N (o_100 A P) (N (o_135 A P) (N (o_201 A P) (N (o_338 A P) L L) L) (N (o_267 A P) (N (o_406 A P) L L) L)) (N (o_169 A P) (N (o_235 A P) (N (o_372 A P) L L) L) (N (o_304 A P) (N (o_438 A P) L L) L))))) (N (o_46 A P) (N (o_58 A P) (N (o_77 A P) (N (o_115 A P) (N (o_181 A P) (N (o_316 A P) L L) L) (N (o_247 A P) (N (o_386 A P) L L) L)) (N (o_147 A P) (N (o_213 A P) (N (o_350 A P) L L) L) (N (o_281 A P) (N (o_418 A P) L L) L))) (N (o_96 A P) (N (o_131 A P) (N (o_197 A P) (N (o_334 A P) L L) L) (N (o_263 A P) (N (o_402 A P) L L) L)) (N (o_165 A P) (N (o_231 A P) (N (o_368 A P) L L) L) (N (o_297 A P) (N (o_434 A P) L L) L)))) (N (o_66 A P) (N (o_85 A P) (N (o_123 A P) (N (o_189 A P) (N (o_324 A P) L L) L) (N (o_255 A P) (N (o_394 A P) L L) L)) (N (o_157 A P) (N (o_223 A P) (N (o_360 A P) L L) L) (N (o_289 A P) (N (o_426 A P) L L) L))) (N (o_107 A P) (N (o_139 A P) (N (o_205 A P) (N (o_342 A P) L L) L) (N (o_273 A P) (N (o_410 A P) L L) L)) (N (o_173 A P) (N (o_239 A P) (N (o_376 A P) L L) L) (N (o_308 A P) (N (o_442 A P) L L) L)))))))))
noncomputable def tree_47 (A : AT) : Params → PySem.W.BT := (fun P => (N (boot_o_0 P) (N (boot_o_1 P) (N (boot_o_3 P) (N (boot_o_7 P) L L) (N (o_43 A P) L L)) (N (boot_o_5 P) (N (boot_o_9 P) L L) (N (o_45 A P) L L))) (N (boot_o_2 P) (N (boot_o_4 P) (N (boot_o_8 P) L L) (N (o_44 A P) L L)) (N (boot_o_6 P) (N (boot_o_10 P) L L) (N (o_46 A P) L L)))))
noncomputable def tree_269 (A : AT) : Params → PySem.W.BT := (fun P => (N (boot_o_0 P) (N (boot_o_1 P) (N (o_215 A P) (N (boot_o_7 P) (N (o_51 A P) (N (o_103 A P) (N (o_108 A P) (N (o_174 A P) L L) (N (o_240 A P) L L)) (N (o_140 A P) (N (o_206 A P) L L) L)) (N (o_89 A P) (N (o_124 A P) (N (o_190 A P) L L) (N (o_256 A P) L L)) (N (o_158 A P) (N (o_224 A P) L L) L))) (N (o_59 A P) (N (o_78 A P) (N (o_116 A P) (N (o_182 A P) L L) (N (o_248 A P) L L)) (N (o_148 A P) (N (o_214 A P) L L) L)) (N (o_97 A P) (N (o_132 A P) (N (o_198 A P) L L) (N (o_264 A P) L L)) (N (o_166 A P) (N (o_232 A P) L L) L)))) (N (o_43 A P) (N (o_55 A P) (N (o_74 A P) (N (o_112 A P) (N (o_178 A P) L L) (N (o_244 A P) L L)) (N (o_144 A P) (N (o_210 A P) L L) L)) (N (o_93 A P) (N (o_128 A P) (N (o_194 A P) L L) (N (o_260 A P) L L)) (N (o_162 A P) (N (o_228 A P) L L) L))) (N (o_63 A P) (N (o_82 A P) (N (o_120 A P) (N (o_186 A P) L L) (N (o_252 A P) L L)) (N (o_154 A P) (N (o_220 A P) L L) L)) (N (o_104 A P) (N (o_136 A P) (N (o_202 A P) L L) (N (o_268 A P) L L)) (N (o_170 A P) (N (o_236 A P) L L) L))))) (N (boot_o_5 P) (N (boot_o_9 P) (N (o_53 A P) (N (o_69 A P) (N (o_110 A P) (N (o_176 A P) L L) (N (o_242 A P) L L)) (N (o_142 A P) (N (o_208 A P) L L) L)) (N (o_91 A P) (N (o_126 A P) (N (o_192 A P) L L) (N (o_258 A P) L L)) (N (o_160 A P) (N (o_226 A P) L L) L))) (N (o_61 A P) (N (o_80 A P) (N (o_118 A P) (N (o_184 A P) L L) (N (o_250 A P) L L)) (N (o_150 A P) (N (o_218 A P) L L) L)) (N (o_99 A P) (N (o_134 A P) (N (o_200 A P) L L) (N (o_266 A P) L L)) (N (o_168 A P) (N (o_234 A P) L L) L)))) (N (o_45 A P) (N (o_57 A P) (N (o_76 A P) (N (o_114 A P) (N (o_180 A P) L L) (N (o_246 A P) L L)) (N (o_146 A P) (N (o_212 A P) L L) L)) (N (o_95 A P) (N (o_130 A P) (N (o_196 A P) L L) (N (o_262 A P) L L)) (N (o_164 A P) (N (o_230 A P) L L) L))) (N (o_65 A P) (N (o_84 A P) (N (o_122 A P) (N (o_188 A P) L L) (N (o_254 A P) L L)) (N (o_156 A P) (N (o_222 A P) L L) L)) (N (o_106 A P) (N (o_138 A P) (N (o_204 A P) L L) L) (N (o_172 A P) (N (o_238 A P) L L) L)))))) (N (boot_o_2 P) (N (boot_o_4 P) (N (boot_o_8 P) (N (o_52 A P) (N (o_68 A P) (N (o_109 A P) (N (o_175 A P) L L) (N (o_241 A P) L L)) (N (o_141 A P) (N (o_207 A P) L L) L)) (N (o_90 A P) (N (o_125 A P) (N (o_191 A P) L L) (N (o_257 A P) L L)) (N (o_159 A P) (N (o_225 A P) L L) L))) (N (o_60 A P) (N (o_79 A P) (N (o_117 A P) (N (o_183 A P) L L) (N (o_249 A P) L L)) (N (o_149 A P) (N (o_217 A P) L L) L)) (N (o_98 A P) (N (o_133 A P) (N (o_199 A P) L L) (N (o_265 A P) L L)) (N (o_167 A P) (N (o_233 A P) L L) L)))) (N (o_216 A P) (N (o_56 A P) (N (o_75 A P) (N (o_113 A P) (N (o_179 A P) L L) (N (o_245 A P) L L)) (N (o_145 A P) (N (o_211 A P) L L) L)) (N (o_94 A P) (N (o_129 A P) (N (o_195 A P) L L) (N (o_261 A P) L L)) (N (o_163 A P) (N (o_229 A P) L L) L))) (N (o_64 A P) (N (o_83 A P) (N (o_121 A P) (N (o_187 A P) L L) (N (o_253 A P) L L)) (N (o_155 A P) (N (o_221 A P) L L) L)) (N (o_105 A P) (N (o_137 A P) (N (o_203 A P) L L) (N (o_269 A P) L L)) (N (o_171 A P) (N (o_237 A P) L L) L))))) (N (boot_o_6 P) (N (boot_o_10 P) (N (o_54 A P) (N (o_70 A P) (N (o_111 A P) (N (o_177 A P) L L) (N (o_243 A P) L L)) (N (o_143 A P) (N (o_209 A P) L L) L)) (N (o_92 A P) (N (o_127 A P) (N (o_193 A P) L L) (N (o_259 A P) L L)) (N (o_161 A P) (N (o_227 A P) L L) L))) (N (o_62 A P) (N (o_81 A P) (N (o_119 A P) (N (o_185 A P) L L) (N (o_251 A P) L L)) (N (o_151 A P) (N (o_219 A P) L L) L)) (N (o_100 A P) (N (o_135 A P) (N (o_201 A P) L L) (N (o_267 A P) L L)) (N (o_169 A P) (N (o_235 A P) L L) L)))) (N (o_46 A P) (N (o_58 A P) (N (o_77 A P) (N (o_115 A P) (N (o_181 A P) L L) (N (o_247 A P) L L)) (N (o_147 A P) (N (o_213 A P) L L) L)) (N (o_96 A P) (N (o_131 A P) (N (o_197 A P) L L) (N (o_263 A P) L L)) (N (o_165 A P) (N (o_231 A P) L L) L))) (N (o_66 A P) (N (o_85 A P) (N (o_123 A P) (N (o_189 A P) L L) (N (o_255 A P) L L)) (N (o_157 A P) (N (o_223 A P) L L) L)) (N (o_107 A P) (N (o_139 A P) (N (o_205 A P) L L) L) (N (o_173 A P) (N (o_239 A P) L L) L))))))))
noncomputable def tree_70 (A : AT) : Params → PySem.W.BT := (fun P => (N (boot_o_0 P) (N (boot_o_1 P) (N (o_49 A P) (N (boot_o_7 P) (N (o_51 A P) (N (o_67 A P) L L) L) (N (o_59 A P) L L)) (N (o_43 A P) (N (o_55 A P) L L) (N (o_63 A P) L L))) (N (boot_o_5 P) (N (boot_o_9 P) (N (o_53 A P) (N (o_69 A P) L L) L) (N (o_61 A P) L L)) (N (o_45 A P) (N (o_57 A P) L L) (N (o_65 A P) L L)))) (N (boot_o_2 P) (N (boot_o_4 P) (N (boot_o_8 P) (N (o_52 A P) (N (o_68 A P) L L) L) (N (o_60 A P) L L)) (N (o_50 A P) (N (o_56 A P) L L) (N (o_64 A P) L L))) (N (boot_o_6 P) (N (boot_o_10 P) (N (o_54 A P) (N (o_70 A P) L L) L) (N (o_62 A P) L L)) (N (o_46 A P) (N (o_58 A P) L L) (N (o_66 A P) L L))))))
noncomputable def tree_328 (A : AT) : Params → PySem.W.BT := (fun P => (N (boot_o_0 P) (N (boot_o_1 P) (N (o_300 A P) (N (boot_o_7 P) (N (o_51 A P) (N (o_103 A P) (N (o_108 A P) (N (o_174 A P) (N (o_309 A P) L L) L) (N (o_240 A P) L L)) (N (o_140 A P) (N (o_206 A P) L L) (N (o_274 A P) L L))) (N (o_89 A P) (N (o_124 A P) (N (o_190 A P) (N (o_325 A P) L L) L) (N (o_256 A P) L L)) (N (o_158 A P) (N (o_224 A P) L L) (N (o_290 A P) L L)))) (N (o_59 A P) (N (o_78 A P) (N (o_116 A P) (N (o_182 A P) (N (o_317 A P) L L) L) (N (o_248 A P) L L)) (N (o_148 A P) (N (o_214 A P) L L) (N (o_282 A P) L L))) (N (o_97 A P) (N (o_132 A P) (N (o_198 A P) L L) (N (o_264 A P) L L)) (N (o_166 A P) (N (o_232 A P) L L) (N (o_298 A P) L L))))) (N (o_43 A P) (N (o_55 A P) (N (o_74 A P) (N (o_112 A P) (N (o_178 A P) (N (o_313 A P) L L) L) (N (o_244 A P) L L)) (N (o_144 A P) (N (o_210 A P) L L) (N (o_278 A P) L L))) (N (o_93 A P) (N (o_128 A P) (N (o_194 A P) L L) (N (o_260 A P) L L)) (N (o_162 A P) (N (o_228 A P) L L) (N (o_294 A P) L L)))) (N (o_63 A P) (N (o_82 A P) (N (o_120 A P) (N (o_186 A P) (N (o_321 A P) L L) L) (N (o_252 A P) L L)) (N (o_154 A P) (N (o_220 A P) L L) (N (o_286 A P) L L))) (N (o_104 A P) (N (o_136 A P) (N (o_202 A P) L L) (N (o_268 A P) L L)) (N (o_170 A P) (N (o_236 A P) L L) (N (o_305 A P) L L)))))) (N (boot_o_5 P) (N (boot_o_9 P) (N (o_53 A P) (N (o_69 A P) (N (o_110 A P) (N (o_176 A P) (N (o_311 A P) L L) L) (N (o_242 A P) L L)) (N (o_142 A P) (N (o_208 A P) L L) (N (o_276 A P) L L))) (N (o_91 A P) (N (o_126 A P) (N (o_192 A P) (N (o_327 A P) L L) L) (N (o_258 A P) L L)) (N (o_160 A P) (N (o_226 A P) L L) (N (o_292 A P) L L)))) (N (o_61 A P) (N (o_80 A P) (N (o_118 A P) (N (o_184 A P) (N (o_319 A P) L L) L) (N (o_250 A P) L L)) (N (o_150 A P) (N (o_218 A P) L L) (N (o_284 A P) L L))) (N (o_99 A P) (N (o_134 A P) (N (o_200 A P) L L) (N (o_266 A P) L L)) (N (o_168 A P) (N (o_234 A P) L L) (N (o_303 A P) L L))))) (N (o_45 A P) (N (o_57 A P) (N (o_76 A P) (N (o_114 A P) (N (o_180 A P) (N (o_315 A P) L L) L) (N (o_246 A P) L L)) (N (o_146 A P) (N (o_212 A P) L L) (N (o_280 A P) L L))) (N (o_95 A P) (N (o_130 A P) (N (o_196 A P) L L) (N (o_262 A P) L L)) (N (o_164 A P) (N (o_230 A P) L L) (N (o_296 A P) L L)))) (N (o_65 A P) (N (o_84 A P) (N (o_122 A P) (N (o_188 A P) (N (o_323 A P) L L) L) (N (o_254 A P) L L)) (N (o_156 A P) (N (o_222 A P) L L) (N (o_288 A P) L L))) (N (o_106 A P) (N (o_138 A P) (N (o_204 A P) L L) (N (o_272 A P) L L)) (N (o_172 A P) (N (o_238 A P) L L) (N (o_307 A P) L L))))))) (N (boot_o_2 P) (N (boot_o_4 P) (N (boot_o_8 P) (N (o_52 A P) (N (o_68 A P) (N (o_109 A P) (N (o_175 A P) (N (o_310 A P) L L) L) (N (o_241 A P) L L)) (N (o_141 A P) (N (o_207 A P) L L) (N (o_275 A P) L L))) (N (o_90 A P) (N (o_125 A P) (N (o_191 A P) (N (o_326 A P) L L) L) (N (o_257 A P) L L)) (N (o_159 A P) (N (o_225 A P) L L) (N (o_291 A P) L L)))) (N (o_60 A P) (N (o_79 A P) (N (o_117 A P) (N (o_183 A P) (N (o_318 A P) L L) L) (N (o_249 A P) L L)) (N (o_149 A P) (N (o_217 A P) L L) (N (o_283 A P) L L))) (N (o_98 A P) (N (o_133 A P) (N (o_199 A P) L L) (N (o_265 A P) L L)) (N (o_167 A P) (N (o_233 A P) L L) (N (o_299 A P) L L))))) (N (o_301 A P) (N (o_56 A P) (N (o_75 A P) (N (o_113 A P) (N (o_179 A P) (N (o_314 A P) L L) L) (N (o_245 A P) L L)) (N (o_145 A P) (N (o_211 A P) L L) (N (o_279 A P) L L))) (N (o_94 A P) (N (o_129 A P) (N (o_195 A P) L L) (N (o_261 A P) L L)) (N (o_163 A P) (N (o_229 A P) L L) (N (o_302 A P) L L)))) (N (o_64 A P) (N (o_83 A P) (N (o_121 A P) (N (o_187 A P) (N (o_322 A P) L L) L) (N (o_253 A P) L L)) (N (o_155 A P) (N (o_221 A P) L L) (N (o_287 A P) L L))) (N (o_105 A P) (N (o_137 A P) (N (o_203 A P) L L) (N (o_269 A P) L L)) (N (o_171 A P) (N (o_237 A P) L L) (N (o_306 A P) L L)))))) (N (boot_o_6 P) (N (boot_o_10 P) (N (o_54 A P) (N (o_70 A P) (N (o_111 A P) (N (o_177 A P) (N (o_312 A P) L L) L) (N (o_243 A P) L L)) (N (o_143 A P) (N (o_209 A P) L L) (N (o_277 A P) L L))) (N (o_92 A P) (N (o_127 A P) (N (o_193 A P) (N (o_328 A P) L L) L) (N (o_259 A P) L L)) (N (o_161 A P) (N (o_227 A P) L L) (N (o_293 A P) L L)))) (N (o_62 A P) (N (o_81 A P) (N (o_119 A P) (N (o_185 A P) (N (o_320 A P) L L) L) (N (o_251 A P) L L)) (N (o_151 A P) (N (o_219 A P) L L) (N (o_285 A P) L L))) (N (o_100 A P) (N (o_135 A P) (N (o_201 A P) L L) (N (o_267 A P) L L)) (N (o_169 A P) (N (o_235 A P) L L) (N (o_304 A P) L L))))) (N (o_46 A P) (N (o_58 A P) (N (o_77 A P) (N (o_115 A P) (N (o_181 A P) (N (o_316 A P) L L) L) (N (o_247 A P) L L)) (N (o_147 A P) (N (o_213 A P) L L) (N (o_281 A P) L L))) (N (o_96 A P) (N (o_131 A P) (N (o_197 A P) L L) (N (o_263 A P) L L)) (N (o_165 A P) (N (o_231 A P) L L) (N (o_297 A P) L L)))) (N (o_66 A P) (N (o_85 A P) (N (o_123 A P) (N (o_189 A P) (N (o_324 A P) L L) L) (N (o_255 A P) L L)) (N (o_157 A P) (N (o_223 A P) L L) (N (o_289 A P) L L))) (N (o_107 A P) (N (o_139 A P) (N (o_205 A P) L L) (N (o_273 A P) L L)) (N (o_173 A P) (N (o_239 A P) L L) (N (o_308 A P) L L)))))))))
noncomputable def tree_299 (A : AT) : Params → PySem.W.BT := (fun P => (N (boot_o_0 P) (N (boot_o_1 P) (N (o_270 A P) (N (boot_o_7 P) (N (o_51 A P) (N (o_103 A P) (N (o_108 A P) (N (o_174 A P) L L) (N (o_240 A P) L L)) (N (o_140 A P) (N (o_206 A P) L L) (N (o_274 A P) L L))) (N (o_89 A P) (N (o_124 A P) (N (o_190 A P) L L) (N (o_256 A P) L L)) (N (o_158 A P) (N (o_224 A P) L L) (N (o_290 A P) L L)))) (N (o_59 A P) (N (o_78 A P) (N (o_116 A P) (N (o_182 A P) L L) (N (o_248 A P) L L)) (N (o_148 A P) (N (o_214 A P) L L) (N (o_282 A P) L L))) (N (o_97 A P) (N (o_132 A P) (N (o_198 A P) L L) (N (o_264 A P) L L)) (N (o_166 A P) (N (o_232 A P) L L) (N (o_298 A P) L L))))) (N (o_43 A P) (N (o_55 A P) (N (o_74 A P) (N (o_112 A P) (N (o_178 A P) L L) (N (o_244 A P) L L)) (N (o_144 A P) (N (o_210 A P) L L) (N (o_278 A P) L L))) (N (o_93 A P) (N (o_128 A P) (N (o_194 A P) L L) (N (o_260 A P) L L)) (N (o_162 A P) (N (o_228 A P) L L) (N (o_294 A P) L L)))) (N (o_63 A P) (N (o_82 A P) (N (o_120 A P) (N (o_186 A P) L L) (N (o_252 A P) L L)) (N (o_154 A P) (N (o_220 A P) L L) (N (o_286 A P) L L))) (N (o_104 A P) (N (o_136 A P) (N (o_202 A P) L L) (N (o_268 A P) L L)) (N (o_170 A P) (N (o_236 A P) L L) L))))) (N (boot_o_5 P) (N (boot_o_9 P) (N (o_53 A P) (N (o_69 A P) (N (o_110 A P) (N (o_176 A P) L L) (N (o_242 A P) L L)) (N (o_142 A P) (N (o_208 A P) L L) (N (o_276 A P) L L))) (N (o_91 A P) (N (o_126 A P) (N (o_192 A P) L L) (N (o_258 A P) L L)) (N (o_160 A P) (N (o_226 A P) L L) (N (o_292 A P) L L)))) (N (o_61 A P) (N (o_80 A P) (N (o_118 A P) (N (o_184 A P) L L) (N (o_250 A P) L L)) (N (o_150 A P) (N (o_218 A P) L L) (N (o_284 A P) L L))) (N (o_99 A P) (N (o_134 A P) (N (o_200 A P) L L) (N (o_266 A P) L L)) (N (o_168 A P) (N (o_234 A P) L L) L)))) (N (o_45 A P) (N (o_57 A P) (N (o_76 A P) (N (o_114 A P) (N (o_180 A P) L L) (N (o_246 A P) L L)) (N (o_146 A P) (N (o_212 A P) L L) (N (o_280 A P) L L))) (N (o_95 A P) (N (o_130 A P) (N (o_196 A P) L L) (N (o_262 A P) L L)) (N (o_164 A P) (N (o_230 A P) L L) (N (o_296 A P) L L)))) (N (o_65 A P) (N (o_84 A P) (N (o_122 A P) (N (o_188 A P) L L) (N (o_254 A P) L L)) (N (o_156 A P) (N (o_222 A P) L L) (N (o_288 A P) L L))) (N (o_106 A P) (N (o_138 A P) (N (o_204 A P) L L) (N (o_272 A P) L L)) (N (o_172 A P) (N (o_238 A P) L L) L)))))) (N (boot_o_2 P) (N (boot_o_4 P) (N (boot_o_8 P) (N (o_52 A P) (N (o_68 A P) (N (o_109 A P) (N (o_175 A P) L L) (N (o_241 A P) L L)) (N (o_141 A P) (N (o_207 A P) L L) (N (o_275 A P) L L))) (N (o_90 A P) (N (o_125 A P) (N (o_191 A P) L L) (N (o_257 A P) L L)) (N (o_159 A P) (N (o_225 A P) L L) (N (o_291 A P) L L)))) (N (o_60 A P) (N (o_79 A P) (N (o_117 A P) (N (o_183 A P) L L) (N (o_249 A P) L L)) (N (o_149 A P) (N (o_217 A P) L L) (N (o_283 A P) L L))) (N (o_98 A P) (N (o_133 A P) (N (o_199 A P) L L) (N (o_265 A P) L L)) (N (o_167 A P) (N (o_233 A P) L L) (N (o_299 A P) L L))))) (N (o_271 A P) (N (o_56 A P) (N (o_75 A P) (N (o_113 A P) (N (o_179 A P) L L) (N (o_245 A P) L L)) (N (o_145 A P) (N (o_211 A P) L L) (N (o_279 A P) L L))) (N (o_94 A P) (N (o_129 A P) (N (o_195 A P) L L) (N (o_261 A P) L L)) (N (o_163 A P) (N (o_229 A P) L L) (N (o_295 A P) L L)))) (N (o_64 A P) (N (o_83 A P) (N (o_121 A P) (N (o_187 A P) L L) (N (o_253 A P) L L)) (N (o_155 A P) (N (o_221 A P) L L) (N (o_287 A P) L L))) (N (o_105 A P) (N (o_137 A P) (N (o_203 A P) L L) (N (o_269 A P) L L)) (N (o_171 A P) (N (o_237 A P) L L) L))))) (N (boot_o_6 P) (N (boot_o_10 P) (N (o_54 A P) (N (o_70 A P) (N (o_111 A P) (N (o_177 A P) L L) (N (o_243 A P) L L)) (N (o_143 A P) (N (o_209 A P) L L) (N (o_277 A P) L L))) (N (o_92 A P) (N (o_127 A P) (N (o_193 A P) L L) (N (o_259 A P) L L)) (N (o_161 A P) (N (o_227 A P) L L) (N (o_293 A P) L L)))) (N (o_62 A P) (N (o_81 A P) (N (o_119 A P) (N (o_185 A P) L L) (N (o_251 A P) L L)) (N (o_151 A P) (N (o_219 A P) L L) (N (o_285 A P) L L))) (N (o_100 A P) (N (o_135 A P) (N (o_201 A P) L L) (N (o_267 A P) L L)) (N (o_169 A P) (N (o_235 A P) L L) L)))) (N (o_46 A P) (N (o_58 A P) (N (o_77 A P) (N (o_115 A P) (N (o_181 A P) L L) (N (o_247 A P) L L)) (N (o_147 A P) (N (o_213 A P) L L) (N (o_281 A P) L L))) (N (o_96 A P) (N (o_131 A P) (N (o_197 A P) L L) (N (o_263 A P) L L)) (N (o_165 A P) (N (o_231 A P) L L) (N (o_297 A P) L L)))) (N (o_66 A P) (N (o_85 A P) (N (o_123 A P) (N (o_189 A P) L L) (N (o_255 A P) L L)) (N (o_157 A P) (N (o_223 A P) L L) (N (o_289 A P) L L))) (N (o_107 A P) (N (o_139 A P) (N (o_205 A P) L L) (N (o_273 A P) L L)) (N (o_173 A P) (N (o_239 A P) L L) L))))))))
noncomputable def tree_100 (A : AT) : Params → PySem.W.BT := (fun P => (N (boot_o_0 P) (N (boot_o_1 P) (N (o_86 A P) (N (boot_o_7 P) (N (o_51 A P) (N (o_88 A P) L L) (N (o_89 A P) L L)) (N (o_59 A P) (N (o_78 A P) L L) (N (o_97 A P) L L))) (N (o_43 A P) (N (o_55 A P) (N (o_74 A P) L L) (N (o_93 A P) L L)) (N (o_63 A P) (N (o_82 A P) L L) L))) (N (boot_o_5 P) (N (boot_o_9 P) (N (o_53 A P) (N (o_69 A P) L L) (N (o_91 A P) L L)) (N (o_61 A P) (N (o_80 A P) L L) (N (o_99 A P) L L))) (N (o_45 A P) (N (o_57 A P) (N (o_76 A P) L L) (N (o_95 A P) L L)) (N (o_65 A P) (N (o_84 A P) L L) L)))) (N (boot_o_2 P) (N (boot_o_4 P) (N (boot_o_8 P) (N (o_52 A P) (N (o_68 A P) L L) (N (o_90 A P) L L)) (N (o_60 A P) (N (o_79 A P) L L) (N (o_98 A P) L L))) (N (o_87 A P) (N (o_56 A P) (N (o_75 A P) L L) (N (o_94 A P) L L)) (N (o_64 A P) (N (o_83 A P) L L) L))) (N (boot_o_6 P) (N (boot_o_10 P) (N (o_54 A P) (N (o_70 A P) L L) (N (o_92 A P) L L)) (N (o_62 A P) (N (o_81 A P) L L) (N (o_100 A P) L L))) (N (o_46 A P) (N (o_58 A P) (N (o_77 A P) L L) (N (o_96 A P) L L)) (N (o_66 A P) (N (o_85 A P) L L) L))))))
noncomputable def tree_352 (A : AT) : Params → PySem.W.BT := (fun P => (N (boot_o_0 P) (N (boot_o_1 P) (N (o_329 A P) (N (boot_o_7 P) (N (o_51 A P) (N (o_103 A P) (N (o_108 A P) (N (o_174 A P) (N (o_309 A P) L L) L) (N (o_240 A P) L L)) (N (o_140 A P) (N (o_206 A P) (N (o_343 A P) L L) L) (N (o_274 A P) L L))) (N (o_89 A P) (N (o_124 A P) (N (o_190 A P) (N (o_325 A P) L L) L) (N (o_256 A P) L L)) (N (o_158 A P) (N (o_224 A P) L L) (N (o_290 A P) L L)))) (N (o_59 A P) (N (o_78 A P) (N (o_116 A P) (N (o_182 A P) (N (o_317 A P) L L) L) (N (o_248 A P) L L)) (N (o_148 A P) (N (o_214 A P) (N (o_351 A P) L L) L) (N (o_282 A P) L L))) (N (o_97 A P) (N (o_132 A P) (N (o_198 A P) (N (o_335 A P) L L) L) (N (o_264 A P) L L)) (N (o_166 A P) (N (o_232 A P) L L) (N (o_298 A P) L L))))) (N (o_43 A P) (N (o_55 A P) (N (o_74 A P) (N (o_112 A P) (N (o_178 A P) (N (o_313 A P) L L) L) (N (o_244 A P) L L)) (N (o_144 A P) (N (o_210 A P) (N (o_347 A P) L L) L) (N (o_278 A P) L L))) (N (o_93 A P) (N (o_128 A P) (N (o_194 A P) (N (o_331 A P) L L) L) (N (o_260 A P) L L)) (N (o_162 A P) (N (o_228 A P) L L) (N (o_294 A P) L L)))) (N (o_63 A P) (N (o_82 A P) (N (o_120 A P) (N (o_186 A P) (N (o_321 A P) L L) L) (N (o_252 A P) L L)) (N (o_154 A P) (N (o_220 A P) L L) (N (o_286 A P) L L))) (N (o_104 A P) (N (o_136 A P) (N (o_202 A P) (N (o_339 A P) L L) L) (N (o_268 A P) L L)) (N (o_170 A P) (N (o_236 A P) L L) (N (o_305 A P) L L)))))) (N (boot_o_5 P) (N (boot_o_9 P) (N (o_53 A P) (N (o_69 A P) (N (o_110 A P) (N (o_176 A P) (N (o_311 A P) L L) L) (N (o_242 A P) L L)) (N (o_142 A P) (N (o_208 A P) (N (o_345 A P) L L) L) (N (o_276 A P) L L))) (N (o_91 A P) (N (o_126 A P) (N (o_192 A P) (N (o_327 A P) L L) L) (N (o_258 A P) L L)) (N (o_160 A P) (N (o_226 A P) L L) (N (o_292 A P) L L)))) (N (o_61 A P) (N (o_80 A P) (N (o_118 A P) (N (o_184 A P) (N (o_319 A P) L L) L) (N (o_250 A P) L L)) (N (o_150 A P) (N (o_218 A P) L L) (N (o_284 A P) L L))) (N (o_99 A P) (N (o_134 A P) (N (o_200 A P) (N (o_337 A P) L L) L) (N (o_266 A P) L L)) (N (o_168 A P) (N (o_234 A P) L L) (N (o_303 A P) L L))))) (N (o_45 A P) (N (o_57 A P) (N (o_76 A P) (N (o_114 A P) (N (o_180 A P) (N (o_315 A P) L L) L) (N (o_246 A P) L L)) (N (o_146 A P) (N (o_212 A P) (N (o_349 A P) L L) L) (N (o_280 A P) L L))) (N (o_95 A P) (N (o_130 A P) (N (o_196 A P) (N (o_333 A P) L L) L) (N (o_262 A P) L L)) (N (o_164 A P) (N (o_230 A P) L L) (N (o_296 A P) L L)))) (N (o_65 A P) (N (o_84 A P) (N (o_122 A P) (N (o_188 A P) (N (o_323 A P) L L) L) (N (o_254 A P) L L)) (N (o_156 A P) (N (o_222 A P) L L) (N (o_288 A P) L L))) (N (o_106 A P) (N (o_138 A P) (N (o_204 A P) (N (o_341 A P) L L) L) (N (o_272 A P) L L)) (N (o_172 A P) (N (o_238 A P) L L) (N (o_307 A P) L L))))))) (N (boot_o_2 P) (N (boot_o_4 P) (N (boot_o_8 P) (N (o_52 A P) (N (o_68 A P) (N (o_109 A P) (N (o_175 A P) (N (o_310 A P) L L) L) (N (o_241 A P) L L)) (N (o_141 A P) (N (o_207 A P) (N (o_344 A P) L L) L) (N (o_275 A P) L L))) (N (o_90 A P) (N (o_125 A P) (N (o_191 A P) (N (o_326 A P) L L) L) (N (o_257 A P) L L)) (N (o_159 A P) (N (o_225 A P) L L) (N (o_291 A P) L L)))) (N (o_60 A P) (N (o_79 A P) (N (o_117 A P) (N (o_183 A P) (N (o_318 A P) L L) L) (N (o_249 A P) L L)) (N (o_149 A P) (N (o_217 A P) (N (o_352 A P) L L) L) (N (o_283 A P) L L))) (N (o_98 A P) (N (o_133 A P) (N (o_199 A P) (N (o_336 A P) L L) L) (N (o_265 A P) L L)) (N (o_167 A P) (N (o_233 A P) L L) (N (o_299 A P) L L))))) (N (o_330 A P) (N (o_56 A P) (N (o_75 A P) (N (o_113 A P) (N (o_179 A P) (N (o_314 A P) L L) L) (N (o_245 A P) L L)) (N (o_145 A P) (N (o_211 A P) (N (o_348 A P) L L) L) (N (o_279 A P) L L))) (N (o_94 A P) (N (o_129 A P) (N (o_195 A P) (N (o_332 A P) L L) L) (N (o_261 A P) L L)) (N (o_163 A P) (N (o_229 A P) L L) (N (o_302 A P) L L)))) (N (o_64 A P) (N (o_83 A P) (N (o_121 A P) (N (o_187 A P) (N (o_322 A P) L L) L) (N (o_253 A P) L L)) (N (o_155 A P) (N (o_221 A P) L L) (N (o_287 A P) L L))) (N (o_105 A P) (N (o_137 A P) (N (o_203 A P) (N (o_340 A P) L L) L) (N (o_269 A P) L L)) (N (o_171 A P) (N (o_237 A P) L L) (N (o_306 A P) L L)))))) (N (boot_o_6 P) (N (boot_o_10 P) (N (o_54 A P) (N (o_70 A P) (N (o_111 A P) (N (o_177 A P) (N (o_312 A P) L L) L) (N (o_243 A P) L L)) (N (o_143 A P) (N (o_209 A P) (N (o_346 A P) L L) L) (N (o_277 A P) L L))) (N (o_92 A P) (N (o_127 A P) (N (o_193 A P) (N (o_328 A P) L L) L) (N (o_259 A P) L L)) (N (o_161 A P) (N (o_227 A P) L L) (N (o_293 A P) L L)))) (N (o_62 A P) (N (o_81 A P) (N (o_119 A P) (N (o_185 A P) (N (o_320 A P) L L) L) (N (o_251 A P) L L)) (N (o_151 A P) (N (o_219 A P) L L) (N (o_285 A P) L L))) (N (o_100 A P) (N (o_135 A P) (N (o_201 A P) (N (o_338 A P) L L) L) (N (o_267 A P) L L)) (N (o_169 A P) (N (o_235 A P) L L) (N (o_304 A P) L L))))) (N (o_46 A P) (N (o_58 A P) (N (o_77 A P) (N (o_115 A P) (N (o_181 A P) (N (o_316 A P) L L) L) (N (o_247 A P) L L)) (N (o_147 A P) (N (o_213 A P) (N (o_350 A P) L L) L) (N (o_281 A P) L L))) (N (o_96 A P) (N (o_131 A P) (N (o_197 A P) (N (o_334 A P) L L) L) (N (o_263 A P) L L)) (N (o_165 A P) (N (o_231 A P) L L) (N (o_297 A P) L L)))) (N (o_66 A P) (N (o_85 A P) (N (o_123 A P) (N (o_189 A P) (N (o_324 A P) L L) L) (N (o_255 A P) L L)) (N (o_157 A P) (N (o_223 A P) L L) (N (o_289 A P) L L))) (N (o_107 A P) (N (o_139 A P) (N (o_205 A P) (N (o_342 A P) L L) L) (N (o_273 A P) L L)) (N (o_173 A P) (N (o_239 A P) L L) (N (o_308 A P) L L)))))))))
noncomputable def heap_535 (A : AT) : Params → PySem.Heap := (fun P => (Heap.mk (Array.mk [(boot_o_0 P), (boot_o_1 P), (boot_o_2 P), (o_528 A P), (boot_o_4 P), (boot_o_5 P), (boot_o_6 P), (boot_o_7 P), (boot_o_8 P), (boot_o_9 P), (boot_o_10 P), (o_43 A P), (o_529 A P), (o_45 A P), (o_46 A P), (o_51 A P), (o_52 A P), (o_53 A P), (o_54 A P), (o_55 A P), (o_56 A P), (o_57 A P), (o_58 A P), (o_59 A P), (o_60 A P), (o_61 A P), (o_62 A P), (o_63 A P), (o_64 A P), (o_65 A P), (o_66 A P), (o_103 A P), (o_68 A P), (o_69 A P), (o_70 A P), (o_74 A P), (o_75 A P), (o_76 A P), (o_77 A P), (o_78 A P), (o_79 A P), (o_80 A P), (o_81 A P), (o_82 A P), (o_83 A P), (o_84 A P), (o_85 A P), (o_89 A P), (o_90 A P), (o_91 A P), (o_92 A P), (o_93 A P), (o_94 A P), (o_95 A P), (o_96 A P), (o_97 A P), (o_98 A P), (o_99 A P), (o_100 A P), (o_104 A P), (o_105 A P), (o_106 A P), (o_107 A P), (o_108 A P), (o_109 A P), (o_110 A P), (o_111 A P), (o_112 A P), (o_113 A P), (o_114 A P), (o_115 A P), (o_116 A P), (o_117 A P), (o_118 A P), (o_119 A P), (o_120 A P), (o_121 A P), (o_122 A P), (o_123 A P), (o_124 A P), (o_125 A P), (o_126 A P), (o_127 A P), (o_128 A P), (o_129 A P), (o_130 A P), (o_131 A P), (o_132 A P), (o_133 A P), (o_134 A P), (o_135 A P), (o_136 A P), (o_137 A P), (o_138 A P), (o_139 A P), (o_140 A P), (o_141 A P), (o_142 A P), (o_143 A P), (o_144 A P), (o_145 A P), (o_146 A P), (o_147 A P), (o_148 A P), (o_149 A P), (o_150 A P), (o_151 A P), (o_154 A P), (o_155 A P), (o_156 A P), (o_157 A P), (o_158 A P), (o_159 A P), (o_160 A P), (o_161 A P), (o_162 A P), (o_163 A P), (o_164 A P), (o_165 A P), (o_166 A P), (o_167 A P), (o_168 A P), (o_169 A P), (o_170 A P), (o_171 A P), (o_172 A P), (o_173 A P), (o_174 A P), (o_175 A P), (o_176 A P), (o_177 A P), (o_178 A P), (o_179 A P), (o_180 A P), (o_181 A P), (o_182 A P), (o_183 A P), (o_184 A P), (o_185 A P), (o_186 A P), (o_187 A P), (o_188 A P), (o_189 A P), (o_190 A P), (o_191 A P), (o_192 A P), (o_193 A P), (o_194 A P), (o_195 A P), (o_196 A P), (o_197 A P), (o_198 A P), (o_199 A P), (o_200 A P), (o_201 A P), (o_202 A P), (o_203 A P), (o_204 A P), (o_205 A P), (o_206 A P), (o_207 A P), (o_208 A P), (o_209 A P), (o_210 A P), (o_211 A P), (o_212 A P), (o_213 A P), (o_214 A P), (o_217 A P), (o_218 A P), (o_219 A P), (o_220 A P), (o_221 A P), (o_222 A P), (o_223 A P), (o_224 A P), (o_225 A P), (o_226 A P), (o_227 A P), (o_228 A P), (o_229 A P), (o_230 A P), (o_231 A P), (o_232 A P), (o_233 A P), (o_234 A P), (o_235 A P), (o_236 A P), (o_237 A P), (o_238 A P), (o_239 A P), (o_240 A P), (o_241 A P), (o_242 A P), (o_243 A P), (o_244 A P), (o_245 A P), (o_246 A P), (o_247 A P), (o_248 A P), (o_249 A P), (o_250 A P), (o_251 A P), (o_252 A P), (o_253 A P), (o_254 A P), (o_255 A P), (o_256 A P), (o_257 A P), (o_258 A P), (o_259 A P), (o_260 A P), (o_261 A P), (o_262 A P), (o_263 A P), (o_264 A P), (o_265 A P), (o_266 A P), (o_267 A P), (o_268 A P), (o_269 A P), (o_272 A P), (o_273 A P), (o_274 A P), (o_275 A P), (o_276 A P), (o_277 A P), (o_278 A P), (o_279 A P), (o_280 A P), (o_281 A P), (o_282 A P), (o_283 A P), (o_284 A P), (o_285 A P), (o_286 A P), (o_287 A P), (o_288 A P), (o_289 A P), (o_290 A P), (o_291 A P), (o_292 A P), (o_293 A P), (o_294 A P), (o_302 A P), (o_296 A P), (o_297 A P), (o_298 A P), (o_299 A P), (o_303 A P), (o_304 A P), (o_305 A P), (o_306 A P), (o_307 A P), (o_308 A P), (o_309 A P), (o_310 A P), (o_311 A P), (o_312 A P), (o_313 A P), (o_314 A P), (o_315 A P), (o_316 A P), (o_317 A P), (o_318 A P), (o_319 A P), (o_320 A P), (o_321 A P), (o_322 A P), (o_323 A P), (o_324 A P), (o_325 A P), (o_326 A P), (o_327 A P), (o_328 A P), (o_331 A P), (o_332 A P), (o_333 A P), (o_334 A P), (o_335 A P), (o_336 A P), (o_337 A P), (o_338 A P), (o_339 A P), (o_340 A P), (o_341 A P), (o_342 A P), (o_343 A P), (o_344 A P), (o_345 A P), (o_346 A P), (o_347 A P), (o_348 A P), (o_349 A P), (o_350 A P), (o_351 A P), (o_352 A P), (o_355 A P), (o_356 A P), (o_357 A P), (o_358 A P), (o_359 A P), (o_360 A P), (o_361 A P), (o_362 A P), (o_363 A P), (o_364 A P), (o_365 A P), (o_366 A P), (o_367 A P), (o_368 A P), (o_369 A P), (o_370 A P), (o_371 A P), (o_372 A P), (o_373 A P), (o_374 A P), (o_375 A P), (o_376 A P), (o_377 A P), (o_378 A P), (o_379 A P), (o_380 A P), (o_381 A P), (o_382 A P), (o_383 A P), (o_386 A P), (o_387 A P), (o_388 A P), (o_389 A P), (o_390 A P), (o_391 A P), (o_392 A P), (o_393 A P), (o_394 A P), (o_395 A P), (o_396 A P), (o_397 A P), (o_398 A P), (o_399 A P), (o_400 A P), (o_401 A P), (o_402 A P), (o_403 A P), (o_404 A P), (o_405 A P), (o_406 A P), (o_407 A P), (o_408 A P), (o_409 A P), (o_410 A P), (o_411 A P), (o_412 A P), (o_413 A P), (o_414 A P), (o_415 A P), (o_416 A P), (o_417 A P), (o_418 A P), (o_419 A P), (o_420 A P), (o_421 A P), (o_422 A P), (o_423 A P), (o_424 A P), (o_425 A P), (o_426 A P), (o_427 A P), (o_428 A P), (o_429 A P), (o_430 A P), (o_431 A P), (o_432 A P), (o_433 A P), (o_434 A P), (o_435 A P), (o_436 A P), (o_437 A P), (o_438 A P), (o_439 A P), (o_440 A P), (o_441 A P), (o_442 A P), (o_445 A P), (o_446 A P), (o_447 A P), (o_448 A P), (o_449 A P), (o_450 A P), (o_451 A P), (o_452 A P), (o_453 A P), (o_454 A P), (o_455 A P), (o_456 A P), (o_457 A P), (o_458 A P), (o_459 A P), (o_460 A P), (o_461 A P), (o_462 A P), (o_463 A P), (o_464 A P), (o_465 A P), (o_466 A P), (o_467 A P), (o_468 A P), (o_469 A P), (o_470 A P), (o_471 A P), (o_472 A P), (o_473 A P), (o_474 A P), (o_475 A P), (o_476 A P), (o_477 A P), (o_478 A P), (o_479 A P), (o_480 A P), (o_481 A P), (o_482 A P), (o_483 A P), (o_484 A P), (o_485 A P), (o_486 A P), (o_487 A P), (o_488 A P), (o_489 A P), (o_490 A P), (o_491 A P), (o_492 A P), (o_493 A P), (o_494 A P), (o_495 A P), (o_496 A P), (o_497 A P), (o_498 A P), (o_499 A P), (o_500 A P), (o_501 A P), (o_502 A P), (o_503 A P), (o_504 A P), (o_505 A P), (o_506 A P), (o_507 A P), (o_508 A P), (o_509 A P), (o_510 A P), (o_511 A P), (o_512 A P), (o_513 A P), (o_514 A P), (o_515 A P), (o_516 A P), (o_517 A P), (o_518 A P), (o_519 A P), (o_520 A P), (o_521 A P), (o_522 A P), (o_523 A P), (o_524 A P), (o_525 A P), (o_526 A P), (o_527 A P), (o_530 A P), (o_531 A P), (o_532 A P), (o_533 A P), (o_534 A P)]) (Life.mk [] [] [] 0 [] [] false #[] [] 0 false false false 0 [2000, 10, 10] false 0 true [] [] 0 false)))
noncomputable def tree_214 (A : AT) : Params → PySem.W.BT := (fun P => (N (boot_o_0 P) (N (boot_o_1 P) (N (o_152 A P) (N (boot_o_7 P) (N (o_51 A P) (N (o_103 A P) (N (o_108 A P) (N (o_174 A P) L L) L) (N (o_140 A P) (N (o_206 A P) L L) L)) (N (o_89 A P) (N (o_124 A P) (N (o_190 A P) L L) L) (N (o_158 A P) L L))) (N (o_59 A P) (N (o_78 A P) (N (o_116 A P) (N (o_182 A P) L L) L) (N (o_148 A P) (N (o_214 A P) L L) L)) (N (o_97 A P) (N (o_132 A P) (N (o_198 A P) L L) L) (N (o_166 A P) L L)))) (N (o_43 A P) (N (o_55 A P) (N (o_74 A P) (N (o_112 A P) (N (o_178 A P) L L) L) (N (o_144 A P) (N (o_210 A P) L L) L)) (N (o_93 A P) (N (o_128 A P) (N (o_194 A P) L L) L) (N (o_162 A P) L L))) (N (o_63 A P) (N (o_82 A P) (N (o_120 A P) (N (o_186 A P) L L) L) (N (o_154 A P) L L)) (N (o_104 A P) (N (o_136 A P) (N (o_202 A P) L L) L) (N (o_170 A P) L L))))) (N (boot_o_5 P) (N (boot_o_9 P) (N (o_53 A P) (N (o_69 A P) (N (o_110 A P) (N (o_176 A P) L L) L) (N (o_142 A P) (N (o_208 A P) L L) L)) (N (o_91 A P) (N (o_126 A P) (N (o_192 A P) L L) L) (N (o_160 A P) L L))) (N (o_61 A P) (N (o_80 A P) (N (o_118 A P) (N (o_184 A P) L L) L) (N (o_150 A P) L L)) (N (o_99 A P) (N (o_134 A P) (N (o_200 A P) L L) L) (N (o_168 A P) L L)))) (N (o_45 A P) (N (o_57 A P) (N (o_76 A P) (N (o_114 A P) (N (o_180 A P) L L) L) (N (o_146 A P) (N (o_212 A P) L L) L)) (N (o_95 A P) (N (o_130 A P) (N (o_196 A P) L L) L) (N (o_164 A P) L L))) (N (o_65 A P) (N (o_84 A P) (N (o_122 A P) (N (o_188 A P) L L) L) (N (o_156 A P) L L)) (N (o_106 A P) (N (o_138 A P) (N (o_204 A P) L L) L) (N (o_172 A P) L L)))))) (N (boot_o_2 P) (N (boot_o_4 P) (N (boot_o_8 P) (N (o_52 A P) (N (o_68 A P) (N (o_109 A P) (N (o_175 A P) L L) L) (N (o_141 A P) (N (o_207 A P) L L) L)) (N (o_90 A P) (N (o_125 A P) (N (o_191 A P) L L) L) (N (o_159 A P) L L))) (N (o_60 A P) (N (o_79 A P) (N (o_117 A P) (N (o_183 A P) L L) L) (N (o_149 A P) L L)) (N (o_98 A P) (N (o_133 A P) (N (o_199 A P) L L) L) (N (o_167 A P) L L)))) (N (o_153 A P) (N (o_56 A P) (N (o_75 A P) (N (o_113 A P) (N (o_179 A P) L L) L) (N (o_145 A P) (N (o_211 A P) L L) L)) (N (o_94 A P) (N (o_129 A P) (N (o_195 A P) L L) L) (N (o_163 A P) L L))) (N (o_64 A P) (N (o_83 A P) (N (o_121 A P) (N (o_187 A P) L L) L) (N (o_155 A P) L L)) (N (o_105 A P) (N (o_137 A P) (N (o_203 A P) L L) L) (N (o_171 A P) L L))))) (N (boot_o_6 P) (N (boot_o_10 P) (N (o_54 A P) (N (o_70 A P) (N (o_111 A P) (N (o_177 A P) L L) L) (N (o_143 A P) (N (o_209 A P) L L) L)) (N (o_92 A P) (N (o_127 A P) (N (o_193 A P) L L) L) (N (o_161 A P) L L))) (N (o_62 A P) (N (o_81 A P) (N (o_119 A P) (N (o_185 A P) L L) L) (N (o_151 A P) L L)) (N (o_100 A P) (N (o_135 A P) (N (o_201 A P) L L) L) (N (o_169 A P) L L)))) (N (o_46 A P) (N (o_58 A P) (N (o_77 A P) (N (o_115 A P) (N (o_181 A P) L L) L) (N (o_147 A P) (N (o_213 A P) L L) L)) (N (o_96 A P) (N (o_131 A P) (N (o_197 A P) L L) L) (N (o_165 A P) L L))) (N (o_66 A P) (N (o_85 A P) (N (o_123 A P) (N (o_189 A P) L L) L) (N (o_157 A P) L L)) (N (o_107 A P) (N (o_139 A P) (N (o_205 A P) L L) L) (N (o_173 A P) L L))))))))
noncomputable def tree_527 (A : AT) : Params → PySem.W.BT := (fun P => (N (boot_o_0 P) (N (boot_o_1 P) (N (o_443 A P) (N (boot_o_7 P) (N (o_51 A P) (N (o_103 A P) (N (o_108 A P) (N (o_174 A P) (N (o_309 A P) L L) (N (o_445 A P) L L)) (N (o_240 A P) (N (o_377 A P) L L) (N (o_509 A P) L L))) (N (o_140 A P) (N (o_206 A P) (N (o_343 A P) L L) (N (o_477 A P) L L)) (N (o_274 A P) (N (o_411 A P) L L) L))) (N (o_89 A P) (N (o_124 A P) (N (o_190 A P) (N (o_325 A P) L L) (N (o_461 A P) L L)) (N (o_256 A P) (N (o_395 A P) L L) (N (o_525 A P) L L))) (N (o_158 A P) (N (o_224 A P) (N (o_361 A P) L L) (N (o_493 A P) L L)) (N (o_290 A P) (N (o_427 A P) L L) L)))) (N (o_59 A P) (N (o_78 A P) (N (o_116 A P) (N (o_182 A P) (N (o_317 A P) L L) (N (o_453 A P) L L)) (N (o_248 A P) (N (o_387 A P) L L) (N (o_517 A P) L L))) (N (o_148 A P) (N (o_214 A P) (N (o_351 A P) L L) (N (o_485 A P) L L)) (N (o_282 A P) (N (o_419 A P) L L) L))) (N (o_97 A P) (N (o_132 A P) (N (o_198 A P) (N (o_335 A P) L L) (N (o_469 A P) L L)) (N (o_264 A P) (N (o_403 A P) L L) L)) (N (o_166 A P) (N (o_232 A P) (N (o_369 A P) L L) (N (o_501 A P) L L)) (N (o_298 A P) (N (o_435 A P) L L) L))))) (N (o_43 A P) (N (o_55 A P) (N (o_74 A P) (N (o_112 A P) (N (o_178 A P) (N (o_313 A P) L L) (N (o_449 A P) L L)) (N (o_244 A P) (N (o_381 A P) L L) (N (o_513 A P) L L))) (N (o_144 A P) (N (o_210 A P) (N (o_347 A P) L L) (N (o_481 A P) L L)) (N (o_278 A P) (N (o_415 A P) L L) L))) (N (o_93 A P) (N (o_128 A P) (N (o_194 A P) (N (o_331 A P) L L) (N (o_465 A P) L L)) (N (o_260 A P) (N (o_399 A P) L L) L)) (N (o_162 A P) (N (o_228 A P) (N (o_365 A P) L L) (N (o_497 A P) L L)) (N (o_294 A P) (N (o_431 A P) L L) L)))) (N (o_63 A P) (N (o_82 A P) (N (o_120 A P) (N (o_186 A P) (N (o_321 A P) L L) (N (o_457 A P) L L)) (N (o_252 A P) (N (o_391 A P) L L) (N (o_521 A P) L L))) (N (o_154 A P) (N (o_220 A P) (N (o_357 A P) L L) (N (o_489 A P) L L)) (N (o_286 A P) (N (o_423 A P) L L) L))) (N (o_104 A P) (N (o_136 A P) (N (o_202 A P) (N (o_339 A P) L L) (N (o_473 A P) L L)) (N (o_268 A P) (N (o_407 A P) L L) L)) (N (o_170 A P) (N (o_236 A P) (N (o_373 A P) L L) (N (o_505 A P) L L)) (N (o_305 A P) (N (o_439 A P) L L) L)))))) (N (boot_o_5 P) (N (boot_o_9 P) (N (o_53 A P) (N (o_69 A P) (N (o_110 A P) (N (o_176 A P) (N (o_311 A P) L L) (N (o_447 A P) L L)) (N (o_242 A P) (N (o_379 A P) L L) (N (o_511 A P) L L))) (N (o_142 A P) (N (o_208 A P) (N (o_345 A P) L L) (N (o_479 A P) L L)) (N (o_276 A P) (N (o_413 A P) L L) L))) (N (o_91 A P) (N (o_126 A P) (N (o_192 A P) (N (o_327 A P) L L) (N (o_463 A P) L L)) (N (o_258 A P) (N (o_397 A P) L L) (N (o_527 A P) L L))) (N (o_160 A P) (N (o_226 A P) (N (o_363 A P) L L) (N (o_495 A P) L L)) (N (o_292 A P) (N (o_429 A P) L L) L)))) (N (o_61 A P) (N (o_80 A P) (N (o_118 A P) (N (o_184 A P) (N (o_319 A P) L L) (N (o_455 A P) L L)) (N (o_250 A P) (N (o_389 A P) L L) (N (o_519 A P) L L))) (N (o_150 A P) (N (o_218 A P) (N (o_355 A P) L L) (N (o_487 A P) L L)) (N (o_284 A P) (N (o_421 A P) L L) L))) (N (o_99 A P) (N (o_134 A P) (N (o_200 A P) (N (o_337 A P) L L) (N (o_471 A P) L L)) (N (o_266 A P) (N (o_405 A P) L L) L)) (N (o_168 A P) (N (o_234 A P) (N (o_371 A P) L L) (N (o_503 A P) L L)) (N (o_303 A P) (N (o_437 A P) L L) L))))) (N (o_45 A P) (N (o_57 A P) (N (o_76 A P) (N (o_114 A P) (N (o_180 A P) (N (o_315 A P) L L) (N (o_451 A P) L L)) (N (o_246 A P) (N (o_383 A P) L L) (N (o_515 A P) L L))) (N (o_146 A P) (N (o_212 A P) (N (o_349 A P) L L) (N (o_483 A P) L L)) (N (o_280 A P) (N (o_417 A P) L L) L))) (N (o_95 A P) (N (o_130 A P) (N (o_196 A P) (N (o_333 A P) L L) (N (o_467 A P) L L)) (N (o_262 A P) (N (o_401 A P) L L) L)) (N (o_164 A P) (N (o_230 A P) (N (o_367 A P) L L) (N (o_499 A P) L L)) (N (o_296 A P) (N (o_433 A P) L L) L)))) (N (o_65 A P) (N (o_84 A P) (N (o_122 A P) (N (o_188 A P) (N (o_323 A P) L L) (N (o_459 A P) L L)) (N (o_254 A P) (N (o_393 A P) L L) (N (o_523 A P) L L))) (N (o_156 A P) (N (o_222 A P) (N (o_359 A P) L L) (N (o_491 A P) L L)) (N (o_288 A P) (N (o_425 A P) L L) L))) (N (o_106 A P) (N (o_138 A P) (N (o_204 A P) (N (o_341 A P) L L) (N (o_475 A P) L L)) (N (o_272 A P) (N (o_409 A P) L L) L)) (N (o_172 A P) (N (o_238 A P) (N (o_375 A P) L L) (N (o_507 A P) L L)) (N (o_307 A P) (N (o_441 A P) L L) L))))))) (N (boot_o_2 P) (N (boot_o_4 P) (N (boot_o_8 P) (N (o_52 A P) (N (o_68 A P) (N (o_109 A P) (N (o_175 A P) (N (o_310 A P) L L) (N (o_446 A P) L L)) (N (o_241 A P) (N (o_378 A P) L L) (N (o_510 A P) L L))) (N (o_141 A P) (N (o_207 A P) (N (o_344 A P) L L) (N (o_478 A P) L L)) (N (o_275 A P) (N (o_412 A P) L L) L))) (N (o_90 A P) (N (o_125 A P) (N (o_191 A P) (N (o_326 A P) L L) (N (o_462 A P) L L)) (N (o_257 A P) (N (o_396 A P) L L) (N (o_526 A P) L L))) (N (o_159 A P) (N (o_225 A P) (N (o_362 A P) L L) (N (o_494 A P) L L)) (N (o_291 A P) (N (o_428 A P) L L) L)))) (N (o_60 A P) (N (o_79 A P) (N (o_117 A P) (N (o_183 A P) (N (o_318 A P) L L) (N (o_454 A P) L L)) (N (o_249 A P) (N (o_388 A P) L L) (N (o_518 A P) L L))) (N (o_149 A P) (N (o_217 A P) (N (o_352 A P) L L) (N (o_486 A P) L L)) (N (o_283 A P) (N (o_420 A P) L L) L))) (N (o_98 A P) (N (o_133 A P) (N (o_199 A P) (N (o_336 A P) L L) (N (o_470 A P) L L)) (N (o_265 A P) (N (o_404 A P) L L) L)) (N (o_167 A P) (N (o_233 A P) (N (o_370 A P) L L) (N (o_502 A P) L L)) (N (o_299 A P) (N (o_436 A P) L L) L))))) (N (o_444 A P) (N (o_56 A P) (N (o_75 A P) (N (o_113 A P) (N (o_179 A P) (N (o_314 A P) L L) (N (o_450 A P) L L)) (N (o_245 A P) (N (o_382 A P) L L) (N (o_514 A P) L L))) (N (o_145 A P) (N (o_211 A P) (N (o_348 A P) L L) (N (o_482 A P) L L)) (N (o_279 A P) (N (o_416 A P) L L) L))) (N (o_94 A P) (N (o_129 A P) (N (o_195 A P) (N (o_332 A P) L L) (N (o_466 A P) L L)) (N (o_261 A P) (N (o_400 A P) L L) L)) (N (o_163 A P) (N (o_229 A P) (N (o_366 A P) L L) (N (o_498 A P) L L)) (N (o_302 A P) (N (o_432 A P) L L) L)))) (N (o_64 A P) (N (o_83 A P) (N (o_121 A P) (N (o_187 A P) (N (o_322 A P) L L) (N (o_458 A P) L L)) (N (o_253 A P) (N (o_392 A P) L L) (N (o_522 A P) L L))) (N (o_155 A P) (N (o_221 A P) (N (o_358 A P) L L) (N (o_490 A P) L L)) (N (o_287 A P) (N (o_424 A P) L L) L))) (N (o_105 A P) (N (o_137 A P) (N (o_203 A P) (N (o_340 A P) L L) (N (o_474 A P) L L)) (N (o_269 A P) (N (o_408 A P) L L) L)) (N (o_171 A P) (N (o_237 A P) (N (o_374 A P) L L) (N (o_506 A P) L L)) (N (o_306 A P) (N (o_440 A P) L L) L)))))) (N (boot_o_6 P) (N (boot_o_10 P) (N (o_54 A P) (N (o_70 A P) (N (o_111 A P) (N (o_177 A P) (N (o_312 A P) L L) (N (o_448 A P) L L)) (N (o_243 A P) (N (o_380 A P) L L) (N (o_512 A P) L L))) (N (o_143 A P) (N (o_209 A P) (N (o_346 A P) L L) (N (o_480 A P) L L)) (N (o_277 A P) (N (o_414 A P) L L) L))) (N (o_92 A P) (N (o_127 A P) (N (o_193 A P) (N (o_328 A P) L L) (N (o_464 A P) L L)) (N (o_259 A P) (N (o_398 A P) L L) L)) (N (o_161 A P) (N (o_227 A P) (N (o_364 A P) L L) (N (o_496 A P) L L)) (N (o_293 A P) (N (o_430 A P) L L) L)))) (N (o_62 A P) (N (o_81 A P) (N (o_119 A P) (N (o_185 A P) (N (o_320 A P) L L) (N (o_456 A P) L L)) (N (o_251 A P) (N (o_390 A P) L L) (N (o_520 A P) L L))) (N (o_151 A P) (N (o_219 A P) (N (o_356 A P) L L) (N (o_488 A P) L L)) (N (o_285 A P) (N (o_422 A P) L L) L))) (N (o_100 A P) (N (o_135 A P) (N (o_201 A P) (N (o_338 A P) L L) (N (o_472 A P) L L)) (N (o_267 A P) (N (o_406 A P) L L) L)) (N (o_169 A P) (N (o_235 A P) (N (o_372 A P) L L) (N (o_504 A P) L L)) (N (o_304 A P) (N (o_438 A P) L L) L))))) (N (o_46 A P) (N (o_58 A P) (N (o_77 A P) (N (o_115 A P) (N (o_181 A P) (N (o_316 A P) L L) (N (o_452 A P) L L)) (N (o_247 A P) (N (o_386 A P) L L) (N (o_516 A P) L L))) (N (o_147 A P) (N (o_213 A P) (N (o_350 A P) L L) (N (o_484 A P) L L)) (N (o_281 A P) (N (o_418 A P) L L) L))) (N (o_96 A P) (N (o_131 A P) (N (o_197 A P) (N (o_334 A P) L L) (N (o_468 A P) L L)) (N (o_263 A P) (N (o_402 A P) L L) L)) (N (o_165 A P) (N (o_231 A P) (N (o_368 A P) L L) (N (o_500 A P) L L)) (N (o_297 A P) (N (o_434 A P) L L) L)))) (N (o_66 A P) (N (o_85 A P) (N (o_123 A P) (N (o_189 A P) (N (o_324 A P) L L) (N (o_460 A P) L L)) (N (o_255 A P) (N (o_394 A P) L L) (N (o_524 A P) L L))) (N (o_157 A P) (N (o_223 A P) (N (o_360 A P) L L) (N (o_492 A P) L L)) (N (o_289 A P) (N (o_426 A P) L L) L))) (N (o_107 A P) (N (o_139 A P) (N (o_205 A P) (N (o_342 A P) L L) (N (o_476 A P) L L)) (N (o_273 A P) (N (o_410 A P) L L) L)) (N (o_173 A P) (N (o_239 A P) (N (o_376 A P) L L) (N (o_508 A P) L L)) (N (o_308 A P) (N (o_442 A P) L L) L)))))))))
noncomputable def tree_151 (A : AT) : Params → PySem.W.BT := (fun P => (N (boot_o_0 P) (N (boot_o_1 P) (N (o_101 A P) (N (boot_o_7 P) (N (o_51 A P) (N (o_103 A P) (N (o_108 A P) L L) (N (o_140 A P) L L)) (N (o_89 A P) (N (o_124 A P) L L) L)) (N (o_59 A P) (N (o_78 A P) (N (o_116 A P) L L) (N (o_148 A P) L L)) (N (o_97 A P) (N (o_132 A P) L L) L))) (N (o_43 A P) (N (o_55 A P) (N (o_74 A P) (N (o_112 A P) L L) (N (o_144 A P) L L)) (N (o_93 A P) (N (o_128 A P) L L) L)) (N (o_63 A P) (N (o_82 A P) (N (o_120 A P) L L) L) (N (o_104 A P) (N (o_136 A P) L L) L)))) (N (boot_o_5 P) (N (boot_o_9 P) (N (o_53 A P) (N (o_69 A P) (N (o_110 A P) L L) (N (o_142 A P) L L)) (N (o_91 A P) (N (o_126 A P) L L) L)) (N (o_61 A P) (N (o_80 A P) (N (o_118 A P) L L) (N (o_150 A P) L L)) (N (o_99 A P) (N (o_134 A P) L L) L))) (N (o_45 A P) (N (o_57 A P) (N (o_76 A P) (N (o_114 A P) L L) (N (o_146 A P) L L)) (N (o_95 A P) (N (o_130 A P) L L) L)) (N (o_65 A P) (N (o_84 A P) (N (o_122 A P) L L) L) (N (o_106 A P) (N (o_138 A P) L L) L))))) (N (boot_o_2 P) (N (boot_o_4 P) (N (boot_o_8 P) (N (o_52 A P) (N (o_68 A P) (N (o_109 A P) L L) (N (o_141 A P) L L)) (N (o_90 A P) (N (o_125 A P) L L) L)) (N (o_60 A P) (N (o_79 A P) (N (o_117 A P) L L) (N (o_149 A P) L L)) (N (o_98 A P) (N (o_133 A P) L L) L))) (N (o_102 A P) (N (o_56 A P) (N (o_75 A P) (N (o_113 A P) L L) (N (o_145 A P) L L)) (N (o_94 A P) (N (o_129 A P) L L) L)) (N (o_64 A P) (N (o_83 A P) (N (o_121 A P) L L) L) (N (o_105 A P) (N (o_137 A P) L L) L)))) (N (boot_o_6 P) (N (boot_o_10 P) (N (o_54 A P) (N (o_70 A P) (N (o_111 A P) L L) (N (o_143 A P) L L)) (N (o_92 A P) (N (o_127 A P) L L) L)) (N (o_62 A P) (N (o_81 A P) (N (o_119 A P) L L) (N (o_151 A P) L L)) (N (o_100 A P) (N (o_135 A P) L L) L))) (N (o_46 A P) (N (o_58 A P) (N (o_77 A P) (N (o_115 A P) L L) (N (o_147 A P) L L)) (N (o_96 A P) (N (o_131 A P) L L) L)) (N (o_66 A P) (N (o_85 A P) (N (o_123 A P) L L) L) (N (o_107 A P) (N (o_139 A P) L L) L)))))))
theorem trig : (PySem.Challenge.pw_bellsaway_k33_the_first_use.main.body.length == 0) = (PySem.Challenge.pw_bellsaway_k33_the_first_use.main.body.length == 0) := rfl
theorem trig2 : (!(PySem.Challenge.pw_bellsaway_k33_the_first_use.main.body.length == 0)) = true := by k_qdec
def a0 : List Str := [Str.ofString "__name__", Str.ofString "bellsaway.roads", Str.ofString "__doc__", Str.ofString "__package__", Str.ofString "__loader__", Str.ofString "__spec__", Str.ofString "__annotations__", Str.ofString "__builtins__", Str.ofString "__file__", Str.ofString "/claim/cut.py", Str.ofString "__cached__", Str.ofString "_wall", Str.ofString "BellError", Str.ofString "NoClock", Str.ofString "NoWish", Str.ofString "NoRoad", Str.ofString "is_whole", Str.ofString "is_whole_between", Str.ofString "is_whole_from", Str.ofString "MINUTES_OF_DAY", Str.ofString "is_minute_of_day", Str.ofString "is_quiet_hours", Str.ofString "check_zone", Str.ofString "check_quiet", Str.ofString "check_minute_of_day", Str.ofString "shown", Str.ofString "is_quiet", Str.ofString "loud_from", Str.ofString "next_day", Str.ofString "LETTERS", Str.ofString "abcdefghijklmnopqrstuvwxyz", Str.ofString "MOST_LETTERS", Str.ofString "is_name", Str.ofString "bellsaway.wishes", Str.ofString "Road", Str.ofString "may_wake", Str.ofString "can_be_used", Str.ofString "first_use_of", Str.ofString "first_use", Str.ofString "are_unlike_names", Str.ofString "Fit", Str.ofString "Way", Str.ofString "Never", Str.ofString "Raised", Str.ofString "Line", Str.ofString "check_by_way", Str.ofString "Wishes", Str.ofString "check_wake", Str.ofString "law", Str.ofString "law_bellsaway_k33_the_first_use", Str.ofString "thing", Str.ofString "_law_mixed", Str.ofString "_law_well_here", Str.ofString "_law_most", Str.ofString "_law_found", Str.ofString "_law_turn", Str.ofString "_law_moment", Str.ofString "moment", Str.ofString "zone", Str.ofString "local", Str.ofString "bellsaway.clocks", Str.ofString "__dict__", Str.ofString "__module__", Str.ofString "__firstlineno__", Str.ofString "__init__", Str.ofString "__static_attributes__", Str.ofString "__weakref__", Str.ofString "winning", Str.ofString "Wishes.winning", Str.ofString "_law_cell_at", Str.ofString "_law_usable", Str.ofString "self", Str.ofString "quiet", Str.ofString "wake", Str.ofString "lines", Str.ofString "check_lines", Str.ofString "_law_well", Str.ofString "_law_draw", Str.ofString "_law_whole", Str.ofString "_law_names", Str.ofString "_law_quiet", Str.ofString "_law_marks", Str.ofString "_law_slows", Str.ofString "_law_told", Str.ofString "moment_from", Str.ofString "Never.moment_from", Str.ofString "bellsaway.ways", Str.ofString "__qualname__", Str.ofString "bellsaway.errors", Str.ofString "bellsaway.fits", Str.ofString "_law_cell", Str.ofString "_law_k", Str.ofString "_law_number", Str.ofString "Raised.__init__", Str.ofString "winner", Str.ofString "Wishes.winner", Str.ofString "least", Str.ofString "road", Str.ofString "is_gathered", Str.ofString "_law_script", Str.ofString "line_for", Str.ofString "Wishes.line_for", Str.ofString "name", Str.ofString "slow", Str.ofString "knows", Str.ofString "Road.__init__", Str.ofString "_law_quiet_here", Str.ofString "_law_marks_here", Str.ofString "_law_at", Str.ofString "minute", Str.ofString "idle", Str.ofString "bellsaway.happenings", Str.ofString "Never.is_gathered", Str.ofString "k", Str.ofString "bellsaway.wholes", Str.ofString "wishes", Str.ofString "weight", Str.ofString "Wishes.idle", Str.ofString "most", Str.ofString "NoRoad.__init__", Str.ofString "happening", Str.ofString "fit", Str.ofString "raised", Str.ofString "roads", Str.ofString "sure", Str.ofString "way", Str.ofString "bellsaway.words", Str.ofString "minutes", Str.ofString "times", Str.ofString "to", Str.ofString "Line.__init__", Str.ofString "__main__", Str.ofString "number", Str.ofString "start", Str.ofString "end", Str.ofString "Wishes.__init__", Str.ofString "_law_zone", Str.ofString "_law_slow", Str.ofString "_law_way", Str.ofString "_law_day", Str.ofString "_law_many", Str.ofString "_law_far", Str.ofString "_law_some", Str.ofString "_law_start", Str.ofString "<module>"]
def a1 : List Str := [⟨⟨[95, 95, 110, 97, 109, 101, 95, 95]⟩⟩, ⟨⟨[98, 101, 108, 108, 115, 97, 119, 97, 121, 46, 114, 111, 97, 100, 115]⟩⟩, ⟨⟨[95, 95, 100, 111, 99, 95, 95]⟩⟩, ⟨⟨[95, 95, 112, 97, 99, 107, 97, 103, 101, 95, 95]⟩⟩, ⟨⟨[95, 95, 108, 111, 97, 100, 101, 114, 95, 95]⟩⟩, ⟨⟨[95, 95, 115, 112, 101, 99, 95, 95]⟩⟩, ⟨⟨[95, 95, 97, 110, 110, 111, 116, 97, 116, 105, 111, 110, 115, 95, 95]⟩⟩, ⟨⟨[95, 95, 98, 117, 105, 108, 116, 105, 110, 115, 95, 95]⟩⟩, ⟨⟨[95, 95, 102, 105, 108, 101, 95, 95]⟩⟩, ⟨⟨[47, 99, 108, 97, 105, 109, 47, 99, 117, 116, 46, 112, 121]⟩⟩, ⟨⟨[95, 95, 99, 97, 99, 104, 101, 100, 95, 95]⟩⟩, ⟨⟨[95, 119, 97, 108, 108]⟩⟩, ⟨⟨[66, 101, 108, 108, 69, 114, 114, 111, 114]⟩⟩, ⟨⟨[78, 111, 67, 108, 111, 99, 107]⟩⟩, ⟨⟨[78, 111, 87, 105, 115, 104]⟩⟩, ⟨⟨[78, 111, 82, 111, 97, 100]⟩⟩, ⟨⟨[105, 115, 95, 119, 104, 111, 108, 101]⟩⟩, ⟨⟨[105, 115, 95, 119, 104, 111, 108, 101, 95, 98, 101, 116, 119, 101, 101, 110]⟩⟩, ⟨⟨[105, 115, 95, 119, 104, 111, 108, 101, 95, 102, 114, 111, 109]⟩⟩, ⟨⟨[77, 73, 78, 85, 84, 69, 83, 95, 79, 70, 95, 68, 65, 89]⟩⟩, ⟨⟨[105, 115, 95, 109, 105, 110, 117, 116, 101, 95, 111, 102, 95, 100, 97, 121]⟩⟩, ⟨⟨[105, 115, 95, 113, 117, 105, 101, 116, 95, 104, 111, 117, 114, 115]⟩⟩, ⟨⟨[99, 104, 101, 99, 107, 95, 122, 111, 110, 101]⟩⟩, ⟨⟨[99, 104, 101, 99, 107, 95, 113, 117, 105, 101, 116]⟩⟩, ⟨⟨[99, 104, 101, 99, 107, 95, 109, 105, 110, 117, 116, 101, 95, 111, 102, 95, 100, 97, 121]⟩⟩, ⟨⟨[115, 104, 111, 119, 110]⟩⟩, ⟨⟨[105, 115, 95, 113, 117, 105, 101, 116]⟩⟩, ⟨⟨[108, 111, 117, 100, 95, 102, 114, 111, 109]⟩⟩, ⟨⟨[110, 101, 120, 116, 95, 100, 97, 121]⟩⟩, ⟨⟨[76, 69, 84, 84, 69, 82, 83]⟩⟩, ⟨⟨[97, 98, 99, 100, 101, 102, 103, 104, 105, 106, 107, 108, 109, 110, 111, 112, 113, 114, 115, 116, 117, 118, 119, 120, 121, 122]⟩⟩, ⟨⟨[77, 79, 83, 84, 95, 76, 69, 84, 84, 69, 82, 83]⟩⟩, ⟨⟨[105, 115, 95, 110, 97, 109, 101]⟩⟩, ⟨⟨[98, 101, 108, 108, 115, 97, 119, 97, 121, 46, 119, 105, 115, 104, 101, 115]⟩⟩, ⟨⟨[82, 111, 97, 100]⟩⟩, ⟨⟨[109, 97, 121, 95, 119, 97, 107, 101]⟩⟩, ⟨⟨[99, 97, 110, 95, 98, 101, 95, 117, 115, 101, 100]⟩⟩, ⟨⟨[102, 105, 114, 115, 116, 95, 117, 115, 101, 95, 111, 102]⟩⟩, ⟨⟨[102, 105, 114, 115, 116, 95, 117, 115, 101]⟩⟩, ⟨⟨[97, 114, 101, 95, 117, 110, 108, 105, 107, 101, 95, 110, 97, 109, 101, 115]⟩⟩, ⟨⟨[70, 105, 116]⟩⟩, ⟨⟨[87, 97, 121]⟩⟩, ⟨⟨[78, 101, 118, 101, 114]⟩⟩, ⟨⟨[82, 97, 105, 115, 101, 100]⟩⟩, ⟨⟨[76, 105, 110, 101]⟩⟩, ⟨⟨[99, 104, 101, 99, 107, 95, 98, 121, 95, 119, 97, 121]⟩⟩, ⟨⟨[87, 105, 115, 104, 101, 115]⟩⟩, ⟨⟨[99, 104, 101, 99, 107, 95, 119, 97, 107, 101]⟩⟩, ⟨⟨[108, 97, 119]⟩⟩, ⟨⟨[108, 97, 119, 95, 98, 101, 108, 108, 115, 97, 119, 97, 121, 95, 107, 51, 51, 95, 116, 104, 101, 95, 102, 105, 114, 115, 116, 95, 117, 115, 101]⟩⟩, ⟨⟨[116, 104, 105, 110, 103]⟩⟩, ⟨⟨[95, 108, 97, 119, 95, 109, 105, 120, 101, 100]⟩⟩, ⟨⟨[95, 108, 97, 119, 95, 119, 101, 108, 108, 95, 104, 101, 114, 101]⟩⟩, ⟨⟨[95, 108, 97, 119, 95, 109, 111, 115, 116]⟩⟩, ⟨⟨[95, 108, 97, 119, 95, 102, 111, 117, 110, 100]⟩⟩, ⟨⟨[95, 108, 97, 119, 95, 116, 117, 114, 110]⟩⟩, ⟨⟨[95, 108, 97, 119, 95, 109, 111, 109, 101, 110, 116]⟩⟩, ⟨⟨[109, 111, 109, 101, 110, 116]⟩⟩, ⟨⟨[122, 111, 110, 101]⟩⟩, ⟨⟨[108, 111, 99, 97, 108]⟩⟩, ⟨⟨[98, 101, 108, 108, 115, 97, 119, 97, 121, 46, 99, 108, 111, 99, 107, 115]⟩⟩, ⟨⟨[95, 95, 100, 105, 99, 116, 95, 95]⟩⟩, ⟨⟨[95, 95, 109, 111, 100, 117, 108, 101, 95, 95]⟩⟩, ⟨⟨[95, 95, 102, 105, 114, 115, 116, 108, 105, 110, 101, 110, 111, 95, 95]⟩⟩, ⟨⟨[95, 95, 105, 110, 105, 116, 95, 95]⟩⟩, ⟨⟨[95, 95, 115, 116, 97, 116, 105, 99, 95, 97, 116, 116, 114, 105, 98, 117, 116, 101, 115, 95, 95]⟩⟩, ⟨⟨[95, 95, 119, 101, 97, 107, 114, 101, 102, 95, 95]⟩⟩, ⟨⟨[119, 105, 110, 110, 105, 110, 103]⟩⟩, ⟨⟨[87, 105, 115, 104, 101, 115, 46, 119, 105, 110, 110, 105, 110, 103]⟩⟩, ⟨⟨[95, 108, 97, 119, 95, 99, 101, 108, 108, 95, 97, 116]⟩⟩, ⟨⟨[95, 108, 97, 119, 95, 117, 115, 97, 98, 108, 101]⟩⟩, ⟨⟨[115, 101, 108, 102]⟩⟩, ⟨⟨[113, 117, 105, 101, 116]⟩⟩, ⟨⟨[119, 97, 107, 101]⟩⟩, ⟨⟨[108, 105, 110, 101, 115]⟩⟩, ⟨⟨[99, 104, 101, 99, 107, 95, 108, 105, 110, 101, 115]⟩⟩, ⟨⟨[95, 108, 97, 119, 95, 119, 101, 108, 108]⟩⟩, ⟨⟨[95, 108, 97, 119, 95, 100, 114, 97, 119]⟩⟩, ⟨⟨[95, 108, 97, 119, 95, 119, 104, 111, 108, 101]⟩⟩, ⟨⟨[95, 108, 97, 119, 95, 110, 97, 109, 101, 115]⟩⟩, ⟨⟨[95, 108, 97, 119, 95, 113, 117, 105, 101, 116]⟩⟩, ⟨⟨[95, 108, 97, 119, 95, 109, 97, 114, 107, 115]⟩⟩, ⟨⟨[95, 108, 97, 119, 95, 115, 108, 111, 119, 115]⟩⟩, ⟨⟨[95, 108, 97, 119, 95, 116, 111, 108, 100]⟩⟩, ⟨⟨[109, 111, 109, 101, 110, 116, 95, 102, 114, 111, 109]⟩⟩, ⟨⟨[78, 101, 118, 101, 114, 46, 109, 111, 109, 101, 110, 116, 95, 102, 114, 111, 109]⟩⟩, ⟨⟨[98, 101, 108, 108, 115, 97, 119, 97, 121, 46, 119, 97, 121, 115]⟩⟩, ⟨⟨[95, 95, 113, 117, 97, 108, 110, 97, 109, 101, 95, 95]⟩⟩, ⟨⟨[98, 101, 108, 108, 115, 97, 119, 97, 121, 46, 101, 114, 114, 111, 114, 115]⟩⟩, ⟨⟨[98, 101, 108, 108, 115, 97, 119, 97, 121, 46, 102, 105, 116, 115]⟩⟩, ⟨⟨[95, 108, 97, 119, 95, 99, 101, 108, 108]⟩⟩, ⟨⟨[95, 108, 97, 119, 95, 107]⟩⟩, ⟨⟨[95, 108, 97, 119, 95, 110, 117, 109, 98, 101, 114]⟩⟩, ⟨⟨[82, 97, 105, 115, 101, 100, 46, 95, 95, 105, 110, 105, 116, 95, 95]⟩⟩, ⟨⟨[119, 105, 110, 110, 101, 114]⟩⟩, ⟨⟨[87, 105, 115, 104, 101, 115, 46, 119, 105, 110, 110, 101, 114]⟩⟩, ⟨⟨[108, 101, 97, 115, 116]⟩⟩, ⟨⟨[114, 111, 97, 100]⟩⟩, ⟨⟨[105, 115, 95, 103, 97, 116, 104, 101, 114, 101, 100]⟩⟩, ⟨⟨[95, 108, 97, 119, 95, 115, 99, 114, 105, 112, 116]⟩⟩, ⟨⟨[108, 105, 110, 101, 95, 102, 111, 114]⟩⟩, ⟨⟨[87, 105, 115, 104, 101, 115, 46, 108, 105, 110, 101, 95, 102, 111, 114]⟩⟩, ⟨⟨[110, 97, 109, 101]⟩⟩, ⟨⟨[115, 108, 111, 119]⟩⟩, ⟨⟨[107, 110, 111, 119, 115]⟩⟩, ⟨⟨[82, 111, 97, 100, 46, 95, 95, 105, 110, 105, 116, 95, 95]⟩⟩, ⟨⟨[95, 108, 97, 119, 95, 113, 117, 105, 101, 116, 95, 104, 101, 114, 101]⟩⟩, ⟨⟨[95, 108, 97, 119, 95, 109, 97, 114, 107, 115, 95, 104, 101, 114, 101]⟩⟩, ⟨⟨[95, 108, 97, 119, 95, 97, 116]⟩⟩, ⟨⟨[109, 105, 110, 117, 116, 101]⟩⟩, ⟨⟨[105, 100, 108, 101]⟩⟩, ⟨⟨[98, 101, 108, 108, 115, 97, 119, 97, 121, 46, 104, 97, 112, 112, 101, 110, 105, 110, 103, 115]⟩⟩, ⟨⟨[78, 101, 118, 101, 114, 46, 105, 115, 95, 103, 97, 116, 104, 101, 114, 101, 100]⟩⟩, ⟨⟨[107]⟩⟩, ⟨⟨[98, 101, 108, 108, 115, 97, 119, 97, 121, 46, 119, 104, 111, 108, 101, 115]⟩⟩, ⟨⟨[119, 105, 115, 104, 101, 115]⟩⟩, ⟨⟨[119, 101, 105, 103, 104, 116]⟩⟩, ⟨⟨[87, 105, 115, 104, 101, 115, 46, 105, 100, 108, 101]⟩⟩, ⟨⟨[109, 111, 115, 116]⟩⟩, ⟨⟨[78, 111, 82, 111, 97, 100, 46, 95, 95, 105, 110, 105, 116, 95, 95]⟩⟩, ⟨⟨[104, 97, 112, 112, 101, 110, 105, 110, 103]⟩⟩, ⟨⟨[102, 105, 116]⟩⟩, ⟨⟨[114, 97, 105, 115, 101, 100]⟩⟩, ⟨⟨[114, 111, 97, 100, 115]⟩⟩, ⟨⟨[115, 117, 114, 101]⟩⟩, ⟨⟨[119, 97, 121]⟩⟩, ⟨⟨[98, 101, 108, 108, 115, 97, 119, 97, 121, 46, 119, 111, 114, 100, 115]⟩⟩, ⟨⟨[109, 105, 110, 117, 116, 101, 115]⟩⟩, ⟨⟨[116, 105, 109, 101, 115]⟩⟩, ⟨⟨[116, 111]⟩⟩, ⟨⟨[76, 105, 110, 101, 46, 95, 95, 105, 110, 105, 116, 95, 95]⟩⟩, ⟨⟨[95, 95, 109, 97, 105, 110, 95, 95]⟩⟩, ⟨⟨[110, 117, 109, 98, 101, 114]⟩⟩, ⟨⟨[115, 116, 97, 114, 116]⟩⟩, ⟨⟨[101, 110, 100]⟩⟩, ⟨⟨[87, 105, 115, 104, 101, 115, 46, 95, 95, 105, 110, 105, 116, 95, 95]⟩⟩, ⟨⟨[95, 108, 97, 119, 95, 122, 111, 110, 101]⟩⟩, ⟨⟨[95, 108, 97, 119, 95, 115, 108, 111, 119]⟩⟩, ⟨⟨[95, 108, 97, 119, 95, 119, 97, 121]⟩⟩, ⟨⟨[95, 108, 97, 119, 95, 100, 97, 121]⟩⟩, ⟨⟨[95, 108, 97, 119, 95, 109, 97, 110, 121]⟩⟩, ⟨⟨[95, 108, 97, 119, 95, 102, 97, 114]⟩⟩, ⟨⟨[95, 108, 97, 119, 95, 115, 111, 109, 101]⟩⟩, ⟨⟨[95, 108, 97, 119, 95, 115, 116, 97, 114, 116]⟩⟩, ⟨⟨[60, 109, 111, 100, 117, 108, 101, 62]⟩⟩]
def t0 : List String := ["dict", "__main__.__loader__#opaque", "tuple", "function", "code", "type", "object", "object.__new__", "builtin_function_or_method", "object.__init_subclass__", "getset_descriptor", "function.__dict__", "function.__dict__#set", "type.__prepare__", "super", "frame", "ValueError", "Exception", "BaseException", "ValueError.__new__", "ExceptionGroup.__weakref__"]
noncomputable def t1 : List String := [PySem.W.SL.s14018661285674007319x4, PySem.W.SL.s7097527257260152453x26, PySem.W.SL.s2766695959194262286x5, PySem.W.SL.s7174869446012820540x8, PySem.W.SL.s5856160107412720595x4, PySem.W.SL.s17162191345867700912x4, PySem.W.SL.s2742458400755230247x6, PySem.W.SL.s11443829558043349243x14, PySem.W.SL.s11030030927630378310x26, PySem.W.SL.s4860613602091757760x24, PySem.W.SL.s14755015743595814543x17, PySem.W.SL.s6511155373996960695x17, PySem.W.SL.s12411053484034534018x21, PySem.W.SL.s10062305145149207511x16, PySem.W.SL.s4290257624100764138x5, PySem.W.SL.s658472552662922059x5, PySem.W.SL.s6070975301684473832x10, PySem.W.SL.s5946037652744460706x9, PySem.W.SL.s4278001404047624695x13, PySem.W.SL.s4209523147560561109x18, PySem.W.SL.s10220274742760427390x26]
theorem cc {α : Type} {x y : α} {l m : List α} (h : x = y) (k : l = m) : x :: l = y :: m := by rw [h, k]
theorem ea : a0 = a1 := (cc (by kernel_rfl) (cc (by kernel_rfl) (cc (by kernel_rfl) (cc (by kernel_rfl) (cc (by kernel_rfl) (cc (by kernel_rfl) (cc (by kernel_rfl) (cc (by kernel_rfl) (cc (by kernel_rfl) (cc (by kernel_rfl) (cc (by kernel_rfl) (cc (by kernel_rfl) (cc (by kernel_rfl) (cc (by kernel_rfl) (cc (by kernel_rfl) (cc (by kernel_rfl) (cc (by kernel_rfl) (cc (by kernel_rfl) (cc (by kernel_rfl) (cc (by kernel_rfl) (cc (by kernel_rfl) (cc (by kernel_rfl) (cc (by kernel_rfl) (cc (by kernel_rfl) (cc (by kernel_rfl) (cc (by kernel_rfl) (cc (by kernel_rfl) (cc (by kernel_rfl) (cc (by kernel_rfl) (cc (by kernel_rfl) (cc (by kernel_rfl) (cc (by kernel_rfl) (cc (by kernel_rfl) (cc (by kernel_rfl) (cc (by kernel_rfl) (cc (by kernel_rfl) (cc (by kernel_rfl) (cc (by kernel_rfl) (cc (by kernel_rfl) (cc (by kernel_rfl) (cc (by kernel_rfl) (cc (by kernel_rfl) (cc (by kernel_rfl) (cc (by kernel_rfl) (cc (by kernel_rfl) (cc (by kernel_rfl) (cc (by kernel_rfl) (cc (by kernel_rfl) (cc (by kernel_rfl) (cc (by kernel_rfl) (cc (by kernel_rfl) (cc (by kernel_rfl) (cc (by kernel_rfl) (cc (by kernel_rfl) (cc (by kernel_rfl) (cc (by kernel_rfl) (cc (by kernel_rfl) (cc (by kernel_rfl) (cc (by kernel_rfl) (cc (by kernel_rfl) (cc (by kernel_rfl) (cc (by kernel_rfl) (cc (by kernel_rfl) (cc (by kernel_rfl) (cc (by kernel_rfl) (cc (by kernel_rfl) (cc (by kernel_rfl) (cc (by kernel_rfl) (cc (by kernel_rfl) (cc (by kernel_rfl) (cc (by kernel_rfl) (cc (by kernel_rfl) (cc (by kernel_rfl) (cc (by kernel_rfl) (cc (by kernel_rfl) (cc (by kernel_rfl) (cc (by kernel_rfl) (cc (by kernel_rfl) (cc (by kernel_rfl) (cc (by kernel_rfl) (cc (by kernel_rfl) (cc (by kernel_rfl) (cc (by kernel_rfl) (cc (by kernel_rfl) (cc (by kernel_rfl) (cc (by kernel_rfl) (cc (by kernel_rfl) (cc (by kernel_rfl) (cc (by kernel_rfl) (cc (by kernel_rfl) (cc (by kernel_rfl) (cc (by kernel_rfl) (cc (by kernel_rfl) (cc (by kernel_rfl) (cc (by kernel_rfl) (cc (by kernel_rfl) (cc (by kernel_rfl) (cc (by kernel_rfl) (cc (by kernel_rfl) (cc (by kernel_rfl) (cc (by kernel_rfl) (cc (by kernel_rfl) (cc (by kernel_rfl) (cc (by kernel_rfl) (cc (by kernel_rfl) (cc (by kernel_rfl) (cc (by kernel_rfl) (cc (by kernel_rfl) (cc (by kernel_rfl) (cc (by kernel_rfl) (cc (by kernel_rfl) (cc (by kernel_rfl) (cc (by kernel_rfl) (cc (by kernel_rfl) (cc (by kernel_rfl) (cc (by kernel_rfl) (cc (by kernel_rfl) (cc (by kernel_rfl) (cc (by kernel_rfl) (cc (by kernel_rfl) (cc (by kernel_rfl) (cc (by kernel_rfl) (cc (by kernel_rfl) (cc (by kernel_rfl) (cc (by kernel_rfl) (cc (by kernel_rfl) (cc (by kernel_rfl) (cc (by kernel_rfl) (cc (by kernel_rfl) (cc (by kernel_rfl) (cc (by kernel_rfl) (cc (by kernel_rfl) (cc (by kernel_rfl) (cc (by kernel_rfl) (cc (by kernel_rfl) (cc (by kernel_rfl) (cc (by kernel_rfl) (cc (by kernel_rfl) (cc (by kernel_rfl) (cc (by kernel_rfl) (cc (by kernel_rfl) (cc (by kernel_rfl) (cc (by kernel_rfl) (cc (by kernel_rfl) (cc (by kernel_rfl) rfl)))))))))))))))))))))))))))))))))))))))))))))))))))))))))))))))))))))))))))))))))))))))))))))))))))))))))))))))))))))))))))))))))))))))))))))))))
theorem et : t0 = t1 := (cc PySem.W.SL.e14018661285674007319x4 (cc PySem.W.SL.e7097527257260152453x26 (cc PySem.W.SL.e2766695959194262286x5 (cc PySem.W.SL.e7174869446012820540x8 (cc PySem.W.SL.e5856160107412720595x4 (cc PySem.W.SL.e17162191345867700912x4 (cc PySem.W.SL.e2742458400755230247x6 (cc PySem.W.SL.e11443829558043349243x14 (cc PySem.W.SL.e11030030927630378310x26 (cc PySem.W.SL.e4860613602091757760x24 (cc PySem.W.SL.e14755015743595814543x17 (cc PySem.W.SL.e6511155373996960695x17 (cc PySem.W.SL.e12411053484034534018x21 (cc PySem.W.SL.e10062305145149207511x16 (cc PySem.W.SL.e4290257624100764138x5 (cc PySem.W.SL.e658472552662922059x5 (cc PySem.W.SL.e6070975301684473832x10 (cc PySem.W.SL.e5946037652744460706x9 (cc PySem.W.SL.e4278001404047624695x13 (cc PySem.W.SL.e4209523147560561109x18 (cc PySem.W.SL.e10220274742760427390x26 rfl)))))))))))))))))))))
noncomputable def A0 : AT := ⟨PySem.Challenge.pw_bellsaway_k33_the_first_use, a0, t0⟩
noncomputable def B0 : AT := ⟨PySem.W.Fast.tw4702679980182454334, a1, t1⟩
theorem ab : A0 = B0 := by
  unfold A0 B0
  rw [ea, et, PySem.W.Fast.te4702679980182454334]
end Hd
noncomputable def PySem.W.Fast.tw4476220930992899968 : PySem.Params → PySem.Heap := Hd.heap_46 Hd.B0
theorem PySem.W.Fast.te4476220930992899968 : Hd.heap_46 Hd.A0 = PySem.W.Fast.tw4476220930992899968 := congrArg Hd.heap_46 Hd.ab
noncomputable def PySem.W.Fast.tw15278722484104149089 : PySem.Params → PySem.W.BT := Hd.tree_85 Hd.B0
theorem PySem.W.Fast.te15278722484104149089 : Hd.tree_85 Hd.A0 = PySem.W.Fast.tw15278722484104149089 := congrArg Hd.tree_85 Hd.ab
noncomputable def PySem.W.Fast.tw10228777547357032641 : PySem.Params → PySem.W.BT := Hd.tree_534 Hd.B0
theorem PySem.W.Fast.te10228777547357032641 : Hd.tree_534 Hd.A0 = PySem.W.Fast.tw10228777547357032641 := congrArg Hd.tree_534 Hd.ab
noncomputable def PySem.W.Fast.tw15108796075881833281 : PySem.Params → PySem.W.BT := Hd.tree_383 Hd.B0
theorem PySem.W.Fast.te15108796075881833281 : Hd.tree_383 Hd.A0 = PySem.W.Fast.tw15108796075881833281 := congrArg Hd.tree_383 Hd.ab
noncomputable def PySem.W.Fast.tw14389570535517840514 : PySem.Params → PySem.W.BT := Hd.tree_442 Hd.B0
theorem PySem.W.Fast.te14389570535517840514 : Hd.tree_442 Hd.A0 = PySem.W.Fast.tw14389570535517840514 := congrArg Hd.tree_442 Hd.ab
noncomputable def PySem.W.Fast.tw14015218667424291522 : PySem.Params → PySem.W.BT := Hd.tree_47 Hd.B0
theorem PySem.W.Fast.te14015218667424291522 : Hd.tree_47 Hd.A0 = PySem.W.Fast.tw14015218667424291522 := congrArg Hd.tree_47 Hd.ab
noncomputable def PySem.W.Fast.tw555954483043850659 : PySem.Params → PySem.W.BT := Hd.tree_269 Hd.B0
theorem PySem.W.Fast.te555954483043850659 : Hd.tree_269 Hd.A0 = PySem.W.Fast.tw555954483043850659 := congrArg Hd.tree_269 Hd.ab
noncomputable def PySem.W.Fast.tw10044760465884106924 : PySem.Params → PySem.W.BT := Hd.tree_70 Hd.B0
theorem PySem.W.Fast.te10044760465884106924 : Hd.tree_70 Hd.A0 = PySem.W.Fast.tw10044760465884106924 := congrArg Hd.tree_70 Hd.ab
noncomputable def PySem.W.Fast.tw10569146387157099183 : PySem.Params → PySem.W.BT := Hd.tree_328 Hd.B0
theorem PySem.W.Fast.te10569146387157099183 : Hd.tree_328 Hd.A0 = PySem.W.Fast.tw10569146387157099183 := congrArg Hd.tree_328 Hd.ab
noncomputable def PySem.W.Fast.tw17967947858047569170 : PySem.Params → PySem.W.BT := Hd.tree_299 Hd.B0
theorem PySem.W.Fast.te17967947858047569170 : Hd.tree_299 Hd.A0 = PySem.W.Fast.tw17967947858047569170 := congrArg Hd.tree_299 Hd.ab
noncomputable def PySem.W.Fast.tw1181525550591549266 : PySem.Params → PySem.W.BT := Hd.tree_100 Hd.B0
theorem PySem.W.Fast.te1181525550591549266 : Hd.tree_100 Hd.A0 = PySem.W.Fast.tw1181525550591549266 := congrArg Hd.tree_100 Hd.ab
noncomputable def PySem.W.Fast.tw1668519242263528025 : PySem.Params → PySem.W.BT := Hd.tree_352 Hd.B0
theorem PySem.W.Fast.te1668519242263528025 : Hd.tree_352 Hd.A0 = PySem.W.Fast.tw1668519242263528025 := congrArg Hd.tree_352 Hd.ab
noncomputable def PySem.W.Fast.tw2427798190468159643 : PySem.Params → PySem.Heap := Hd.heap_535 Hd.B0
theorem PySem.W.Fast.te2427798190468159643 : Hd.heap_535 Hd.A0 = PySem.W.Fast.tw2427798190468159643 := congrArg Hd.heap_535 Hd.ab
noncomputable def PySem.W.Fast.tw11343726893304020603 : PySem.Params → PySem.W.BT := Hd.tree_214 Hd.B0
theorem PySem.W.Fast.te11343726893304020603 : Hd.tree_214 Hd.A0 = PySem.W.Fast.tw11343726893304020603 := congrArg Hd.tree_214 Hd.ab
noncomputable def PySem.W.Fast.tw4986538914501208446 : PySem.Params → PySem.W.BT := Hd.tree_527 Hd.B0
theorem PySem.W.Fast.te4986538914501208446 : Hd.tree_527 Hd.A0 = PySem.W.Fast.tw4986538914501208446 := congrArg Hd.tree_527 Hd.ab
noncomputable def PySem.W.Fast.tw3276342446237763103 : PySem.Params → PySem.W.BT := Hd.tree_151 Hd.B0
theorem PySem.W.Fast.te3276342446237763103 : Hd.tree_151 Hd.A0 = PySem.W.Fast.tw3276342446237763103 := congrArg Hd.tree_151 Hd.ab
set_option Elab.async false
set_option linter.all false
set_option maxRecDepth 100000
set_option maxHeartbeats 8000000
namespace Bw
open PySem L2
theorem all_mk {l : PySem.W.OpenLaw} {w : World} {K : PySem.W.Frag} {h : Heap} {mg : Str → Option Value} {fa f0 f1 f2 f3 f4 f5 f6 f7 f8 f9 f10 f11 f12 f13 f14 f15 f16 f17 f18 f19 f20 f21 f22 f23 f24 f25 f26 f27 f28 f29 f30 f31 f32 f33 cRoad cWishes : Addr} {t0 t1 t2 : Tok} (X : K.In h) (G : h.Ns mainGlobals mg) (hfa : mg "law" = some (.ref fa))
    {od0 an0 : Option Addr} {sl0 : Array (Option Value)} {oc0 kV0 dc0 pm0 cd0 ct0 : Value}
    (a0 : PySem.W.nsIn K mainGlobals "is_whole" = some (some (.ref f0)))
    (l0 : K.lookup f0 = some ⟨oc0, od0, .func (PySem.W.fnOf "is_whole" "is_whole" (defArgs s_is_whole) (defBody s_is_whole) (defScope s_is_whole) .none kV0 dc0 pm0 an0 cd0 ct0), sl0⟩)
    (c0 : PySem.W.codeIn K cd0 "is_whole" = true)
    (k0 : PySem.W.keepIn K (.ref f0) = true)
    {od1 an1 : Option Addr} {sl1 : Array (Option Value)} {oc1 kV1 dc1 pm1 cd1 ct1 : Value}
    (a1 : PySem.W.nsIn K mainGlobals "is_whole_between" = some (some (.ref f1)))
    (l1 : K.lookup f1 = some ⟨oc1, od1, .func (PySem.W.fnOf "is_whole_between" "is_whole_between" (defArgs s_is_whole_between) (defBody s_is_whole_between) (defScope s_is_whole_between) .none kV1 dc1 pm1 an1 cd1 ct1), sl1⟩)
    (c1 : PySem.W.codeIn K cd1 "is_whole_between" = true)
    (k1 : PySem.W.keepIn K (.ref f1) = true)
    {od2 an2 : Option Addr} {sl2 : Array (Option Value)} {oc2 kV2 dc2 pm2 cd2 ct2 : Value}
    (a2 : PySem.W.nsIn K mainGlobals "is_whole_from" = some (some (.ref f2)))
    (l2 : K.lookup f2 = some ⟨oc2, od2, .func (PySem.W.fnOf "is_whole_from" "is_whole_from" (defArgs s_is_whole_from) (defBody s_is_whole_from) (defScope s_is_whole_from) .none kV2 dc2 pm2 an2 cd2 ct2), sl2⟩)
    (c2 : PySem.W.codeIn K cd2 "is_whole_from" = true)
    (k2 : PySem.W.keepIn K (.ref f2) = true)
    {od3 an3 : Option Addr} {sl3 : Array (Option Value)} {oc3 kV3 dc3 pm3 cd3 ct3 : Value}
    (a3 : PySem.W.nsIn K mainGlobals "is_minute_of_day" = some (some (.ref f3)))
    (l3 : K.lookup f3 = some ⟨oc3, od3, .func (PySem.W.fnOf "is_minute_of_day" "is_minute_of_day" (defArgs s_is_minute_of_day) (defBody s_is_minute_of_day) (defScope s_is_minute_of_day) .none kV3 dc3 pm3 an3 cd3 ct3), sl3⟩)
    (c3 : PySem.W.codeIn K cd3 "is_minute_of_day" = true)
    (k3 : PySem.W.keepIn K (.ref f3) = true)
    {od4 an4 : Option Addr} {sl4 : Array (Option Value)} {oc4 kV4 dc4 pm4 cd4 ct4 : Value}
    (a4 : PySem.W.nsIn K mainGlobals "is_quiet_hours" = some (some (.ref f4)))
    (l4 : K.lookup f4 = some ⟨oc4, od4, .func (PySem.W.fnOf "is_quiet_hours" "is_quiet_hours" (defArgs s_is_quiet_hours) (defBody s_is_quiet_hours) (defScope s_is_quiet_hours) .none kV4 dc4 pm4 an4 cd4 ct4), sl4⟩)
    (c4 : PySem.W.codeIn K cd4 "is_quiet_hours" = true)
    (k4 : PySem.W.keepIn K (.ref f4) = true)
    {od5 an5 : Option Addr} {sl5 : Array (Option Value)} {oc5 kV5 dc5 pm5 cd5 ct5 : Value}
    (a5 : PySem.W.nsIn K mainGlobals "check_zone" = some (some (.ref f5)))
    (l5 : K.lookup f5 = some ⟨oc5, od5, .func (PySem.W.fnOf "check_zone" "check_zone" (defArgs s_check_zone) (defBody s_check_zone) (defScope s_check_zone) .none kV5 dc5 pm5 an5 cd5 ct5), sl5⟩)
    (c5 : PySem.W.codeIn K cd5 "check_zone" = true)
    (k5 : PySem.W.keepIn K (.ref f5) = true)
    {od6 an6 : Option Addr} {sl6 : Array (Option Value)} {oc6 kV6 dc6 pm6 cd6 ct6 : Value}
    (a6 : PySem.W.nsIn K mainGlobals "check_quiet" = some (some (.ref f6)))
    (l6 : K.lookup f6 = some ⟨oc6, od6, .func (PySem.W.fnOf "check_quiet" "check_quiet" (defArgs s_check_quiet) (defBody s_check_quiet) (defScope s_check_quiet) .none kV6 dc6 pm6 an6 cd6 ct6), sl6⟩)
    (c6 : PySem.W.codeIn K cd6 "check_quiet" = true)
    (k6 : PySem.W.keepIn K (.ref f6) = true)
    {od7 an7 : Option Addr} {sl7 : Array (Option Value)} {oc7 kV7 dc7 pm7 cd7 ct7 : Value}
    (a7 : PySem.W.nsIn K mainGlobals "check_minute_of_day" = some (some (.ref f7)))
    (l7 : K.lookup f7 = some ⟨oc7, od7, .func (PySem.W.fnOf "check_minute_of_day" "check_minute_of_day" (defArgs s_check_minute_of_day) (defBody s_check_minute_of_day) (defScope s_check_minute_of_day) .none kV7 dc7 pm7 an7 cd7 ct7), sl7⟩)
    (c7 : PySem.W.codeIn K cd7 "check_minute_of_day" = true)
    (k7 : PySem.W.keepIn K (.ref f7) = true)
    {od8 an8 : Option Addr} {sl8 : Array (Option Value)} {oc8 kV8 dc8 pm8 cd8 ct8 : Value}
    (a8 : PySem.W.nsIn K mainGlobals "shown" = some (some (.ref f8)))
    (l8 : K.lookup f8 = some ⟨oc8, od8, .func (PySem.W.fnOf "shown" "shown" (defArgs s_shown) (defBody s_shown) (defScope s_shown) .none kV8 dc8 pm8 an8 cd8 ct8), sl8⟩)
    (c8 : PySem.W.codeIn K cd8 "shown" = true)
    (k8 : PySem.W.keepIn K (.ref f8) = true)
    {od9 an9 : Option Addr} {sl9 : Array (Option Value)} {oc9 kV9 dc9 pm9 cd9 ct9 : Value}
    (a9 : PySem.W.nsIn K mainGlobals "is_quiet" = some (some (.ref f9)))
    (l9 : K.lookup f9 = some ⟨oc9, od9, .func (PySem.W.fnOf "is_quiet" "is_quiet" (defArgs s_is_quiet) (defBody s_is_quiet) (defScope s_is_quiet) .none kV9 dc9 pm9 an9 cd9 ct9), sl9⟩)
    (c9 : PySem.W.codeIn K cd9 "is_quiet" = true)
    (k9 : PySem.W.keepIn K (.ref f9) = true)
    {od10 an10 : Option Addr} {sl10 : Array (Option Value)} {oc10 kV10 dc10 pm10 cd10 ct10 : Value}
    (a10 : PySem.W.nsIn K mainGlobals "loud_from" = some (some (.ref f10)))
    (l10 : K.lookup f10 = some ⟨oc10, od10, .func (PySem.W.fnOf "loud_from" "loud_from" (defArgs s_loud_from) (defBody s_loud_from) (defScope s_loud_from) .none kV10 dc10 pm10 an10 cd10 ct10), sl10⟩)
    (c10 : PySem.W.codeIn K cd10 "loud_from" = true)
    (k10 : PySem.W.keepIn K (.ref f10) = true)
    {od11 an11 : Option Addr} {sl11 : Array (Option Value)} {oc11 kV11 dc11 pm11 cd11 ct11 : Value}
    (a11 : PySem.W.nsIn K mainGlobals "next_day" = some (some (.ref f11)))
    (l11 : K.lookup f11 = some ⟨oc11, od11, .func (PySem.W.fnOf "next_day" "next_day" (defArgs s_next_day) (defBody s_next_day) (defScope s_next_day) .none kV11 dc11 pm11 an11 cd11 ct11), sl11⟩)
    (c11 : PySem.W.codeIn K cd11 "next_day" = true)
    (k11 : PySem.W.keepIn K (.ref f11) = true)
    {od12 an12 : Option Addr} {sl12 : Array (Option Value)} {oc12 kV12 dc12 pm12 cd12 ct12 : Value}
    (a12 : PySem.W.nsIn K mainGlobals "is_name" = some (some (.ref f12)))
    (l12 : K.lookup f12 = some ⟨oc12, od12, .func (PySem.W.fnOf "is_name" "is_name" (defArgs s_is_name) (defBody s_is_name) (defScope s_is_name) .none kV12 dc12 pm12 an12 cd12 ct12), sl12⟩)
    (c12 : PySem.W.codeIn K cd12 "is_name" = true)
    (k12 : PySem.W.keepIn K (.ref f12) = true)
    {od13 an13 : Option Addr} {sl13 : Array (Option Value)} {oc13 kV13 dc13 pm13 cd13 ct13 : Value}
    (a13 : PySem.W.findIn K (.ref cRoad) "__init__" = some (some (.ref f13)))
    (i13 : PySem.W.isFn K (.ref f13) = true)
    {T13 : Addr} {doc13 : Value} {dod13 : Option Addr} {dn13 : Nat} {dsl13 : Array (Option Value)} {dt13_0 : Tok}
    (l13 : K.lookup f13 = some ⟨oc13, od13, .func (PySem.W.fnOf "__init__" "Road.__init__" (defArgs s_Road___init__) (defBody s_Road___init__) (defScope s_Road___init__) (.ref T13) kV13 dc13 pm13 an13 cd13 ct13), sl13⟩)
    (d13 : K.lookup T13 = some ⟨doc13, dod13, .seq #[.int 0 dt13_0, .bool false] dn13, dsl13⟩)
    (c13 : PySem.W.codeIn K cd13 "Road.__init__" = true)
    {od14 an14 : Option Addr} {sl14 : Array (Option Value)} {oc14 kV14 dc14 pm14 cd14 ct14 : Value}
    (a14 : PySem.W.nsIn K mainGlobals "may_wake" = some (some (.ref f14)))
    (l14 : K.lookup f14 = some ⟨oc14, od14, .func (PySem.W.fnOf "may_wake" "may_wake" (defArgs s_may_wake) (defBody s_may_wake) (defScope s_may_wake) .none kV14 dc14 pm14 an14 cd14 ct14), sl14⟩)
    (c14 : PySem.W.codeIn K cd14 "may_wake" = true)
    (k14 : PySem.W.keepIn K (.ref f14) = true)
    {od15 an15 : Option Addr} {sl15 : Array (Option Value)} {oc15 kV15 dc15 pm15 cd15 ct15 : Value}
    (a15 : PySem.W.nsIn K mainGlobals "can_be_used" = some (some (.ref f15)))
    (l15 : K.lookup f15 = some ⟨oc15, od15, .func (PySem.W.fnOf "can_be_used" "can_be_used" (defArgs s_can_be_used) (defBody s_can_be_used) (defScope s_can_be_used) .none kV15 dc15 pm15 an15 cd15 ct15), sl15⟩)
    (c15 : PySem.W.codeIn K cd15 "can_be_used" = true)
    (k15 : PySem.W.keepIn K (.ref f15) = true)
    {od16 an16 : Option Addr} {sl16 : Array (Option Value)} {oc16 kV16 dc16 pm16 cd16 ct16 : Value}
    (a16 : PySem.W.nsIn K mainGlobals "first_use_of" = some (some (.ref f16)))
    (l16 : K.lookup f16 = some ⟨oc16, od16, .func (PySem.W.fnOf "first_use_of" "first_use_of" (defArgs s_first_use_of) (defBody s_first_use_of) (defScope s_first_use_of) .none kV16 dc16 pm16 an16 cd16 ct16), sl16⟩)
    (c16 : PySem.W.codeIn K cd16 "first_use_of" = true)
    (k16 : PySem.W.keepIn K (.ref f16) = true)
    {od17 an17 : Option Addr} {sl17 : Array (Option Value)} {oc17 kV17 dc17 pm17 cd17 ct17 : Value}
    (a17 : PySem.W.nsIn K mainGlobals "first_use" = some (some (.ref f17)))
    (l17 : K.lookup f17 = some ⟨oc17, od17, .func (PySem.W.fnOf "first_use" "first_use" (defArgs s_first_use) (defBody s_first_use) (defScope s_first_use) .none kV17 dc17 pm17 an17 cd17 ct17), sl17⟩)
    (c17 : PySem.W.codeIn K cd17 "first_use" = true)
    (k17 : PySem.W.keepIn K (.ref f17) = true)
    {od18 an18 : Option Addr} {sl18 : Array (Option Value)} {oc18 kV18 dc18 pm18 cd18 ct18 : Value}
    (a18 : PySem.W.findIn K (.ref cWishes) "__init__" = some (some (.ref f18)))
    (i18 : PySem.W.isFn K (.ref f18) = true)
    {T18 : Addr} {doc18 : Value} {dod18 : Option Addr} {dn18 : Nat} {dsl18 : Array (Option Value)} {dt18_0 : Tok}
    (l18 : K.lookup f18 = some ⟨oc18, od18, .func (PySem.W.fnOf "__init__" "Wishes.__init__" (defArgs s_Wishes___init__) (defBody s_Wishes___init__) (defScope s_Wishes___init__) (.ref T18) kV18 dc18 pm18 an18 cd18 ct18), sl18⟩)
    (d18 : K.lookup T18 = some ⟨doc18, dod18, .seq #[.int 0 dt18_0, .none, .none, .none] dn18, dsl18⟩)
    (c18 : PySem.W.codeIn K cd18 "Wishes.__init__" = true)
    {od19 an19 : Option Addr} {sl19 : Array (Option Value)} {oc19 kV19 dc19 pm19 cd19 ct19 : Value}
    (a19 : PySem.W.nsIn K mainGlobals "check_wake" = some (some (.ref f19)))
    (l19 : K.lookup f19 = some ⟨oc19, od19, .func (PySem.W.fnOf "check_wake" "check_wake" (defArgs s_check_wake) (defBody s_check_wake) (defScope s_check_wake) .none kV19 dc19 pm19 an19 cd19 ct19), sl19⟩)
    (c19 : PySem.W.codeIn K cd19 "check_wake" = true)
    (k19 : PySem.W.keepIn K (.ref f19) = true)
    {od20 an20 : Option Addr} {sl20 : Array (Option Value)} {oc20 kV20 dc20 pm20 cd20 ct20 : Value}
    (a20 : PySem.W.nsIn K mainGlobals "check_lines" = some (some (.ref f20)))
    (l20 : K.lookup f20 = some ⟨oc20, od20, .func (PySem.W.fnOf "check_lines" "check_lines" (defArgs s_check_lines) (defBody s_check_lines) (defScope s_check_lines) .none kV20 dc20 pm20 an20 cd20 ct20), sl20⟩)
    (c20 : PySem.W.codeIn K cd20 "check_lines" = true)
    (k20 : PySem.W.keepIn K (.ref f20) = true)
    {od21 an21 : Option Addr} {sl21 : Array (Option Value)} {oc21 kV21 dc21 pm21 cd21 ct21 : Value}
    (a21 : PySem.W.nsIn K mainGlobals "_law_cell_at" = some (some (.ref f21)))
    (l21 : K.lookup f21 = some ⟨oc21, od21, .func (PySem.W.fnOf "_law_cell_at" "_law_cell_at" (defArgs s_law_cell_at) (defBody s_law_cell_at) (defScope s_law_cell_at) .none kV21 dc21 pm21 an21 cd21 ct21), sl21⟩)
    (c21 : PySem.W.codeIn K cd21 "_law_cell_at" = true)
    (k21 : PySem.W.keepIn K (.ref f21) = true)
    {od22 an22 : Option Addr} {sl22 : Array (Option Value)} {oc22 kV22 dc22 pm22 cd22 ct22 : Value}
    (a22 : PySem.W.nsIn K mainGlobals "_law_mixed" = some (some (.ref f22)))
    (l22 : K.lookup f22 = some ⟨oc22, od22, .func (PySem.W.fnOf "_law_mixed" "_law_mixed" (defArgs s_law_mixed) (defBody s_law_mixed) (defScope s_law_mixed) .none kV22 dc22 pm22 an22 cd22 ct22), sl22⟩)
    (c22 : PySem.W.codeIn K cd22 "_law_mixed" = true)
    (k22 : PySem.W.keepIn K (.ref f22) = true)
    {od23 an23 : Option Addr} {sl23 : Array (Option Value)} {oc23 kV23 dc23 pm23 cd23 ct23 : Value}
    (a23 : PySem.W.nsIn K mainGlobals "_law_well" = some (some (.ref f23)))
    (l23 : K.lookup f23 = some ⟨oc23, od23, .func (PySem.W.fnOf "_law_well" "_law_well" (defArgs s_law_well) (defBody s_law_well) (defScope s_law_well) .none kV23 dc23 pm23 an23 cd23 ct23), sl23⟩)
    (c23 : PySem.W.codeIn K cd23 "_law_well" = true)
    (k23 : PySem.W.keepIn K (.ref f23) = true)
    {od24 an24 : Option Addr} {sl24 : Array (Option Value)} {oc24 kV24 dc24 pm24 cd24 ct24 : Value}
    (a24 : PySem.W.nsIn K mainGlobals "_law_draw" = some (some (.ref f24)))
    (l24 : K.lookup f24 = some ⟨oc24, od24, .func (PySem.W.fnOf "_law_draw" "_law_draw" (defArgs s_law_draw) (defBody s_law_draw) (defScope s_law_draw) .none kV24 dc24 pm24 an24 cd24 ct24), sl24⟩)
    (c24 : PySem.W.codeIn K cd24 "_law_draw" = true)
    (k24 : PySem.W.keepIn K (.ref f24) = true)
    {od25 an25 : Option Addr} {sl25 : Array (Option Value)} {oc25 kV25 dc25 pm25 cd25 ct25 : Value}
    (a25 : PySem.W.nsIn K mainGlobals "_law_whole" = some (some (.ref f25)))
    (l25 : K.lookup f25 = some ⟨oc25, od25, .func (PySem.W.fnOf "_law_whole" "_law_whole" (defArgs s_law_whole) (defBody s_law_whole) (defScope s_law_whole) .none kV25 dc25 pm25 an25 cd25 ct25), sl25⟩)
    (c25 : PySem.W.codeIn K cd25 "_law_whole" = true)
    (k25 : PySem.W.keepIn K (.ref f25) = true)
    {od26 an26 : Option Addr} {sl26 : Array (Option Value)} {oc26 kV26 dc26 pm26 cd26 ct26 : Value}
    (a26 : PySem.W.nsIn K mainGlobals "_law_names" = some (some (.ref f26)))
    (l26 : K.lookup f26 = some ⟨oc26, od26, .func (PySem.W.fnOf "_law_names" "_law_names" (defArgs s_law_names) (defBody s_law_names) (defScope s_law_names) .none kV26 dc26 pm26 an26 cd26 ct26), sl26⟩)
    (c26 : PySem.W.codeIn K cd26 "_law_names" = true)
    (k26 : PySem.W.keepIn K (.ref f26) = true)
    {od27 an27 : Option Addr} {sl27 : Array (Option Value)} {oc27 kV27 dc27 pm27 cd27 ct27 : Value}
    (a27 : PySem.W.nsIn K mainGlobals "_law_quiet" = some (some (.ref f27)))
    (l27 : K.lookup f27 = some ⟨oc27, od27, .func (PySem.W.fnOf "_law_quiet" "_law_quiet" (defArgs s_law_quiet) (defBody s_law_quiet) (defScope s_law_quiet) .none kV27 dc27 pm27 an27 cd27 ct27), sl27⟩)
    (c27 : PySem.W.codeIn K cd27 "_law_quiet" = true)
    (k27 : PySem.W.keepIn K (.ref f27) = true)
    {od28 an28 : Option Addr} {sl28 : Array (Option Value)} {oc28 kV28 dc28 pm28 cd28 ct28 : Value}
    (a28 : PySem.W.nsIn K mainGlobals "_law_marks" = some (some (.ref f28)))
    (l28 : K.lookup f28 = some ⟨oc28, od28, .func (PySem.W.fnOf "_law_marks" "_law_marks" (defArgs s_law_marks) (defBody s_law_marks) (defScope s_law_marks) .none kV28 dc28 pm28 an28 cd28 ct28), sl28⟩)
    (c28 : PySem.W.codeIn K cd28 "_law_marks" = true)
    (k28 : PySem.W.keepIn K (.ref f28) = true)
    {od29 an29 : Option Addr} {sl29 : Array (Option Value)} {oc29 kV29 dc29 pm29 cd29 ct29 : Value}
    (a29 : PySem.W.nsIn K mainGlobals "_law_slows" = some (some (.ref f29)))
    (l29 : K.lookup f29 = some ⟨oc29, od29, .func (PySem.W.fnOf "_law_slows" "_law_slows" (defArgs s_law_slows) (defBody s_law_slows) (defScope s_law_slows) .none kV29 dc29 pm29 an29 cd29 ct29), sl29⟩)
    (c29 : PySem.W.codeIn K cd29 "_law_slows" = true)
    (k29 : PySem.W.keepIn K (.ref f29) = true)
    {od30 an30 : Option Addr} {sl30 : Array (Option Value)} {oc30 kV30 dc30 pm30 cd30 ct30 : Value}
    (a30 : PySem.W.nsIn K mainGlobals "_law_moment" = some (some (.ref f30)))
    (l30 : K.lookup f30 = some ⟨oc30, od30, .func (PySem.W.fnOf "_law_moment" "_law_moment" (defArgs s_law_moment) (defBody s_law_moment) (defScope s_law_moment) .none kV30 dc30 pm30 an30 cd30 ct30), sl30⟩)
    (c30 : PySem.W.codeIn K cd30 "_law_moment" = true)
    (k30 : PySem.W.keepIn K (.ref f30) = true)
    {od31 an31 : Option Addr} {sl31 : Array (Option Value)} {oc31 kV31 dc31 pm31 cd31 ct31 : Value}
    (a31 : PySem.W.nsIn K mainGlobals "_law_usable" = some (some (.ref f31)))
    (l31 : K.lookup f31 = some ⟨oc31, od31, .func (PySem.W.fnOf "_law_usable" "_law_usable" (defArgs s_law_usable) (defBody s_law_usable) (defScope s_law_usable) .none kV31 dc31 pm31 an31 cd31 ct31), sl31⟩)
    (c31 : PySem.W.codeIn K cd31 "_law_usable" = true)
    (k31 : PySem.W.keepIn K (.ref f31) = true)
    {od32 an32 : Option Addr} {sl32 : Array (Option Value)} {oc32 kV32 dc32 pm32 cd32 ct32 : Value}
    (a32 : PySem.W.nsIn K mainGlobals "_law_told" = some (some (.ref f32)))
    (l32 : K.lookup f32 = some ⟨oc32, od32, .func (PySem.W.fnOf "_law_told" "_law_told" (defArgs s_law_told) (defBody s_law_told) (defScope s_law_told) .none kV32 dc32 pm32 an32 cd32 ct32), sl32⟩)
    (c32 : PySem.W.codeIn K cd32 "_law_told" = true)
    (k32 : PySem.W.keepIn K (.ref f32) = true)
    {od33 an33 : Option Addr} {sl33 : Array (Option Value)} {oc33 kV33 dc33 pm33 cd33 ct33 : Value}
    (a33 : PySem.W.nsIn K mainGlobals "law" = some (some (.ref f33)))
    (l33 : K.lookup f33 = some ⟨oc33, od33, .func (PySem.W.fnOf "law" "law" (defArgs s_law) (defBody s_law) (defScope s_law) .none kV33 dc33 pm33 an33 cd33 ct33), sl33⟩)
    (c33 : PySem.W.codeIn K cd33 "law" = true)
    (k33 : PySem.W.keepIn K (.ref f33) = true)
    (y0 : PySem.W.nsIn K mainGlobals "len" = some none)
    (y1 : PySem.W.nsIn K mainGlobals "int" = some none)
    (y2 : PySem.W.nsIn K mainGlobals "bool" = some none)
    (y3 : PySem.W.nsIn K mainGlobals "str" = some none)
    (y4 : PySem.W.nsIn K mainGlobals "tuple" = some none)
    (y5 : PySem.W.nsIn K mainGlobals "list" = some none)
    (y6 : PySem.W.nsIn K mainGlobals "all" = some none)
    (y7 : PySem.W.nsIn K mainGlobals "isinstance" = some none)
    (y8 : PySem.W.nsIn K mainGlobals "range" = some none)
    (y9 : PySem.W.nsIn K mainGlobals "min" = some none)
    (y10 : PySem.W.nsIn K mainGlobals "MINUTES_OF_DAY" = some (some (.int 1440 t0)))
    (y11 : PySem.W.nsIn K mainGlobals "LETTERS" = some (some (.str "abcdefghijklmnopqrstuvwxyz" t1)))
    (y12 : PySem.W.nsIn K mainGlobals "MOST_LETTERS" = some (some (.int 8 t2)))
    (y13 : PySem.W.nsIn K mainGlobals "Road" = some (some (.ref cRoad)))
    (y14 : PySem.W.nsIn K mainGlobals "Wishes" = some (some (.ref cWishes)))
    (y15_0 : PySem.W.plainGet K cRoad Str.empty = true)
    (y15_1 : PySem.W.hasDictIn K cRoad = true)
    (y15_2 : PySem.W.plainOver K cRoad = true)
    (y15_3 : PySem.W.findIn K (.ref cRoad) "__setattr__" = some (some (.builtin "object.__setattr__")))
    (y15_4 : PySem.W.findIn K (.ref cRoad) "__class__" = some (some (.builtin "object.__class__")))
    (y15_5 : PySem.W.specialIn K (.builtin "object.__class__") "__get__" = some (some (.builtin "getset_descriptor.__get__")))
    (y15_6 : PySem.W.takesIn K (.builtin "object.__class__") = some true)
    (y15_7 : PySem.W.mroIn K cRoad (.type "object") = some true)
    (y16 : PySem.W.findIn K (.ref cRoad) "name" = some none)
    (y17 : PySem.W.findIn K (.ref cRoad) "slow" = some none)
    (y18 : PySem.W.findIn K (.ref cRoad) "knows" = some none)
    (y19_0 : PySem.W.plainGet K cWishes Str.empty = true)
    (y19_1 : PySem.W.hasDictIn K cWishes = true)
    (y19_2 : PySem.W.plainOver K cWishes = true)
    (y19_3 : PySem.W.findIn K (.ref cWishes) "__setattr__" = some (some (.builtin "object.__setattr__")))
    (y19_4 : PySem.W.findIn K (.ref cWishes) "__class__" = some (some (.builtin "object.__class__")))
    (y19_5 : PySem.W.specialIn K (.builtin "object.__class__") "__get__" = some (some (.builtin "getset_descriptor.__get__")))
    (y19_6 : PySem.W.takesIn K (.builtin "object.__class__") = some true)
    (y19_7 : PySem.W.mroIn K cWishes (.type "object") = some true)
    (y20 : PySem.W.findIn K (.ref cWishes) "zone" = some none)
    (y21 : PySem.W.findIn K (.ref cWishes) "quiet" = some none)
    (y22 : PySem.W.findIn K (.ref cWishes) "wake" = some none)
    (y23 : PySem.W.findIn K (.ref cWishes) "lines" = some none)
    (mkRoad : PySem.W.makesIn K cRoad = true)
    (kcRoad : PySem.W.keepIn K (.ref cRoad) = true)
    (mkWishes : PySem.W.makesIn K cWishes = true)
    (kcWishes : PySem.W.keepIn K (.ref cWishes) = true) :
    ∃ (a : Ad) (fd : FuncData), (∀ (s : Shared) (v : Value), BindsTo s fd ⟨[v], []⟩ [("_law_script", v)]) ∧ ∀ base : Heap, K.In base → base.Ns mainGlobals mg → FnOk l.prog w K mg base CX0 10 fa fd ["_law_script"] (sp_law K a) := by
  have e := hfa.symm.trans (PySem.W.mg_of X G a33)
  cases e
  have B : Bt K mg ⟨cRoad, cWishes, t0, t1, t2⟩ := ⟨PySem.W.mg_none_of X G y0, PySem.W.mg_none_of X G y1, PySem.W.mg_none_of X G y2, PySem.W.mg_none_of X G y3, PySem.W.mg_none_of X G y4, PySem.W.mg_none_of X G y5, PySem.W.mg_none_of X G y6, PySem.W.mg_none_of X G y7, PySem.W.mg_none_of X G y8, PySem.W.mg_none_of X G y9, PySem.W.mg_of X G y10, PySem.W.mg_of X G y11, PySem.W.mg_of X G y12, PySem.W.mg_of X G y13, PySem.W.mg_of X G y14, ⟨⟨y15_0, y15_1, y15_2, y15_3⟩, y15_4, y15_5, y15_6, y15_7⟩, y16, y17, y18, ⟨⟨y19_0, y19_1, y19_2, y19_3⟩, y19_4, y19_5, y19_6, y19_7⟩, y20, y21, y22, y23⟩
  have F0 := fun_mk (st := s_is_whole) l0 c0 k0
  have b0 := F0.binds (ps := ["thing"]) fun _ _ _ _ _ _ us hl => match us, hl with | [_], _ => rfl
  have F1 := fun_mk (st := s_is_whole_between) l1 c1 k1
  have b1 := F1.binds (ps := ["thing", "least", "most"]) fun _ _ _ _ _ _ us hl => match us, hl with | [_, _, _], _ => rfl
  have F2 := fun_mk (st := s_is_whole_from) l2 c2 k2
  have b2 := F2.binds (ps := ["thing", "least"]) fun _ _ _ _ _ _ us hl => match us, hl with | [_, _], _ => rfl
  have F3 := fun_mk (st := s_is_minute_of_day) l3 c3 k3
  have b3 := F3.binds (ps := ["thing"]) fun _ _ _ _ _ _ us hl => match us, hl with | [_], _ => rfl
  have F4 := fun_mk (st := s_is_quiet_hours) l4 c4 k4
  have b4 := F4.binds (ps := ["thing"]) fun _ _ _ _ _ _ us hl => match us, hl with | [_], _ => rfl
  have F5 := fun_mk (st := s_check_zone) l5 c5 k5
  have b5 := F5.binds (ps := ["zone"]) fun _ _ _ _ _ _ us hl => match us, hl with | [_], _ => rfl
  have F6 := fun_mk (st := s_check_quiet) l6 c6 k6
  have b6 := F6.binds (ps := ["quiet"]) fun _ _ _ _ _ _ us hl => match us, hl with | [_], _ => rfl
  have F7 := fun_mk (st := s_check_minute_of_day) l7 c7 k7
  have b7 := F7.binds (ps := ["minute"]) fun _ _ _ _ _ _ us hl => match us, hl with | [_], _ => rfl
  have F8 := fun_mk (st := s_shown) l8 c8 k8
  have b8 := F8.binds (ps := ["moment", "zone"]) fun _ _ _ _ _ _ us hl => match us, hl with | [_, _], _ => rfl
  have F9 := fun_mk (st := s_is_quiet) l9 c9 k9
  have b9 := F9.binds (ps := ["quiet", "zone", "moment"]) fun _ _ _ _ _ _ us hl => match us, hl with | [_, _, _], _ => rfl
  have F10 := fun_mk (st := s_loud_from) l10 c10 k10
  have b10 := F10.binds (ps := ["quiet", "zone", "moment"]) fun _ _ _ _ _ _ us hl => match us, hl with | [_, _, _], _ => rfl
  have F11 := fun_mk (st := s_next_day) l11 c11 k11
  have b11 := F11.binds (ps := ["minute", "zone", "moment"]) fun _ _ _ _ _ _ us hl => match us, hl with | [_, _, _], _ => rfl
  have F12 := fun_mk (st := s_is_name) l12 c12 k12
  have b12 := F12.binds (ps := ["thing"]) fun _ _ _ _ _ _ us hl => match us, hl with | [_], _ => rfl
  have F13 := funA_mk (st := s_Road___init__) l13 c13
  have b13_3 : Binds K _ ["self", "name", "slow", "knows"] [] := bindsD (fd := PySem.W.fnOf "__init__" "Road.__init__" (defArgs s_Road___init__) (defBody s_Road___init__) (defScope s_Road___init__) (.ref T13) kV13 dc13 pm13 an13 cd13 ct13) 4 rfl fun s us X hl => match us, hl with | [_, _, _, _], _ => by first | exact .of_eq rfl | exact PySem.W.binds_K X rfl d13 rfl rfl rfl
  have F14 := fun_mk (st := s_may_wake) l14 c14 k14
  have b14 := F14.binds (ps := ["wishes", "weight"]) fun _ _ _ _ _ _ us hl => match us, hl with | [_, _], _ => rfl
  have F15 := fun_mk (st := s_can_be_used) l15 c15 k15
  have b15 := F15.binds (ps := ["road", "wishes", "weight", "moment"]) fun _ _ _ _ _ _ us hl => match us, hl with | [_, _, _, _], _ => rfl
  have F16 := fun_mk (st := s_first_use_of) l16 c16 k16
  have b16 := F16.binds (ps := ["road", "wishes", "weight", "moment"]) fun _ _ _ _ _ _ us hl => match us, hl with | [_, _, _, _], _ => rfl
  have F17 := fun_mk (st := s_first_use) l17 c17 k17
  have b17 := F17.binds (ps := ["roads", "wishes", "weight", "moment"]) fun _ _ _ _ _ _ us hl => match us, hl with | [_, _, _, _], _ => rfl
  have F18 := funA_mk (st := s_Wishes___init__) l18 c18
  have b18_3 : Binds K _ ["self", "zone", "quiet", "wake", "lines"] [.none] := bindsD (fd := PySem.W.fnOf "__init__" "Wishes.__init__" (defArgs s_Wishes___init__) (defBody s_Wishes___init__) (defScope s_Wishes___init__) (.ref T18) kV18 dc18 pm18 an18 cd18 ct18) 4 rfl fun s us X hl => match us, hl with | [_, _, _, _], _ => by first | exact .of_eq rfl | exact PySem.W.binds_K X rfl d18 rfl rfl rfl
  have F19 := fun_mk (st := s_check_wake) l19 c19 k19
  have b19 := F19.binds (ps := ["wake", "quiet"]) fun _ _ _ _ _ _ us hl => match us, hl with | [_, _], _ => rfl
  have F20 := fun_mk (st := s_check_lines) l20 c20 k20
  have b20 := F20.binds (ps := ["lines"]) fun _ _ _ _ _ _ us hl => match us, hl with | [_], _ => rfl
  have F21 := fun_mk (st := s_law_cell_at) l21 c21 k21
  have b21 := F21.binds (ps := ["_law_script", "_law_k"]) fun _ _ _ _ _ _ us hl => match us, hl with | [_, _], _ => rfl
  have F22 := fun_mk (st := s_law_mixed) l22 c22 k22
  have b22 := F22.binds (ps := ["_law_cell", "_law_k"]) fun _ _ _ _ _ _ us hl => match us, hl with | [_, _], _ => rfl
  have F23 := fun_mk (st := s_law_well) l23 c23 k23
  have b23 := F23.binds (ps := ["_law_cell"]) fun _ _ _ _ _ _ us hl => match us, hl with | [_], _ => rfl
  have F24 := fun_mk (st := s_law_draw) l24 c24 k24
  have b24 := F24.binds (ps := ["_law_well_here", "_law_most"]) fun _ _ _ _ _ _ us hl => match us, hl with | [_, _], _ => rfl
  have F25 := fun_mk (st := s_law_whole) l25 c25 k25
  have b25 := F25.binds (ps := ["_law_found"]) fun _ _ _ _ _ _ us hl => match us, hl with | [_], _ => rfl
  have F26 := fun_mk (st := s_law_names) l26 c26 k26
  have b26 := F26.binds (ps := ["_law_well_here", "_law_many"]) fun _ _ _ _ _ _ us hl => match us, hl with | [_, _], _ => rfl
  have F27 := fun_mk (st := s_law_quiet) l27 c27 k27
  have b27 := F27.binds (ps := ["_law_well_here"]) fun _ _ _ _ _ _ us hl => match us, hl with | [_], _ => rfl
  have F28 := fun_mk (st := s_law_marks) l28 c28 k28
  have b28 := F28.binds (ps := ["_law_quiet_here"]) fun _ _ _ _ _ _ us hl => match us, hl with | [_], _ => rfl
  have F29 := fun_mk (st := s_law_slows) l29 c29 k29
  have b29 := F29.binds (ps := ["_law_well_here", "_law_many"]) fun _ _ _ _ _ _ us hl => match us, hl with | [_, _], _ => rfl
  have F30 := fun_mk (st := s_law_moment) l30 c30 k30
  have b30 := F30.binds (ps := ["_law_well_here", "_law_zone", "_law_quiet_here", "_law_slow"]) fun _ _ _ _ _ _ us hl => match us, hl with | [_, _, _, _], _ => rfl
  have F31 := fun_mk (st := s_law_usable) l31 c31 k31
  have b31 := F31.binds (ps := ["_law_slows_here", "_law_marks_here", "_law_zone", "_law_wakes", "_law_moment_here"]) fun _ _ _ _ _ _ us hl => match us, hl with | [_, _, _, _, _], _ => rfl
  have F32 := fun_mk (st := s_law_told) l32 c32 k32
  have b32 := F32.binds (ps := ["_law_found", "_law_due", "_law_names_here"]) fun _ _ _ _ _ _ us hl => match us, hl with | [_, _, _], _ => rfl
  have F33 := fun_mk (st := s_law) l33 c33 k33
  have b33 := F33.binds (ps := ["_law_script"]) fun _ _ _ _ _ _ us hl => match us, hl with | [_], _ => rfl
  refine ⟨(⟨cRoad, cWishes, t0, t1, t2⟩ : Ad), PySem.W.fnOf "law" "law" (defArgs s_law) (defBody s_law) (defScope s_law) .none kV33 dc33 pm33 an33 cd33 ct33, fun s v => .of_eq rfl, fun base _ _ => ?_⟩
  have G_is_whole : FnOk l.prog w K mg base (CXF l.prog w) 1 f0 _ ["thing"] (sp_is_whole K (⟨cRoad, cWishes, t0, t1, t2⟩ : Ad)) := FnOk.up (ok_is_whole (P := l.prog) (w := w) (base := base) B  F0)
  have C_is_whole : CalX l.prog w K mg base "is_whole" ["thing"] 1 (sp_is_whole K (⟨cRoad, cWishes, t0, t1, t2⟩ : Ad)) := ⟨_, _, G_is_whole, b0, k0, PySem.W.mg_of X G a0⟩
  have G_is_name : FnOk l.prog w K mg base (CXF l.prog w) 1 f12 _ ["thing"] (sp_is_name K (⟨cRoad, cWishes, t0, t1, t2⟩ : Ad)) := FnOk.up (ok_is_name (P := l.prog) (w := w) (base := base) B  F12)
  have C_is_name : CalX l.prog w K mg base "is_name" ["thing"] 1 (sp_is_name K (⟨cRoad, cWishes, t0, t1, t2⟩ : Ad)) := ⟨_, _, G_is_name, b12, k12, PySem.W.mg_of X G a12⟩
  have G_may_wake : FnOk l.prog w K mg base (CXF l.prog w) 1 f14 _ ["wishes", "weight"] (sp_may_wake K (⟨cRoad, cWishes, t0, t1, t2⟩ : Ad)) := FnOk.up (ok_may_wake (P := l.prog) (w := w) (base := base) B  F14)
  have C_may_wake : CalX l.prog w K mg base "may_wake" ["wishes", "weight"] 1 (sp_may_wake K (⟨cRoad, cWishes, t0, t1, t2⟩ : Ad)) := ⟨_, _, G_may_wake, b14, k14, PySem.W.mg_of X G a14⟩
  have G_check_lines : FnOk l.prog w K mg base (CXF l.prog w) 1 f20 _ ["lines"] (sp_check_lines K (⟨cRoad, cWishes, t0, t1, t2⟩ : Ad)) := FnOk.up (ok_check_lines (P := l.prog) (w := w) (base := base) B  F20)
  have C_check_lines : CalX l.prog w K mg base "check_lines" ["lines"] 1 (sp_check_lines K (⟨cRoad, cWishes, t0, t1, t2⟩ : Ad)) := ⟨_, _, G_check_lines, b20, k20, PySem.W.mg_of X G a20⟩
  have G_law_cell_at : FnOk l.prog w K mg base (CXF l.prog w) 1 f21 _ ["_law_script", "_law_k"] (sp_law_cell_at K (⟨cRoad, cWishes, t0, t1, t2⟩ : Ad)) := FnOk.up (ok_law_cell_at (P := l.prog) (w := w) (base := base) B  F21)
  have C_law_cell_at : CalX l.prog w K mg base "_law_cell_at" ["_law_script", "_law_k"] 1 (sp_law_cell_at K (⟨cRoad, cWishes, t0, t1, t2⟩ : Ad)) := ⟨_, _, G_law_cell_at, b21, k21, PySem.W.mg_of X G a21⟩
  have G_law_mixed : FnOk l.prog w K mg base (CXF l.prog w) 1 f22 _ ["_law_cell", "_law_k"] (sp_law_mixed K (⟨cRoad, cWishes, t0, t1, t2⟩ : Ad)) := FnOk.up (ok_law_mixed (P := l.prog) (w := w) (base := base) B  F22)
  have C_law_mixed : CalX l.prog w K mg base "_law_mixed" ["_law_cell", "_law_k"] 1 (sp_law_mixed K (⟨cRoad, cWishes, t0, t1, t2⟩ : Ad)) := ⟨_, _, G_law_mixed, b22, k22, PySem.W.mg_of X G a22⟩
  have G_law_well : FnOk l.prog w K mg base (CXF l.prog w) 1 f23 _ ["_law_cell"] (sp_law_well K (⟨cRoad, cWishes, t0, t1, t2⟩ : Ad)) := FnOk.up (ok_law_well (P := l.prog) (w := w) (base := base) B  F23)
  have C_law_well : CalX l.prog w K mg base "_law_well" ["_law_cell"] 1 (sp_law_well K (⟨cRoad, cWishes, t0, t1, t2⟩ : Ad)) := ⟨_, _, G_law_well, b23, k23, PySem.W.mg_of X G a23⟩
  have G_law_whole : FnOk l.prog w K mg base (CXF l.prog w) 1 f25 _ ["_law_found"] (sp_law_whole K (⟨cRoad, cWishes, t0, t1, t2⟩ : Ad)) := FnOk.up (ok_law_whole (P := l.prog) (w := w) (base := base) B  F25)
  have C_law_whole : CalX l.prog w K mg base "_law_whole" ["_law_found"] 1 (sp_law_whole K (⟨cRoad, cWishes, t0, t1, t2⟩ : Ad)) := ⟨_, _, G_law_whole, b25, k25, PySem.W.mg_of X G a25⟩
  have G_law_marks : FnOk l.prog w K mg base (CXF l.prog w) 1 f28 _ ["_law_quiet_here"] (sp_law_marks K (⟨cRoad, cWishes, t0, t1, t2⟩ : Ad)) := FnOk.up (ok_law_marks (P := l.prog) (w := w) (base := base) B  F28)
  have C_law_marks : CalX l.prog w K mg base "_law_marks" ["_law_quiet_here"] 1 (sp_law_marks K (⟨cRoad, cWishes, t0, t1, t2⟩ : Ad)) := ⟨_, _, G_law_marks, b28, k28, PySem.W.mg_of X G a28⟩
  have G_law_usable : FnOk l.prog w K mg base (CXF l.prog w) 1 f31 _ ["_law_slows_here", "_law_marks_here", "_law_zone", "_law_wakes", "_law_moment_here"] (sp_law_usable K (⟨cRoad, cWishes, t0, t1, t2⟩ : Ad)) := FnOk.up (ok_law_usable (P := l.prog) (w := w) (base := base) B  F31)
  have C_law_usable : CalX l.prog w K mg base "_law_usable" ["_law_slows_here", "_law_marks_here", "_law_zone", "_law_wakes", "_law_moment_here"] 1 (sp_law_usable K (⟨cRoad, cWishes, t0, t1, t2⟩ : Ad)) := ⟨_, _, G_law_usable, b31, k31, PySem.W.mg_of X G a31⟩
  have G_is_whole_between : FnOk l.prog w K mg base (CXF l.prog w) 2 f1 _ ["thing", "least", "most"] (sp_is_whole_between K (⟨cRoad, cWishes, t0, t1, t2⟩ : Ad)) := FnOk.up (ok_is_whole_between (P := l.prog) (w := w) (base := base) B C_is_whole F1)
  have C_is_whole_between : CalX l.prog w K mg base "is_whole_between" ["thing", "least", "most"] 2 (sp_is_whole_between K (⟨cRoad, cWishes, t0, t1, t2⟩ : Ad)) := ⟨_, _, G_is_whole_between, b1, k1, PySem.W.mg_of X G a1⟩
  have G_is_whole_from : FnOk l.prog w K mg base (CXF l.prog w) 2 f2 _ ["thing", "least"] (sp_is_whole_from K (⟨cRoad, cWishes, t0, t1, t2⟩ : Ad)) := FnOk.up (ok_is_whole_from (P := l.prog) (w := w) (base := base) B C_is_whole F2)
  have C_is_whole_from : CalX l.prog w K mg base "is_whole_from" ["thing", "least"] 2 (sp_is_whole_from K (⟨cRoad, cWishes, t0, t1, t2⟩ : Ad)) := ⟨_, _, G_is_whole_from, b2, k2, PySem.W.mg_of X G a2⟩
  have G_law_draw : FnOk l.prog w K mg base (CXF l.prog w) 2 f24 _ ["_law_well_here", "_law_most"] (sp_law_draw K (⟨cRoad, cWishes, t0, t1, t2⟩ : Ad)) := FnOk.up (ok_law_draw (P := l.prog) (w := w) (base := base) B C_law_mixed F24)
  have C_law_draw : CalX l.prog w K mg base "_law_draw" ["_law_well_here", "_law_most"] 2 (sp_law_draw K (⟨cRoad, cWishes, t0, t1, t2⟩ : Ad)) := ⟨_, _, G_law_draw, b24, k24, PySem.W.mg_of X G a24⟩
  have G_law_told : FnOk l.prog w K mg base (CXF l.prog w) 2 f32 _ ["_law_found", "_law_due", "_law_names_here"] (sp_law_told K (⟨cRoad, cWishes, t0, t1, t2⟩ : Ad)) := FnOk.up (ok_law_told (P := l.prog) (w := w) (base := base) B C_law_whole F32)
  have C_law_told : CalX l.prog w K mg base "_law_told" ["_law_found", "_law_due", "_law_names_here"] 2 (sp_law_told K (⟨cRoad, cWishes, t0, t1, t2⟩ : Ad)) := ⟨_, _, G_law_told, b32, k32, PySem.W.mg_of X G a32⟩
  have G_is_minute_of_day : FnOk l.prog w K mg base (CXF l.prog w) 3 f3 _ ["thing"] (sp_is_minute_of_day K (⟨cRoad, cWishes, t0, t1, t2⟩ : Ad)) := FnOk.up (ok_is_minute_of_day (P := l.prog) (w := w) (base := base) B C_is_whole_between F3)
  have C_is_minute_of_day : CalX l.prog w K mg base "is_minute_of_day" ["thing"] 3 (sp_is_minute_of_day K (⟨cRoad, cWishes, t0, t1, t2⟩ : Ad)) := ⟨_, _, G_is_minute_of_day, b3, k3, PySem.W.mg_of X G a3⟩
  have G_check_zone : FnOk l.prog w K mg base (CXF l.prog w) 3 f5 _ ["zone"] (sp_check_zone K (⟨cRoad, cWishes, t0, t1, t2⟩ : Ad)) := FnOk.up (ok_check_zone (P := l.prog) (w := w) (base := base) B C_is_whole_between F5)
  have C_check_zone : CalX l.prog w K mg base "check_zone" ["zone"] 3 (sp_check_zone K (⟨cRoad, cWishes, t0, t1, t2⟩ : Ad)) := ⟨_, _, G_check_zone, b5, k5, PySem.W.mg_of X G a5⟩
  have G_Road___init__ : FnOk l.prog w K mg base (CXF l.prog w) 3 f13 _ ["self", "name", "slow", "knows"] (sp_Road___init__ K (⟨cRoad, cWishes, t0, t1, t2⟩ : Ad)) := FnOk.up (ok_Road___init__ (P := l.prog) (w := w) (base := base) B C_is_name C_is_whole_from F13)
  have CD_Road_3 : CalD l.prog w K mg base "Road" cRoad ["self", "name", "slow", "knows"] 3 [] (sp_Road___init__ K (⟨cRoad, cWishes, t0, t1, t2⟩ : Ad)) := ⟨_, _, _, G_Road___init__, b13_3, .nil, ⟨mkRoad, a13, i13, kcRoad⟩, B.Road⟩
  have G_check_wake : FnOk l.prog w K mg base (CXF l.prog w) 3 f19 _ ["wake", "quiet"] (sp_check_wake K (⟨cRoad, cWishes, t0, t1, t2⟩ : Ad)) := FnOk.up (ok_check_wake (P := l.prog) (w := w) (base := base) B C_is_whole_from F19)
  have C_check_wake : CalX l.prog w K mg base "check_wake" ["wake", "quiet"] 3 (sp_check_wake K (⟨cRoad, cWishes, t0, t1, t2⟩ : Ad)) := ⟨_, _, G_check_wake, b19, k19, PySem.W.mg_of X G a19⟩
  have G_law_names : FnOk l.prog w K mg base (CXF l.prog w) 3 f26 _ ["_law_well_here", "_law_many"] (sp_law_names K (⟨cRoad, cWishes, t0, t1, t2⟩ : Ad)) := FnOk.up (ok_law_names (P := l.prog) (w := w) (base := base) B C_law_draw F26)
  have C_law_names : CalX l.prog w K mg base "_law_names" ["_law_well_here", "_law_many"] 3 (sp_law_names K (⟨cRoad, cWishes, t0, t1, t2⟩ : Ad)) := ⟨_, _, G_law_names, b26, k26, PySem.W.mg_of X G a26⟩
  have G_law_quiet : FnOk l.prog w K mg base (CXF l.prog w) 3 f27 _ ["_law_well_here"] (sp_law_quiet K (⟨cRoad, cWishes, t0, t1, t2⟩ : Ad)) := FnOk.up (ok_law_quiet (P := l.prog) (w := w) (base := base) B C_law_draw F27)
  have C_law_quiet : CalX l.prog w K mg base "_law_quiet" ["_law_well_here"] 3 (sp_law_quiet K (⟨cRoad, cWishes, t0, t1, t2⟩ : Ad)) := ⟨_, _, G_law_quiet, b27, k27, PySem.W.mg_of X G a27⟩
  have G_law_slows : FnOk l.prog w K mg base (CXF l.prog w) 3 f29 _ ["_law_well_here", "_law_many"] (sp_law_slows K (⟨cRoad, cWishes, t0, t1, t2⟩ : Ad)) := FnOk.up (ok_law_slows (P := l.prog) (w := w) (base := base) B C_law_draw F29)
  have C_law_slows : CalX l.prog w K mg base "_law_slows" ["_law_well_here", "_law_many"] 3 (sp_law_slows K (⟨cRoad, cWishes, t0, t1, t2⟩ : Ad)) := ⟨_, _, G_law_slows, b29, k29, PySem.W.mg_of X G a29⟩
  have G_law_moment : FnOk l.prog w K mg base (CXF l.prog w) 3 f30 _ ["_law_well_here", "_law_zone", "_law_quiet_here", "_law_slow"] (sp_law_moment K (⟨cRoad, cWishes, t0, t1, t2⟩ : Ad)) := FnOk.up (ok_law_moment (P := l.prog) (w := w) (base := base) B C_law_draw F30)
  have C_law_moment : CalX l.prog w K mg base "_law_moment" ["_law_well_here", "_law_zone", "_law_quiet_here", "_law_slow"] 3 (sp_law_moment K (⟨cRoad, cWishes, t0, t1, t2⟩ : Ad)) := ⟨_, _, G_law_moment, b30, k30, PySem.W.mg_of X G a30⟩
  have G_is_quiet_hours : FnOk l.prog w K mg base (CXF l.prog w) 4 f4 _ ["thing"] (sp_is_quiet_hours K (⟨cRoad, cWishes, t0, t1, t2⟩ : Ad)) := FnOk.up (ok_is_quiet_hours (P := l.prog) (w := w) (base := base) B C_is_minute_of_day F4)
  have C_is_quiet_hours : CalX l.prog w K mg base "is_quiet_hours" ["thing"] 4 (sp_is_quiet_hours K (⟨cRoad, cWishes, t0, t1, t2⟩ : Ad)) := ⟨_, _, G_is_quiet_hours, b4, k4, PySem.W.mg_of X G a4⟩
  have G_check_minute_of_day : FnOk l.prog w K mg base (CXF l.prog w) 4 f7 _ ["minute"] (sp_check_minute_of_day K (⟨cRoad, cWishes, t0, t1, t2⟩ : Ad)) := FnOk.up (ok_check_minute_of_day (P := l.prog) (w := w) (base := base) B C_is_minute_of_day F7)
  have C_check_minute_of_day : CalX l.prog w K mg base "check_minute_of_day" ["minute"] 4 (sp_check_minute_of_day K (⟨cRoad, cWishes, t0, t1, t2⟩ : Ad)) := ⟨_, _, G_check_minute_of_day, b7, k7, PySem.W.mg_of X G a7⟩
  have G_shown : FnOk l.prog w K mg base (CXF l.prog w) 4 f8 _ ["moment", "zone"] (sp_shown K (⟨cRoad, cWishes, t0, t1, t2⟩ : Ad)) := FnOk.up (ok_shown (P := l.prog) (w := w) (base := base) B C_check_zone F8)
  have C_shown : CalX l.prog w K mg base "shown" ["moment", "zone"] 4 (sp_shown K (⟨cRoad, cWishes, t0, t1, t2⟩ : Ad)) := ⟨_, _, G_shown, b8, k8, PySem.W.mg_of X G a8⟩
  have G_check_quiet : FnOk l.prog w K mg base (CXF l.prog w) 5 f6 _ ["quiet"] (sp_check_quiet K (⟨cRoad, cWishes, t0, t1, t2⟩ : Ad)) := FnOk.up (ok_check_quiet (P := l.prog) (w := w) (base := base) B C_is_quiet_hours F6)
  have C_check_quiet : CalX l.prog w K mg base "check_quiet" ["quiet"] 5 (sp_check_quiet K (⟨cRoad, cWishes, t0, t1, t2⟩ : Ad)) := ⟨_, _, G_check_quiet, b6, k6, PySem.W.mg_of X G a6⟩
  have G_next_day : FnOk l.prog w K mg base (CXF l.prog w) 5 f11 _ ["minute", "zone", "moment"] (sp_next_day K (⟨cRoad, cWishes, t0, t1, t2⟩ : Ad)) := FnOk.up (ok_next_day (P := l.prog) (w := w) (base := base) B C_check_minute_of_day C_check_zone F11)
  have C_next_day : CalX l.prog w K mg base "next_day" ["minute", "zone", "moment"] 5 (sp_next_day K (⟨cRoad, cWishes, t0, t1, t2⟩ : Ad)) := ⟨_, _, G_next_day, b11, k11, PySem.W.mg_of X G a11⟩
  have G_is_quiet : FnOk l.prog w K mg base (CXF l.prog w) 6 f9 _ ["quiet", "zone", "moment"] (sp_is_quiet K (⟨cRoad, cWishes, t0, t1, t2⟩ : Ad)) := FnOk.up (ok_is_quiet (P := l.prog) (w := w) (base := base) B C_check_quiet C_shown F9)
  have C_is_quiet : CalX l.prog w K mg base "is_quiet" ["quiet", "zone", "moment"] 6 (sp_is_quiet K (⟨cRoad, cWishes, t0, t1, t2⟩ : Ad)) := ⟨_, _, G_is_quiet, b9, k9, PySem.W.mg_of X G a9⟩
  have G_Wishes___init__ : FnOk l.prog w K mg base (CXF l.prog w) 6 f18 _ ["self", "zone", "quiet", "wake", "lines"] (sp_Wishes___init__ K (⟨cRoad, cWishes, t0, t1, t2⟩ : Ad)) := FnOk.up (ok_Wishes___init__ (P := l.prog) (w := w) (base := base) B C_check_zone C_check_quiet C_check_wake C_check_lines F18)
  have CD_Wishes_3 : CalD l.prog w K mg base "Wishes" cWishes ["self", "zone", "quiet", "wake", "lines"] 6 [.non] (sp_Wishes___init__ K (⟨cRoad, cWishes, t0, t1, t2⟩ : Ad)) := ⟨_, _, _, G_Wishes___init__, b18_3, (.cons rfl .nil), ⟨mkWishes, a18, i18, kcWishes⟩, B.Wishes⟩
  have G_loud_from : FnOk l.prog w K mg base (CXF l.prog w) 7 f10 _ ["quiet", "zone", "moment"] (sp_loud_from K (⟨cRoad, cWishes, t0, t1, t2⟩ : Ad)) := FnOk.up (ok_loud_from (P := l.prog) (w := w) (base := base) B C_is_quiet C_next_day F10)
  have C_loud_from : CalX l.prog w K mg base "loud_from" ["quiet", "zone", "moment"] 7 (sp_loud_from K (⟨cRoad, cWishes, t0, t1, t2⟩ : Ad)) := ⟨_, _, G_loud_from, b10, k10, PySem.W.mg_of X G a10⟩
  have G_can_be_used : FnOk l.prog w K mg base (CXF l.prog w) 7 f15 _ ["road", "wishes", "weight", "moment"] (sp_can_be_used K (⟨cRoad, cWishes, t0, t1, t2⟩ : Ad)) := FnOk.up (ok_can_be_used (P := l.prog) (w := w) (base := base) B C_may_wake C_is_quiet F15)
  have C_can_be_used : CalX l.prog w K mg base "can_be_used" ["road", "wishes", "weight", "moment"] 7 (sp_can_be_used K (⟨cRoad, cWishes, t0, t1, t2⟩ : Ad)) := ⟨_, _, G_can_be_used, b15, k15, PySem.W.mg_of X G a15⟩
  have G_first_use_of : FnOk l.prog w K mg base (CXF l.prog w) 8 f16 _ ["road", "wishes", "weight", "moment"] (sp_first_use_of K (⟨cRoad, cWishes, t0, t1, t2⟩ : Ad)) := FnOk.up (ok_first_use_of (P := l.prog) (w := w) (base := base) B C_may_wake C_loud_from F16)
  have C_first_use_of : CalX l.prog w K mg base "first_use_of" ["road", "wishes", "weight", "moment"] 8 (sp_first_use_of K (⟨cRoad, cWishes, t0, t1, t2⟩ : Ad)) := ⟨_, _, G_first_use_of, b16, k16, PySem.W.mg_of X G a16⟩
  have G_first_use : FnOk l.prog w K mg base (CXF l.prog w) 9 f17 _ ["roads", "wishes", "weight", "moment"] (sp_first_use K (⟨cRoad, cWishes, t0, t1, t2⟩ : Ad)) := FnOk.up (ok_first_use (P := l.prog) (w := w) (base := base) B C_first_use_of C_can_be_used F17)
  have C_first_use : CalX l.prog w K mg base "first_use" ["roads", "wishes", "weight", "moment"] 9 (sp_first_use K (⟨cRoad, cWishes, t0, t1, t2⟩ : Ad)) := ⟨_, _, G_first_use, b17, k17, PySem.W.mg_of X G a17⟩
  exact ok_law (P := l.prog) (w := w) (base := base) B C_law_well C_law_quiet C_law_marks CD_Wishes_3 C_law_cell_at C_law_draw C_law_slows C_law_names C_law_moment C_first_use CD_Road_3 C_law_usable C_law_told F33
theorem walk {l : PySem.W.OpenLaw} {q : Program} {loose : List Str} {XP : (Str → Option Value) → Heap → Prop} {YP : World → Heap → Prop} {d : DefRec} {K : Params → PySem.W.Frag} (hn : l.most = some 63) (hdf : d.params.defaults = [])
    (hY : ∀ (w : World) (h : Heap), YP w h → (K w.params).In h)
    (F : ∀ (w : World) (mg : Str → Option Value) (fa : Addr) (h : Heap), (K w.params).In h → h.Ns mainGlobals mg → mg d.name = some (.ref fa) →
      ∃ fd : FuncData, (∀ (s : Shared) (u : Value), BindsTo s fd ⟨[u], []⟩ [("_law_script", u)]) ∧ ∀ base : Heap, (K w.params).In base → base.Ns mainGlobals mg → FnOk l.prog w (K w.params) mg base CX0 10 fa fd ["_law_script"] (spL (K w.params))) :
    PySem.W.WalkO q loose XP YP l.row.toRowW d [] (fun f vs => PySem.call f vs) :=
  L2.walk_of (n := 63) (k := 10) (x := "_law_script") (CX := fun _ => CX0) (sp := fun w => spL (K w.params)) hn (by decide) hdf ⟨rfl, by decide, by decide⟩ hY F (fun _ _ a ns hl _ hS => ⟨a, ns, rfl, hS, hl, fun _ => rfl⟩) fun _ _ _ _ _ z => z
theorem all_mk2 {P : Program} {w : World} {K : PySem.W.Frag} {mg : Str → Option Value} {fa : Addr} (h : ∃ (a : Ad) (fd : FuncData), (∀ (s : Shared) (v : Value), BindsTo s fd ⟨[v], []⟩ [("_law_script", v)]) ∧ ∀ base : Heap, K.In base → base.Ns mainGlobals mg → FnOk P w K mg base CX0 10 fa fd ["_law_script"] (sp_law K a)) :
    ∃ fd : FuncData, (∀ (s : Shared) (v : Value), BindsTo s fd ⟨[v], []⟩ [("_law_script", v)]) ∧ ∀ base : Heap, K.In base → base.Ns mainGlobals mg → FnOk P w K mg base CX0 10 fa fd ["_law_script"] (spL K) := by
  obtain ⟨a, fd, b, q⟩ := h
  exact ⟨fd, b, fun base x y => q base x y⟩
end Bw
open PySem PySem.W PyProof.Rows
set_option maxRecDepth 100000 in
set_option maxHeartbeats 0 in
theorem PySem.Challenge.cw_bellsaway_k33_the_first_use_holds : PySem.Challenge.rw_bellsaway_k33_the_first_use.Holds := by
  w_on; o_law; k_head; (case hw => w_witness2)
  k_fill
  refine Bw.walk (l := PySem.Challenge.rw_bellsaway_k33_the_first_use) rfl rfl (fun w h Y => PySem.W.kIn_of Y) ?F
  case F =>
    intro w mg fa h KX G hmg
    refine Bw.all_mk2 ?Z
    refine' Bw.all_mk KX G hmg ?a0 ?l0 ?c0 ?k0 ?a1 ?l1 ?c1 ?k1 ?a2 ?l2 ?c2 ?k2 ?a3 ?l3 ?c3 ?k3 ?a4 ?l4 ?c4 ?k4 ?a5 ?l5 ?c5 ?k5 ?a6 ?l6 ?c6 ?k6 ?a7 ?l7 ?c7 ?k7 ?a8 ?l8 ?c8 ?k8 ?a9 ?l9 ?c9 ?k9 ?a10 ?l10 ?c10 ?k10 ?a11 ?l11 ?c11 ?k11 ?a12 ?l12 ?c12 ?k12 ?a13 ?i13 ?l13 ?d13 ?c13 ?a14 ?l14 ?c14 ?k14 ?a15 ?l15 ?c15 ?k15 ?a16 ?l16 ?c16 ?k16 ?a17 ?l17 ?c17 ?k17 ?a18 ?i18 ?l18 ?d18 ?c18 ?a19 ?l19 ?c19 ?k19 ?a20 ?l20 ?c20 ?k20 ?a21 ?l21 ?c21 ?k21 ?a22 ?l22 ?c22 ?k22 ?a23 ?l23 ?c23 ?k23 ?a24 ?l24 ?c24 ?k24 ?a25 ?l25 ?c25 ?k25 ?a26 ?l26 ?c26 ?k26 ?a27 ?l27 ?c27 ?k27 ?a28 ?l28 ?c28 ?k28 ?a29 ?l29 ?c29 ?k29 ?a30 ?l30 ?c30 ?k30 ?a31 ?l31 ?c31 ?k31 ?a32 ?l32 ?c32 ?k32 ?a33 ?l33 ?c33 ?k33 ?y0 ?y1 ?y2 ?y3 ?y4 ?y5 ?y6 ?y7 ?y8 ?y9 ?y10 ?y11 ?y12 ?y13 ?y14 ?y15_0 ?y15_1 ?y15_2 ?y15_3 ?y15_4 ?y15_5 ?y15_6 ?y15_7 ?y16 ?y17 ?y18 ?y19_0 ?y19_1 ?y19_2 ?y19_3 ?y19_4 ?y19_5 ?y19_6 ?y19_7 ?y20 ?y21 ?y22 ?y23 ?mkRoad ?kcRoad ?mkWishes ?kcWishes
    (case y0 => k_is)
    (case y1 => k_is)
    (case y2 => k_is)
    (case y3 => k_is)
    (case y4 => k_is)
    (case y5 => k_is)
    (case y6 => k_is)
    (case y7 => k_is)
    (case y8 => k_is)
    (case y9 => k_is)
    (case y10 => k_is)
    (case y11 => k_is)
    (case y12 => k_is)
    (case y13 => k_is)
    (case y14 => k_is)
    (case a0 => k_is)
    (case l0 => k_is)
    (case c0 => k_is)
    (case k0 => k_is)
    (case a1 => k_is)
    (case l1 => k_is)
    (case c1 => k_is)
    (case k1 => k_is)
    (case a2 => k_is)
    (case l2 => k_is)
    (case c2 => k_is)
    (case k2 => k_is)
    (case a3 => k_is)
    (case l3 => k_is)
    (case c3 => k_is)
    (case k3 => k_is)
    (case a4 => k_is)
    (case l4 => k_is)
    (case c4 => k_is)
    (case k4 => k_is)
    (case a5 => k_is)
    (case l5 => k_is)
    (case c5 => k_is)
    (case k5 => k_is)
    (case a6 => k_is)
    (case l6 => k_is)
    (case c6 => k_is)
    (case k6 => k_is)
    (case a7 => k_is)
    (case l7 => k_is)
    (case c7 => k_is)
    (case k7 => k_is)
    (case a8 => k_is)
    (case l8 => k_is)
    (case c8 => k_is)
    (case k8 => k_is)
    (case a9 => k_is)
    (case l9 => k_is)
    (case c9 => k_is)
    (case k9 => k_is)
    (case a10 => k_is)
    (case l10 => k_is)
    (case c10 => k_is)
    (case k10 => k_is)
    (case a11 => k_is)
    (case l11 => k_is)
    (case c11 => k_is)
    (case k11 => k_is)
    (case a12 => k_is)
    (case l12 => k_is)
    (case c12 => k_is)
    (case k12 => k_is)
    (case a13 => k_is)
    (case i13 => k_is)
    (case l13 => k_is)
    (case d13 => k_is)
    (case c13 => k_is)
    (case a14 => k_is)
    (case l14 => k_is)
    (case c14 => k_is)
    (case k14 => k_is)
    (case a15 => k_is)
    (case l15 => k_is)
    (case c15 => k_is)
    (case k15 => k_is)
    (case a16 => k_is)
    (case l16 => k_is)
    (case c16 => k_is)
    (case k16 => k_is)
    (case a17 => k_is)
    (case l17 => k_is)
    (case c17 => k_is)
    (case k17 => k_is)
    (case a18 => k_is)
    (case i18 => k_is)
    (case l18 => k_is)
    (case d18 => k_is)
    (case c18 => k_is)
    (case a19 => k_is)
    (case l19 => k_is)
    (case c19 => k_is)
    (case k19 => k_is)
    (case a20 => k_is)
    (case l20 => k_is)
    (case c20 => k_is)
    (case k20 => k_is)
    (case a21 => k_is)
    (case l21 => k_is)
    (case c21 => k_is)
    (case k21 => k_is)
    (case a22 => k_is)
    (case l22 => k_is)
    (case c22 => k_is)
    (case k22 => k_is)
    (case a23 => k_is)
    (case l23 => k_is)
    (case c23 => k_is)
    (case k23 => k_is)
    (case a24 => k_is)
    (case l24 => k_is)
    (case c24 => k_is)
    (case k24 => k_is)
    (case a25 => k_is)
    (case l25 => k_is)
    (case c25 => k_is)
    (case k25 => k_is)
    (case a26 => k_is)
    (case l26 => k_is)
    (case c26 => k_is)
    (case k26 => k_is)
    (case a27 => k_is)
    (case l27 => k_is)
    (case c27 => k_is)
    (case k27 => k_is)
    (case a28 => k_is)
    (case l28 => k_is)
    (case c28 => k_is)
    (case k28 => k_is)
    (case a29 => k_is)
    (case l29 => k_is)
    (case c29 => k_is)
    (case k29 => k_is)
    (case a30 => k_is)
    (case l30 => k_is)
    (case c30 => k_is)
    (case k30 => k_is)
    (case a31 => k_is)
    (case l31 => k_is)
    (case c31 => k_is)
    (case k31 => k_is)
    (case a32 => k_is)
    (case l32 => k_is)
    (case c32 => k_is)
    (case k32 => k_is)
    (case a33 => k_is)
    (case l33 => k_is)
    (case c33 => k_is)
    (case k33 => k_is)
    (case y15_0 => k_is)
    (case y15_1 => k_is)
    (case y15_2 => k_is)
    (case y15_3 => k_is)
    (case y15_4 => k_is)
    (case y15_5 => k_is)
    (case y15_6 => k_is)
    (case y15_7 => k_is)
    (case y16 => k_is)
    (case y17 => k_is)
    (case y18 => k_is)
    (case y19_0 => k_is)
    (case y19_1 => k_is)
    (case y19_2 => k_is)
    (case y19_3 => k_is)
    (case y19_4 => k_is)
    (case y19_5 => k_is)
    (case y19_6 => k_is)
    (case y19_7 => k_is)
    (case y20 => k_is)
    (case y21 => k_is)
    (case y22 => k_is)
    (case y23 => k_is)
    (case mkRoad => k_is)
    (case kcRoad => k_is)
    (case mkWishes => k_is)
    (case kcWishes => k_is)
