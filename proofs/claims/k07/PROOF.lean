import PyProof.Rows.All
import Wide.All
import OpenK.AllK
import Wide.FinOn
import Lean
import PyProof.EqAt
import PyProof.EqKinds
import PyProof.TupleCall
import PySem.Challenge.RW_bellsaway_k07_fits_made
set_option Elab.async false
set_option linter.all false
set_option maxRecDepth 100000
/-! THE HAND LAYER, for ints, bools, texts, own classes, LISTS and tuples (index, slices, in, append, pop ..), calls, loops. Paste it whole ahead of your own text; what your proof does not reach may be deleted. -/
namespace L2
open PySem PySem.Spec PyProof.Rows
/-- a key: an int or a str -/
abbrev Key := Sum Int Str
def keyIs : Key → Value → Bool
  | .inl k, v => Value.isInt k v
  | .inr x, v => Value.isStrOf x v
def keyH (w : World) : Key → Int
  | .inl k => hashInt k
  | .inr x => hashStr w x
theorem keyIs_shape : ∀ {k : Key} {v : Value}, keyIs k v = true → (∃ i t, k = Sum.inl i ∧ v = Value.int i t) ∨ (∃ x t, k = Sum.inr x ∧ v = Value.str x t)
  | .inl i, v, h => by
    obtain ⟨t, e⟩ := Value.isInt_shape (k := i) (v := v) h
    exact .inl ⟨i, t, rfl, e⟩
  | .inr x, v, h => by
    obtain ⟨t, e⟩ := Value.isStrOf_shape (x := x) (v := v) h
    exact .inr ⟨x, t, rfl, e⟩
theorem key_ll (a b : Int) : decide ((Sum.inl a : Key) = Sum.inl b) = (a == b) := by
  by_cases e : a = b
  · subst e; simp
  · have h : ¬ (Sum.inl a : Key) = Sum.inl b := fun q => e (Sum.inl.inj q)
    rw [decide_eq_false h]
    exact (beq_eq_false_iff_ne.mpr e).symm
theorem key_rr (a b : Str) : decide ((Sum.inr a : Key) = Sum.inr b) = decide (a = b) := by
  by_cases e : a = b
  · subst e; simp
  · have h : ¬ (Sum.inr a : Key) = Sum.inr b := fun q => e (Sum.inr.inj q)
    rw [decide_eq_false h, decide_eq_false e]
theorem key_lr (a : Int) (b : Str) : decide ((Sum.inl a : Key) = Sum.inr b) = false := decide_eq_false (fun q => nomatch q)
theorem key_rl (a : Str) (b : Int) : decide ((Sum.inr a : Key) = Sum.inl b) = false := decide_eq_false (fun q => nomatch q)
def mixKind (prog : Program) (w : World) : PySem.KeyKind prog w Key where
  is := keyIs
  hash := keyH w
  inj := fun v a b ha hb => by
    rcases keyIs_shape ha with ⟨i, t, rfl, rfl⟩ | ⟨x, t, rfl, rfl⟩
    · rcases keyIs_shape hb with ⟨j, u, rfl, e⟩ | ⟨y, u, rfl, e⟩
      · injection e with e1 _; rw [e1]
      · exact nomatch e
    · rcases keyIs_shape hb with ⟨j, u, rfl, e⟩ | ⟨y, u, rfl, e⟩
      · exact nomatch e
      · injection e with e1 _; rw [e1]
  byValue := fun k v h => by
    rcases keyIs_shape h with ⟨i, t, rfl, rfl⟩ | ⟨x, t, rfl, rfl⟩ <;> rfl
  pyHash := fun hv h => by
    rcases keyIs_shape hv with ⟨i, t, rfl, rfl⟩ | ⟨x, t, rfl, rfl⟩
    · exact wpAny_pyHash_int h
    · exact wpAny_pyHash_str h
  eqBool := fun hu hv h => by
    rcases keyIs_shape hu with ⟨i, t, rfl, rfl⟩ | ⟨x, t, rfl, rfl⟩
    · rcases keyIs_shape hv with ⟨j, u, rfl, rfl⟩ | ⟨y, u, rfl, rfl⟩
      · rw [key_ll] at h; exact wpAny_eqBool_int h
      · rw [key_lr] at h; exact SeqAt.EqAt.int_str i t y u _ _ _ _ h
    · rcases keyIs_shape hv with ⟨j, u, rfl, rfl⟩ | ⟨y, u, rfl, rfl⟩
      · rw [key_rl] at h; exact SeqAt.EqAt.str_int x t j u _ _ _ _ h
      · rw [key_rr] at h; exact wpAny_eqBool_str h
  «strs» := fun k x t v h => by
    rcases keyIs_shape h with ⟨i, u, rfl, e⟩ | ⟨y, u, rfl, e⟩
    · exact nomatch e
    · injection e with e1 _
      subst e1
      cases v <;> rfl
end L2
namespace L2
open PySem PySem.Spec PyProof.Rows
/-- a value, without the heap -/
inductive V where
  | non | bl (b : Bool) | int (i : Int) | str (x : Str) | byt (b : Array UInt8) | flt (b : UInt64) | ref (a : Addr) | ty (n : String)
  deriving DecidableEq
def RelV : V → Value → Prop
  | .non, u => u = Value.none
  | .bl b, u => u = Value.bool b
  | .int i, u => ∃ t, u = Value.int i t
  | .str x, u => ∃ t, u = Value.str x t
  | .byt b, u => ∃ t, u = Value.bytes b t
  | .flt b, u => ∃ t, u = Value.float b t
  | .ref a, u => u = Value.ref a
  | .ty n, u => u = Value.type n
abbrev Vals : List V → List Value → Prop := Paired RelV
theorem Vals.length {xs : List V} {us : List Value} (r : Vals xs us) : xs.length = us.length := Paired.length r
theorem Vals.get : ∀ {xs : List V} {us : List Value} {i : Nat} {x : V}, Vals xs us → xs[i]? = some x → ∃ u, us[i]? = some u ∧ RelV x u
  | _, _, _, _, .nil, e => by simp at e
  | _, _, 0, _, .cons r _, e => by simp at e; subst e; exact ⟨_, rfl, r⟩
  | _, _, i + 1, x, .cons _ t, e => by
    obtain ⟨u, h1, h2⟩ := Vals.get (i := i) (x := x) t (by simpa using e)
    exact ⟨u, by simpa using h1, h2⟩
theorem Vals.set {x : V} {u : Value} (r : RelV x u) : ∀ {xs : List V} {us : List Value} (i : Nat), Vals xs us → Vals (xs.set i x) (us.set i u)
  | _, _, _, .nil => .nil
  | _, _, 0, .cons _ t => .cons r t
  | _, _, i + 1, .cons q t => .cons q (Vals.set r i t)
theorem Vals.append : ∀ {xs ys : List V} {us ws : List Value}, Vals xs us → Vals ys ws → Vals (xs ++ ys) (us ++ ws)
  | _, _, _, _, .nil, s => s
  | _, _, _, _, .cons r t, s => .cons r (Vals.append t s)
theorem Vals.take : ∀ {xs : List V} {us : List Value} (n : Nat), Vals xs us → Vals (xs.take n) (us.take n)
  | _, _, 0, _ => .nil
  | _, _, _ + 1, .nil => .nil
  | _, _, n + 1, .cons r t => .cons r (Vals.take n t)
theorem Vals.drop : ∀ {xs : List V} {us : List Value} (n : Nat), Vals xs us → Vals (xs.drop n) (us.drop n)
  | _, _, 0, r => r
  | _, _, _ + 1, .nil => .nil
  | _, _, n + 1, .cons _ t => Vals.drop n t
def RelO : Option V → Option Value → Prop
  | some v, some u => RelV v u
  | none, none => True
  | _, _ => False
def KV {κ : Type} : List (κ × V) → List (κ × Value) → Prop := Paired fun (p : κ × V) (q : κ × Value) => p.1 = q.1 ∧ RelV p.2 q.2
/-- a key of a dict (00_mix): an int or a text -/
def kV : Key → V
  | .inl i => .int i
  | .inr x => .str x
/-- what stands at a tracked address -/
inductive HO where
  /-- a list -/
  | lst (xs : List V)
  /-- a tuple (never changes) -/
  | tup (xs : List V)
  /-- a dict whose keys are ints and texts; one whose keys are tuples of ints and texts (the empty one is both) -/
  | dK (kvs : List (Key × V)) | dT (kvs : List (List Key × V))
  /-- a set of ints: its members, its size -/
  | set (S : Int → Bool) (n : Nat)
  /-- an instance of the class at C, its dict at dx, its attributes -/
  | ins (C dx : Addr) (fs : List (Str × V))
  /-- the dict of the instance at x -/
  | own (x : Addr)
  /-- the dict of an exception -/
  | xd (fs : List (Str × V))
  /-- a bound method, f of x -/
  | met (f x : Addr)
  /-- a range object lo, lo + 1, .. below hi -/
  | rng (lo hi : Int)
  /-- a thing that is known to the object (the script; a dict while a loop walks it): read, never written while it is so -/
  | frz (o : Obj) (u : HO)
  /-- a code object's table -/
  | tbl (ps : Array Value)
  /-- any other thing, by what is true of its one object (a def of one's own: SetO a S n := HO.ext fun h => ..) -/
  | ext (φ : Heap → Prop)
abbrev Hp := Addr → Option HO
def upd (H : Hp) (a : Addr) (o : HO) : Hp := fun b => if b = a then some o else H b
theorem upd_same {H : Hp} {a : Addr} {o : HO} : upd H a o a = some o := by unfold upd; rw [if_pos rfl]
theorem upd_ne {H : Hp} {a b : Addr} {o : HO} (h : b ≠ a) : upd H a o b = H b := by unfold upd; rw [if_neg h]
/-- two objects of different content stand apart -/
theorem ne_of {H : Hp} {a b : Addr} {o u : HO} (h : H a = some o) (h' : H b = some u) (d : o ≠ u) : a ≠ b := by
  intro e; subst e; rw [h] at h'; exact d (Option.some.inj h')
theorem ne_of_none {H : Hp} {a b : Addr} {o : HO} (h : H a = some o) (h' : H b = none) : a ≠ b := by
  intro e; subst e; rw [h] at h'; cases h'
section
variable (P : Program) (w : World)
def ObjOk (H : Hp) (h : Heap) (a : Addr) : HO → Prop
  | .lst xs => xs.length ≤ sizeLine ∧ ∃ (its : List Value) (n : Nat), Vals xs its ∧ h.get? a = some { cls := .type "list", data := .seq its.toArray n }
  | .tup xs => xs.length ≤ sizeLine ∧ ∃ its : List Value, Vals xs its ∧ IsTup h a its.toArray
  | .dK kvs => kvs.length ≤ sizeLine ∧ (a == sysModules) = false ∧ ∃ vs, KV kvs vs ∧ h.DictOf (mixKind P w) a vs
  | .dT kvs => kvs.length ≤ sizeLine ∧ (a == sysModules) = false ∧ ∃ xs : List (List Key × Addr × Value),
      Paired (fun (p : List Key × V) (q : List Key × Addr × Value) => p.1 = q.1 ∧ H q.2.1 = some (.tup (p.1.map kV)) ∧ RelV p.2 q.2.2) kvs xs ∧
      ∃ o es ep, h.get? a = some o ∧ o.ExactDict ∧ o.data = .dict es ep ∧ es.toList = xs.map (entryOfKey (tupleKind (mixKind P w))) ∧ (xs.map (·.1)).Nodup
  | .set S n => h.SetOf (intKind P w) a S n
  | .ins C dx fs => H dx = some (.own a) ∧ fs.length ≤ 1000 ∧ dx ≠ a ∧ h.get? a = some (PySem.W.instObj C dx) ∧
      ∃ mA, h.Ns1 dx mA ∧ (∀ f, RelO (fs.lookup f) (mA f)) ∧ PySem.Within mA (fs.map (·.1))
  | .own _ => ∃ o, h.get? a = some o
  | .xd fs => ∃ mA, h.Ns1 a mA ∧ ∀ f, RelO (fs.lookup f) (mA f)
  | .rng lo hi => ∃ t u v, h.get? a = some { cls := .type "range", data := .fields #[.int lo t, .int hi u, .int 1 v] }
  | .frz o u => h.get? a = some o ∧ ObjOk H h a u
  | .tbl ps => h.get? a = some { cls := .none, data := .fields ps }
  | .met f x => h.get? a = some (PySem.W.methodObj (.ref f) (.ref x))
  | .ext φ => φ h ∧ (∃ o, h.get? a = some o) ∧ ∀ h1 h2 : Heap, φ h1 → (∀ o, h1.get? a = some o → h2.get? a = some o) → φ h2
/-- the abstract heap is held -/
def HOk (H : Hp) (h : Heap) : Prop := ∀ a o, H a = some o → ObjOk P w H h a o
end
section
variable {P : Program} {w : World} {H H' : Hp} {h h' : Heap} {a : Addr} {o : HO}
theorem ObjOk.lt (x : ObjOk P w H h a o) : a < h.objs.size := by
  cases o with
  | lst xs => obtain ⟨_, _, _, _, e⟩ := x; exact Heap.lt_size e
  | tup xs => obtain ⟨_, _, _, p⟩ := x; exact p.lt
  | dK kvs => obtain ⟨_, _, _, _, o, _, _, e, _⟩ := x; exact Heap.lt_size e
  | dT kvs => obtain ⟨_, _, _, _, o, _, _, e, _⟩ := x; exact Heap.lt_size e
  | set S n => obtain ⟨o, _, _, _, e, _⟩ := x; exact Heap.lt_size e
  | ins C dx fs => obtain ⟨_, _, _, e, _⟩ := x; exact Heap.lt_size e
  | own y => obtain ⟨_, e⟩ := x; exact Heap.lt_size e
  | xd fs => obtain ⟨_, ⟨_, _, _, e, _⟩, _⟩ := x; exact Heap.lt_size e
  | rng lo hi => obtain ⟨_, _, _, e⟩ := x; exact Heap.lt_size e
  | frz ob u => obtain ⟨e, _⟩ := x; exact Heap.lt_size e
  | tbl ps => exact Heap.lt_size (show h.get? a = some _ from x)
  | met f y => exact Heap.lt_size (show h.get? a = some _ from x)
  | ext φ => obtain ⟨_, ⟨_, e⟩, _⟩ := x; exact Heap.lt_size e
theorem Paired.mapP {α β : Type} {F G : α → β → Prop} : ∀ {l₁ : List α} {l₂ : List β}, Paired F l₁ l₂ → (∀ a b, F a b → G a b) → Paired G l₁ l₂
  | _, _, .nil, _ => .nil
  | _, _, .cons r t, f => .cons (f _ _ r) (Paired.mapP t f)
/-- what an object's description leans on: its own object, its own dict, the tuples -/
theorem ObjOk.stay (x : ObjOk P w H h a o) (k : ∀ b u, (b = a ∨ H b = some (.own a)) → h.get? b = some u → h'.get? b = some u)
    (ho : ∀ b, H b = some (.own a) → H' b = some (.own a)) (ht : ∀ b xs, H b = some (.tup xs) → H' b = some (.tup xs)) : ObjOk P w H' h' a o := by
  induction o with
  | lst xs => obtain ⟨z, its, n, r, e⟩ := x; exact ⟨z, its, n, r, k _ _ (.inl rfl) e⟩
  | tup xs => obtain ⟨z, its, r, ob, e, c⟩ := x; exact ⟨z, its, r, ob, k _ _ (.inl rfl) e, c⟩
  | dK kvs => obtain ⟨z, y, vs, r, ob, es, ep, e, c⟩ := x; exact ⟨z, y, vs, r, ob, es, ep, k _ _ (.inl rfl) e, c⟩
  | dT kvs =>
    obtain ⟨z, y, xs, r, ob, es, ep, e, c⟩ := x
    exact ⟨z, y, xs, Paired.mapP r fun p q z => ⟨z.1, ht _ _ z.2.1, z.2.2⟩, ob, es, ep, k _ _ (.inl rfl) e, c⟩
  | set S n => obtain ⟨ob, es, ep, t, e, c⟩ := x; exact ⟨ob, es, ep, t, k _ _ (.inl rfl) e, c⟩
  | ins C dx fs =>
    obtain ⟨d, z, ne, e, mA, ⟨od, es, ep, e2, c⟩, r⟩ := x
    exact ⟨ho _ d, z, ne, k _ _ (.inl rfl) e, mA, ⟨od, es, ep, k _ _ (.inr d) e2, c⟩, r⟩
  | own y => obtain ⟨ob, e⟩ := x; exact ⟨ob, k _ _ (.inl rfl) e⟩
  | xd fs => obtain ⟨mA, ⟨od, es, ep, e, c⟩, r⟩ := x; exact ⟨mA, ⟨od, es, ep, k _ _ (.inl rfl) e, c⟩, r⟩
  | rng lo hi => obtain ⟨t, u, v, e⟩ := x; exact ⟨t, u, v, k _ _ (.inl rfl) e⟩
  | frz ob u ih => obtain ⟨e, q⟩ := x; exact ⟨k _ _ (.inl rfl) e, ih q⟩
  | tbl ps =>
    have e : h.get? a = some { cls := .none, data := .fields ps } := x
    show h'.get? a = some { cls := .none, data := .fields ps }
    exact k a _ (.inl rfl) e
  | met f y =>
    have e : h.get? a = some (PySem.W.methodObj (.ref f) (.ref y)) := x
    show h'.get? a = some (PySem.W.methodObj (.ref f) (.ref y))
    exact k a _ (.inl rfl) e
  | ext φ => obtain ⟨p, ⟨o, e⟩, st⟩ := x; exact ⟨st _ _ p fun o q => k _ _ (.inl rfl) q, ⟨o, k _ _ (.inl rfl) e⟩, st⟩
theorem HOk.lt (x : HOk P w H h) (e : H a = some o) : a < h.objs.size := (x a o e).lt
theorem HOk.fresh (x : HOk P w H h) (e : h.objs.size ≤ a) : H a = none := by
  cases q : H a with
  | none => rfl
  | some u => exact absurd (Nat.lt_of_lt_of_le (x.lt q) e) (Nat.lt_irrefl _)
/-- every object of the heap is kept -/
theorem HOk.kept (x : HOk P w H h) (k : ∀ b u, h.get? b = some u → h'.get? b = some u) : HOk P w H h' := fun a o e =>
  (x a o e).stay (fun b u _ q => k b u q) (fun _ q => q) fun _ _ q => q
/-- a new object is laid and tracked -/
theorem HOk.laid (x : HOk P w H h) (k : ∀ b u, h.get? b = some u → h'.get? b = some u) (hp : h.objs.size ≤ a) (new : ObjOk P w (upd H a o) h' a o) : HOk P w (upd H a o) h' := fun b u e => by
  have hn := x.fresh hp
  by_cases hb : b = a
  · subst hb; rw [upd_same] at e; cases e; exact new
  · rw [upd_ne hb] at e
    exact (x b u e).stay (fun c v _ q => k c v q) (fun c q => by rw [upd_ne (ne_of_none q hn)]; exact q) fun c xs q => by rw [upd_ne (ne_of_none q hn)]; exact q
end
/-- what may be read as u: it is u, or a known u -/
def Rd (H : Hp) (a : Addr) (u : HO) : Prop := H a = some u ∨ ∃ o, H a = some (.frz o u)
theorem Rd.of {H : Hp} {a : Addr} {u : HO} (h : H a = some u) : Rd H a u := .inl h
theorem Rd.ok {P : Program} {w : World} {H : Hp} {h : Heap} {a : Addr} {u : HO} (r : Rd H a u) (x : HOk P w H h) : ObjOk P w H h a u := by
  rcases r with r | ⟨o, r⟩
  · exact x a u r
  · obtain ⟨_, q⟩ := x a _ r
    exact q
/-- what may be written -/
def Mut : Option HO → Prop
  | some (.lst _) => True
  | some (.dK _) => True
  | some (.dT _) => True
  | some (.set _ _) => True
  | some (.ins _ _ _) => True
  | some (.ext _) => True
  | _ => False
section
variable {P : Program} {w : World} {H : Hp} {h h' : Heap} {x e : Addr} {o' : HO}
/-- the object at e is changed: x itself, or the dict of the instance x -/
theorem HOk.write (ok : HOk P w H h) (mu : Mut (H x)) (he : e = x ∨ H e = some (.own x)) (k : ∀ b u, b ≠ e → h.get? b = some u → h'.get? b = some u) (heo : ∃ u, h'.get? e = some u)
    (new : ObjOk P w (upd H x o') h' x o') : HOk P w (upd H x o') h' := fun b u q => by
  have nown : ∀ c y, H c = some (.own y) → c ≠ x := fun c y r z => by subst z; rw [r] at mu; exact mu
  have ntup : ∀ c xs, H c = some (.tup xs) → c ≠ x := fun c xs r z => by subst z; rw [r] at mu; exact mu
  by_cases hb : b = x
  · subst hb; rw [upd_same] at q; cases q; exact new
  · rw [upd_ne hb] at q
    by_cases hbe : b = e
    · have q' : H b = some (.own x) := by
        rcases he with z | z
        · exact absurd (hbe.trans z) hb
        · rw [hbe]; exact z
      rw [q] at q'; cases q'
      obtain ⟨v, hv⟩ := heo
      exact ⟨v, by rw [hbe]; exact hv⟩
    · refine (ok b u q).stay (fun c v hc r => k c v ?_ r) (fun c r => by rw [upd_ne (nown c b r)]; exact r) fun c xs r => by rw [upd_ne (ntup c xs r)]; exact r
      rcases hc with rfl | hc
      · exact hbe
      · rintro rfl
        rcases he with z | z
        · exact nown c b hc z
        · rw [hc] at z; cases z; exact hb rfl
end
/-! ### kept unless tracked; of the frames at fs (the callers') the slots may change (an exception that passes writes there); of the records at ex (iterators) nothing is said -/
structure Un (fs ex : List Addr) (H H' : Hp) (h h' : Heap) : Prop where
  keep : ∀ b o, h.get? b = some o → H b = none → b ∉ fs → b ∉ ex → h'.get? b = some o
  slot : ∀ b o, h.get? b = some o → H b = none → b ∈ fs → b ∉ ex → ∃ sl, h'.get? b = some { o with slots := sl }
  free : ∀ b o, h.get? b = some o → H b = none → b ∉ ex → H' b = none
  there : ∀ b o, h.get? b = some o → b ∉ ex → ∃ o', h'.get? b = some o'
  tups : ∀ b xs, H b = some (.tup xs) → H' b = some (.tup xs)
  frzs : ∀ b o u, H b = some (.frz o u) → H' b = some (.frz o u)
  tbls : ∀ b ps, H b = some (.tbl ps) → ∃ more, H' b = some (.tbl (ps ++ more))
section
variable {fs fs' ex ex' : List Addr} {H H1 H2 : Hp} {h h1 h2 h' : Heap} {a x e : Addr} {o : HO}
theorem Un.any (u : Un fs ex H H1 h h1) {b : Addr} {ob : Obj} (q : h.get? b = some ob) (n : H b = none) (hx : b ∉ ex) : ∃ sl, h1.get? b = some { ob with slots := sl } := by
  by_cases hb : b ∈ fs
  · exact u.slot b ob q n hb hx
  · exact ⟨ob.slots, u.keep b ob q n hb hx⟩
theorem Un.trans (a : Un fs ex H H1 h h1) (b : Un fs ex H1 H2 h1 h2) : Un fs ex H H2 h h2 where
  keep := fun c ob q n hc hx => b.keep c ob (a.keep c ob q n hc hx) (a.free c ob q n hx) hc hx
  slot := fun c ob q n hc hx => by
    obtain ⟨sl, e1⟩ := a.slot c ob q n hc hx
    obtain ⟨sl', e2⟩ := b.slot c _ e1 (a.free c ob q n hx) hc hx
    exact ⟨sl', e2⟩
  free := fun c ob q n hx => by
    obtain ⟨o', e1⟩ := a.there c ob q hx
    exact b.free c o' e1 (a.free c ob q n hx) hx
  there := fun c ob q hx => by
    obtain ⟨o', e1⟩ := a.there c ob q hx
    exact b.there c o' e1 hx
  tups := fun c xs q => b.tups c xs (a.tups c xs q)
  frzs := fun c ob xs q => b.frzs c ob xs (a.frzs c ob xs q)
  tbls := fun c ps q => by
    obtain ⟨m1, e1⟩ := a.tbls c ps q
    obtain ⟨m2, e2⟩ := b.tbls c _ e1
    exact ⟨m1 ++ m2, by rw [e2, Array.append_assoc]⟩
theorem Un.kept (k : ∀ b u, h.get? b = some u → h'.get? b = some u) : Un fs ex H H h h' :=
  ⟨fun b ob q _ _ _ => k b ob q, fun b ob q _ _ _ => ⟨ob.slots, k b ob q⟩, fun _ _ _ n _ => n, fun b ob q _ => ⟨ob, k b ob q⟩, fun _ _ q => q, fun _ _ _ q => q, fun _ ps q => ⟨#[], by rw [q]; simp⟩⟩
theorem Un.refl : Un fs ex H H h h := Un.kept fun _ _ q => q
theorem Un.laid (k : ∀ b u, h.get? b = some u → h'.get? b = some u) (hp : h.objs.size ≤ a) (hn : H a = none) : Un fs ex H (upd H a o) h h' where
  keep := fun b u q _ _ _ => k b u q
  slot := fun b u q _ _ _ => ⟨u.slots, k b u q⟩
  free := fun b u q n _ => by rw [upd_ne (Nat.ne_of_lt (Nat.lt_of_lt_of_le (Heap.lt_size q) hp))]; exact n
  there := fun b u q _ => ⟨u, k b u q⟩
  tups := fun b xs q => by rw [upd_ne (ne_of_none q hn)]; exact q
  frzs := fun b u xs q => by rw [upd_ne (ne_of_none q hn)]; exact q
  tbls := fun b ps q => ⟨#[], by rw [upd_ne (ne_of_none q hn), q]; simp⟩
theorem Un.write (mu : Mut (H x)) (he : e = x ∨ H e = some (.own x)) (k : ∀ b u, b ≠ e → h.get? b = some u → h'.get? b = some u) (heo : ∃ u, h'.get? e = some u) : Un fs ex H (upd H x o) h h' := by
  have hx : ∀ b, H b = none → b ≠ x := fun b n z => by subst z; rw [n] at mu; exact mu
  have hb : ∀ b, H b = none → b ≠ e := fun b n z => by
    subst z
    rcases he with r | r
    · exact hx b n r
    · rw [n] at r; cases r
  have hm : ∀ b u, H b = some u → ¬ Mut (some u) → b ≠ x := fun b u q nm z => by subst z; rw [q] at mu; exact nm mu
  refine ⟨fun b u q n _ _ => k b u (hb b n) q, fun b u q n _ _ => ⟨u.slots, k b u (hb b n) q⟩, fun b u q n _ => by rw [upd_ne (hx b n)]; exact n, fun b u q _ => ?_,
    fun b xs q => by rw [upd_ne (hm b _ q fun z => z)]; exact q, fun b u xs q => by rw [upd_ne (hm b _ q fun z => z)]; exact q, fun b ps q => ⟨#[], by rw [upd_ne (hm b _ q fun z => z), q]; simp⟩⟩
  by_cases hbe : b = e
  · subst hbe; exact heo
  · exact ⟨u, k b u hbe q⟩
theorem Un.mono (u : Un fs ex H H1 h h1) (hs : ∀ b ∈ fs, b ∈ fs') (hx : ∀ b ∈ ex, b ∈ ex') : Un fs' ex' H H1 h h1 :=
  ⟨fun b ob q n hb he => u.keep b ob q n (fun z => hb (hs b z)) fun z => he (hx b z), fun _ _ q n _ he => u.any q n fun z => he (hx _ z), fun b ob q n he => u.free b ob q n fun z => he (hx b z), fun b ob q he => u.there b ob q fun z => he (hx b z), u.tups, u.frzs, u.tbls⟩
end
/-! ### the heap without what is tracked -/
def trk (h : Heap) (H : Hp) : List Addr := (List.range h.objs.size).filter fun a => (H a).isSome
def hidT (h : Heap) (H : Hp) : Heap := PySem.W.hideAll h (trk h H)
theorem hidT_size (h : Heap) (H : Hp) : (hidT h H).objs.size = h.objs.size := PySem.W.hideAll_size _ _
theorem hidT_get {h : Heap} {H : Hp} {b : Addr} {o : Obj} (e : h.get? b = some o) (n : H b = none) : (hidT h H).get? b = some o :=
  PySem.W.hideAll_get _ e fun hm => by
    have q : (H b).isSome = true := (List.mem_filter.mp hm).2
    rw [n] at q; simp at q
theorem of_hidT {h : Heap} {H : Hp} {b : Addr} {o : Obj} (e : (hidT h H).get? b = some o) : h.get? b = some o ∧ H b = none := by
  have e' : h.get? b = some o := PySem.W.of_hideAll (trk h H) e
  refine ⟨e', ?_⟩
  cases q : H b with
  | none => rfl
  | some x =>
    have hm : b ∈ trk h H := List.mem_filter.mpr ⟨List.mem_range.mpr (Heap.lt_size e'), by simp [q]⟩
    have z : (hidT h H).get? b = none := PySem.W.hideAll_none (trk h H) hm
    rw [z] at e; cases e
/-! ### OpenK's ledger, filled with every new object but one -/
def allNews (g h : Heap) (L : Addr) : List (Addr × Obj) := (List.range h.objs.size).filterMap fun a => if a = L ∨ (g.get? a).isSome = true then none else (h.get? a).map fun o => (a, o)
def rest (g h : Heap) (L d : Addr) : List (Addr × Obj) := (allNews g h L).filter fun p => decide (p.1 ≠ d)
end L2
namespace L2
open PySem PySem.Spec PyProof.Rows
/-- the module's facts, over the base: the heap at the law's entry without what is tracked there -/
structure Mod (K : PySem.W.Frag) (mg : Str → Option Value) (base : Heap) : Prop where
  kin : K.In base
  glob : base.Ns mainGlobals mg
  blt : ∃ mb, base.Ns builtinsNs mb ∧ ∀ x : Str, x ≠ "__name__" → mb x = bootBuiltins x
  nolimit : base.NoLimit
/-- the context: a def's body (or a comprehension's block) running. base: fixed through the whole law; s₀, H₀: the entry; outer: the frames whose slots others may change (a def's callers); stack: all frames that run;
   ex: iterators that were made ahead of the entry and are walked here (a comprehension's); fn: the names whose cells were made at the entry (a def: all; a comprehension's block: its own); calm: not within an except suite; pn: pins that every state bears; xe: what is wanted of an exception that leaves the code -/
structure Cx where
  prog : Program
  w : World
  K : PySem.W.Frag
  mg : Str → Option Value
  base : Heap
  A : Around
  N : List Str
  s₀ : Shared
  H₀ : Hp
  env : Env
  outer : List Env
  stack : List Env
  ex : List Addr
  fn : Str → Bool
  calm : Bool
  pn : List (Addr × Obj)
  xe : Value → Shared → Prop
/-- the callers' frames -/
def frs (l : List Env) : List Addr := l.filterMap (·.frame)
abbrev Cx.fs (X : Cx) : List Addr := frs X.outer
def Vis (sc : Scope) (x : Str) : Prop := sc.names.lookup x = some .local ∨ sc.names.lookup x = some .cell ∨ sc.names.lookup x = some .free
def Loc (sc : Scope) (x : Str) : Prop := sc.names.lookup x = some .local ∨ sc.names.lookup x = some .cell
def Look (env : Env) (h : Heap) (m : Str → Option Value) (x : Str) (u : Value) : Prop :=
  (env.kindOf x = some .local ∧ m x = some u) ∨ ((env.kindOf x = some .cell ∨ env.kindOf x = some .free) ∧ ∃ c, env.cells.lookup x = some c ∧ h.IsCell c (some u))
structure Cx.Ok (X : Cx) : Prop where
  mod : Mod X.K X.mg X.base
  kind : X.env.scope.kind = .function
  glob : X.env.globals = mainGlobals
  blt : X.env.builtins = builtinsNs
  above : X.s₀.heap.objs.size ≤ X.env.locals
  inj : ∀ x y c, X.env.cells.lookup x = some c → X.env.cells.lookup y = some c → x = y
  has : ∀ x, (X.env.kindOf x = some .cell ∨ X.env.kindOf x = some .free) → ∃ c, X.env.cells.lookup x = some c
  cab : ∀ x c, X.fn x = true → X.env.cells.lookup x = some c → X.s₀.heap.objs.size ≤ c
  hd : X.calm = true → X.A.handled = none
  frames : X.A.frames = some X.stack
  stk : X.stack = X.outer ∨ (X.stack = X.env :: X.outer ∧ X.env.frame = some X.env.locals)
  exf : ∀ b ∈ X.ex, b ≠ X.env.locals ∧ ∀ x c, X.env.cells.lookup x = some c → c ≠ b
  bs : ∀ b o, X.base.get? b = some o → X.s₀.heap.get? b = some o ∧ X.H₀ b = none
  bsz : X.base.objs.size ≤ X.s₀.heap.objs.size
  noex : ∀ b o, X.base.get? b = some o → b ∉ X.ex
  exfs : ∀ b ∈ X.ex, b ∉ X.fs
  funs : X.s₀.heap.FunFrames X.base X.outer
  frf : ∀ b ∈ X.fs, X.H₀ b = none
structure Inv (X : Cx) (pins : List (Addr × Obj)) (σ : List (Option V)) (H : Hp) (s : Shared) : Prop where
  ok : X.Ok
  os : s.os = X.s₀.os
  bare : AllBare s.gens
  base : Un X.fs X.ex X.H₀ H X.s₀.heap s.heap
  loc : ∃ m, s.heap.Ns X.env.locals m ∧ ∀ (i : Nat) (x : Str) (v : V), X.N[i]? = some x → σ[i]? = some (some v) → Vis X.env.scope x → ∃ u, RelV v u ∧ Look X.env s.heap m x u
  cell : ∀ x c, X.env.cells.lookup x = some c → ∃ v, s.heap.IsCell c v
  free : H X.env.locals = none
  freeC : ∀ x c, X.env.cells.lookup x = some c → H c = none
  pin : ∀ p ∈ X.pn ++ pins, s.heap.get? p.1 = some p.2 ∧ H p.1 = none ∧ p.1 ≠ X.env.locals ∧ p.1 ∉ X.fs ∧ ∀ v, p.2.data ≠ .cell v
  hok : HOk X.prog X.w H s.heap
  len : σ.length = X.N.length
section
variable {X : Cx} {pins : List (Addr × Obj)} {σ : List (Option V)} {H H' : Hp} {s : Shared} {h' : Heap}
theorem Cx.Ok.nofr (ok : X.Ok) {b : Addr} {o : Obj} (e : X.base.get? b = some o) : b ∉ X.fs := fun hb => by
  have := (ok.funs.mem hb).1
  rw [e] at this; cases this
theorem Inv.bs (I : Inv X pins σ H s) : ∀ b o, X.base.get? b = some o → s.heap.get? b = some o ∧ H b = none := fun b o e =>
  ⟨I.base.keep b o (I.ok.bs b o e).1 (I.ok.bs b o e).2 (I.ok.nofr e) (I.ok.noex b o e), I.base.free b o (I.ok.bs b o e).1 (I.ok.bs b o e).2 (I.ok.noex b o e)⟩
theorem Inv.bk (I : Inv X pins σ H s) : ∀ b o, X.base.get? b = some o → s.heap.get? b = some o := fun b o e => (I.bs b o e).1
theorem Inv.mod (I : Inv X pins σ H s) : Mod X.K X.mg X.base := I.ok.mod
theorem Inv.kIn (I : Inv X pins σ H s) : X.K.In s.heap := I.ok.mod.kin.keeps I.bk
theorem Inv.nolimit (I : Inv X pins σ H s) : s.heap.NoLimit := I.ok.mod.nolimit.keeps I.bk
/-- the frame over the base: for OpenK's rules (K.In X.base is I.mod.kin) -/
theorem Inv.fr (I : Inv X pins σ H s) : ∃ m, Fr X.base X.env.locals s.heap m :=
  let ⟨m, hn, _⟩ := I.loc
  ⟨m, hn, I.bk, Nat.le_trans I.ok.bsz I.ok.above⟩
theorem Inv.lt (I : Inv X pins σ H s) : X.env.locals < s.heap.objs.size := let ⟨_, hn, _⟩ := I.loc; hn.lt
theorem Inv.sz (I : Inv X pins σ H s) : X.s₀.heap.objs.size ≤ s.heap.objs.size := Nat.le_trans I.ok.above (Nat.le_of_lt I.lt)
theorem Inv.nofs (I : Inv X pins σ H s) {a : Addr} (h : s.heap.objs.size ≤ a) : a ∉ X.fs := fun hb => by
  obtain ⟨_, o, ho, _⟩ := I.ok.funs.mem hb
  exact absurd (Nat.lt_of_lt_of_le (Heap.lt_size ho) (Nat.le_trans I.sz h)) (Nat.lt_irrefl _)
theorem Inv.cne (I : Inv X pins σ H s) : ∀ x c, X.env.cells.lookup x = some c → c ≠ X.env.locals := fun x c e z => by
  obtain ⟨v, o, ho, hd⟩ := I.cell x c e
  obtain ⟨m, ⟨o', es, ep, ho', hd', _⟩, _⟩ := I.loc
  rw [z, ho'] at ho; cases ho; rw [hd'] at hd; cases hd
theorem Inv.funs (I : Inv X pins σ H s) : s.heap.FunFrames X.base X.outer := by
  have all : ∀ (l : List Env), (∀ b ∈ frs l, b ∈ X.fs) → X.s₀.heap.FunFrames X.base l → s.heap.FunFrames X.base l := by
    intro l
    induction l with
    | nil => intro _ _; trivial
    | cons env r ih =>
      intro hs hl
      obtain ⟨hk, ⟨L, o, hf, hn, ho, hd⟩, hr⟩ := hl
      have hL : L ∈ X.fs := hs L (by unfold frs; rw [List.filterMap_cons, hf]; exact List.mem_cons_self)
      obtain ⟨sl, e⟩ := I.base.slot L o ho (I.ok.frf L hL) hL fun z => I.ok.exfs L z hL
      exact ⟨hk, ⟨L, _, hf, hn, e, hd⟩, ih (fun b hb => hs b (by unfold frs; rw [List.filterMap_cons, hf]; exact List.mem_cons_of_mem _ hb)) hr⟩
  exact all X.outer (fun _ hb => hb) I.ok.funs
/-- the frames that run, for a call -/
theorem Inv.stack (I : Inv X pins σ H s) : s.heap.FunFrames X.base X.stack := by
  rcases I.ok.stk with e | ⟨e, hf⟩
  · rw [e]; exact I.funs
  · rw [e]
    obtain ⟨m, hn, _⟩ := I.loc
    refine .cons (by rw [I.ok.kind]; decide) hf hn ?_ I.funs
    exact Heap.get?_none_of_le (Nat.le_trans I.ok.bsz I.ok.above)
theorem Inv.stkSub (I : Inv X pins σ H s) : ∀ b ∈ frs X.stack, b ∈ X.env.locals :: X.fs := fun b hb => by
  rcases I.ok.stk with e | ⟨e, hf⟩
  · rw [e] at hb; exact List.mem_cons_of_mem _ hb
  · rw [e] at hb
    unfold frs at hb
    rw [List.filterMap_cons, hf] at hb
    exact hb
theorem Inv.stkFree (I : Inv X pins σ H s) : ∀ b ∈ frs X.stack, H b = none := fun b hb => by
  rcases List.mem_cons.mp (I.stkSub b hb) with e | hb
  · rw [e]; exact I.free
  · obtain ⟨_, o, ho, _⟩ := I.ok.funs.mem hb
    exact I.base.free b o ho (I.ok.frf b hb) fun z => I.ok.exfs b z hb
/-- THE STEP: the untracked objects but the frame and the records at ch are kept (the callers' frames up to slots), the frame's map is kept, the new abstract heap is held -/
theorem Inv.step {g' : Array GenState} {t' : Nat} {d' : Drawn} {ch : List Addr} (I : Inv X pins σ H s)
    (hch : ∀ b ∈ ch, (b ∈ X.ex ∨ X.s₀.heap.objs.size ≤ b) ∧ b ≠ X.env.locals ∧ (∀ x c, X.env.cells.lookup x = some c → c ≠ b) ∧ ∀ p ∈ X.pn ++ pins, p.1 ≠ b)
    (keep : ∀ b o, b ≠ X.env.locals → b ∉ X.fs → b ∉ ch → s.heap.get? b = some o → H b = none → h'.get? b = some o)
    (slot : ∀ b o, b ≠ X.env.locals → b ∈ X.fs → b ∉ ch → s.heap.get? b = some o → H b = none → ∃ sl, h'.get? b = some { o with slots := sl }) (free : ∀ b o, b ∉ ch → s.heap.get? b = some o → H b = none → H' b = none)
    (there : ∀ b o, b ∉ ch → s.heap.get? b = some o → ∃ o', h'.get? b = some o')
    (tups : ∀ b xs, H b = some (.tup xs) → H' b = some (.tup xs)) (frzs : ∀ b o u, H b = some (.frz o u) → H' b = some (.frz o u)) (tbls : ∀ b ps, H b = some (.tbl ps) → ∃ more, H' b = some (.tbl (ps ++ more)))
    (ns : ∀ m, s.heap.Ns X.env.locals m → h'.Ns X.env.locals m) (hok : HOk X.prog X.w H' h') (hg : AllBare g') :
    Inv X pins σ H' { s with heap := h', gens := g', drawn := d', toks := t' } := by
  have neL : ∀ b o, X.s₀.heap.get? b = some o → b ≠ X.env.locals := fun b o e => Nat.ne_of_lt (Nat.lt_of_lt_of_le (Heap.lt_size e) I.ok.above)
  have neC : ∀ b o, X.s₀.heap.get? b = some o → b ∉ X.ex → b ∉ ch := fun b o e hx hb => by
    rcases (hch b hb).1 with z | z
    · exact hx z
    · exact absurd (Nat.lt_of_lt_of_le (Heap.lt_size e) z) (Nat.lt_irrefl _)
  have cellK : ∀ x c, X.env.cells.lookup x = some c → ∀ v, s.heap.IsCell c v → h'.IsCell c v := fun x c e v ⟨o, ho, hd⟩ => by
    have nch : c ∉ ch := fun z => (hch c z).2.2.1 x c e rfl
    by_cases hc : c ∈ X.fs
    · obtain ⟨sl, q⟩ := slot c o (I.cne x c e) hc nch ho (I.freeC x c e)
      exact ⟨_, q, hd⟩
    · exact ⟨o, keep c o (I.cne x c e) hc nch ho (I.freeC x c e), hd⟩
  refine ⟨I.ok, I.os, hg, ⟨fun b o e n hb hx => ?_, fun b o e n hb hx => ?_, fun b o e n hx => ?_, fun b o e hx => ?_, fun b xs e => tups b xs (I.base.tups b xs e), fun b o xs e => frzs b o xs (I.base.frzs b o xs e), fun b ps e => ?_⟩, ?_, fun x c e => ?_, ?_, fun x c e => ?_, fun p hp => ?_, hok, I.len⟩
  · exact keep b o (neL b o e) hb (neC b o e hx) (I.base.keep b o e n hb hx) (I.base.free b o e n hx)
  · obtain ⟨sl, e1⟩ := I.base.slot b o e n hb hx
    obtain ⟨sl', e2⟩ := slot b _ (neL b o e) hb (neC b o e hx) e1 (I.base.free b o e n hx)
    exact ⟨sl', e2⟩
  · obtain ⟨o', e1⟩ := I.base.there b o e hx
    exact free b o' (neC b o e hx) e1 (I.base.free b o e n hx)
  · obtain ⟨o', e1⟩ := I.base.there b o e hx
    exact there b o' (neC b o e hx) e1
  · obtain ⟨m1, e1⟩ := I.base.tbls b ps e
    obtain ⟨m2, e2⟩ := tbls b _ e1
    exact ⟨m1 ++ m2, by rw [e2, Array.append_assoc]⟩
  · obtain ⟨m, hn, hl⟩ := I.loc
    refine ⟨m, ns m hn, fun i x v e1 e2 e3 => ?_⟩
    obtain ⟨u, r, l⟩ := hl i x v e1 e2 e3
    refine ⟨u, r, ?_⟩
    rcases l with l | ⟨k, c, e, z⟩
    · exact .inl l
    · exact .inr ⟨k, c, e, cellK x c e _ z⟩
  · obtain ⟨v, z⟩ := I.cell x c e
    exact ⟨v, cellK x c e v z⟩
  · obtain ⟨m, ⟨o, _, _, ho, _⟩, _⟩ := I.loc
    exact free _ o (fun z => (hch _ z).2.1 rfl) ho I.free
  · obtain ⟨v, o, ho, hd⟩ := I.cell x c e
    exact free c o (fun z => (hch c z).2.2.1 x c e rfl) ho (I.freeC x c e)
  · obtain ⟨e, n, ne, nf, d⟩ := I.pin p hp
    have nch : p.1 ∉ ch := fun z => (hch p.1 z).2.2.2 p hp rfl
    exact ⟨keep p.1 p.2 ne nf nch e n, free p.1 p.2 nch e n, ne, nf, d⟩
/-- .. where the frame's own object is kept too -/
theorem Inv.un {t' : Nat} (I : Inv X pins σ H s) (u : Un X.fs [] H H' s.heap h') (hok : HOk X.prog X.w H' h') : Inv X pins σ H' { s with heap := h', toks := t' } := by
  obtain ⟨m, ⟨o, es, ep, ho, r⟩, _⟩ := id I.loc
  obtain ⟨sl, hL⟩ := u.any ho I.free (by simp)
  exact I.step (g' := s.gens) (d' := s.drawn) (ch := []) (fun _ z => nomatch z) (fun b o _ hb _ e n => u.keep b o e n hb (by simp)) (fun b o _ hb _ e n => u.slot b o e n hb (by simp)) (fun b o _ e n => u.free b o e n (by simp)) (fun b o _ e => u.there b o e (by simp)) u.tups u.frzs u.tbls (fun m' hm => by
    obtain ⟨o', es', ep', ho', r'⟩ := hm
    rw [ho] at ho'; cases ho'
    exact ⟨_, es', ep', hL, r'⟩) hok I.bare
/-- behind a call (or a comprehension's block): the slots of this frame may have changed too, the records at ch may have turned -/
theorem Inv.call {g' : Array GenState} {t' : Nat} {d' : Drawn} {ch : List Addr} (I : Inv X pins σ H s) (u : Un (frs X.stack) ch H H' s.heap h') (hok : HOk X.prog X.w H' h') (hg : AllBare g')
    (hch : ∀ b ∈ ch, (b ∈ X.ex ∨ X.s₀.heap.objs.size ≤ b) ∧ b ≠ X.env.locals ∧ (∀ x c, X.env.cells.lookup x = some c → c ≠ b) ∧ ∀ p ∈ X.pn ++ pins, p.1 ≠ b) :
    Inv X pins σ H' { s with heap := h', gens := g', drawn := d', toks := t' } := by
  obtain ⟨m, ⟨o, es, ep, ho, r⟩, _⟩ := id I.loc
  obtain ⟨sl, hL⟩ := u.any ho I.free fun z => (hch _ z).2.1 rfl
  exact I.step (ch := ch) hch (fun b o hL hb hc e n => u.keep b o e n (fun z => (List.mem_cons.mp (I.stkSub b z)).elim hL hb) hc) (fun b o _ _ hc e n => u.any e n hc) (fun b o hc e n => u.free b o e n hc) (fun b o hc e => u.there b o e hc) u.tups u.frzs u.tbls (fun m' hm => by
    obtain ⟨o', es', ep', ho', r'⟩ := hm
    rw [ho] at ho'; cases ho'
    exact ⟨_, es', ep', hL, r'⟩) hok hg
/-- an untracked record of ours (an iterator) has turned -/
theorem Inv.turned {t' : Nat} {it : Addr} (I : Inv X pins σ H s) (k : ∀ b o, b ≠ it → s.heap.get? b = some o → h'.get? b = some o) (hn : H it = none) (hL : it ≠ X.env.locals)
    (h1 : it ∈ X.ex ∨ X.s₀.heap.objs.size ≤ it) (h2 : ∀ x c, X.env.cells.lookup x = some c → c ≠ it) (h3 : ∀ p ∈ X.pn ++ pins, p.1 ≠ it) : Inv X pins σ H { s with heap := h', toks := t' } := by
  have nit : ∀ b u, H b = some u → b ≠ it := fun b u e z => by rw [z, hn] at e; cases e
  refine I.step (g' := s.gens) (d' := s.drawn) (ch := [it]) (fun b hb => ?_) (fun b o _ _ hc e _ => k b o (fun z => hc (by simp [z])) e) (fun b o _ _ hc e _ => ⟨o.slots, k b o (fun z => hc (by simp [z])) e⟩) (fun _ _ _ _ n => n)
    (fun b o hc e => ⟨o, k b o (fun z => hc (by simp [z])) e⟩) (fun _ _ e => e) (fun _ _ _ e => e) (fun b ps e => ⟨#[], by rw [e]; simp⟩) (fun m hm => ?_) (fun b u e => ?_) I.bare
  · have e : b = it := by simpa using hb
    subst e
    exact ⟨h1, hL, h2, h3⟩
  · obtain ⟨o, es, ep, ho, r⟩ := hm
    exact ⟨o, es, ep, k _ o (Ne.symm hL) ho, r⟩
  · refine (I.hok b u e).stay (fun c v hc q => k c v ?_ q) (fun _ q => q) fun _ _ q => q
    rcases hc with z | z
    · rw [z]; exact nit b u e
    · exact nit c _ z
theorem Inv.tok (I : Inv X pins σ H s) (t : Nat) : Inv X pins σ H { s with toks := t } := I.un (h' := s.heap) (t' := t) Un.refl I.hok
/-- all objects kept -/
theorem Inv.kept {t' : Nat} (I : Inv X pins σ H s) (k : ∀ b u, s.heap.get? b = some u → h'.get? b = some u) : Inv X pins σ H { s with heap := h', toks := t' } := I.un (Un.kept k) (I.hok.kept k)
/-- a new object laid and tracked -/
theorem Inv.laid {a : Addr} {o : HO} {t' : Nat} (I : Inv X pins σ H s) (k : ∀ b u, s.heap.get? b = some u → h'.get? b = some u) (hp : s.heap.objs.size ≤ a) (new : ObjOk X.prog X.w (upd H a o) h' a o) :
    Inv X pins σ (upd H a o) { s with heap := h', toks := t' } := I.un (Un.laid k hp (I.hok.fresh hp)) (I.hok.laid k hp new)
/-- an object written -/
theorem Inv.write {x e : Addr} {o : HO} {t' : Nat} (I : Inv X pins σ H s) (mu : Mut (H x)) (he : e = x ∨ H e = some (.own x)) (k : ∀ b u, b ≠ e → s.heap.get? b = some u → h'.get? b = some u) (heo : ∃ u, h'.get? e = some u)
    (new : ObjOk X.prog X.w (upd H x o) h' x o) : Inv X pins σ (upd H x o) { s with heap := h', toks := t' } := I.un (Un.write mu he k heo) (I.hok.write mu he k heo new)
theorem Inv.pins_of {pins' : List (Addr × Obj)} (I : Inv X pins σ H s) (h : ∀ p ∈ pins', s.heap.get? p.1 = some p.2 ∧ H p.1 = none ∧ p.1 ≠ X.env.locals ∧ p.1 ∉ X.fs ∧ ∀ v, p.2.data ≠ .cell v) : Inv X pins' σ H s :=
  ⟨I.ok, I.os, I.bare, I.base, I.loc, I.cell, I.free, I.freeC, fun p hp => (List.mem_append.mp hp).elim (fun z => I.pin p (List.mem_append_left _ z)) (h p), I.hok, I.len⟩
theorem nodup_ix {N : List Str} (hN : N.Nodup) {i j : Nat} {x : Str} (a : N[i]? = some x) (b : N[j]? = some x) : i = j := by
  obtain ⟨h1, e1⟩ := List.getElem?_eq_some_iff.mp a
  obtain ⟨h2, e2⟩ := List.getElem?_eq_some_iff.mp b
  exact (List.getElem_inj hN).mp (e1.trans e2.symm)
/-- a name is stored; what changed -/
theorem store_ok2 {M : Model} {A : Around} {E : Value → Shared → Prop} {i : Nat} {x : Str} {v : V} {u : Value} {Q : Unit → Shared → Prop} (I : Inv X pins σ H s) (hN : X.N.Nodup) (hi : X.N[i]? = some x) (hx : Loc X.env.scope x) (r : RelV v u)
    (h : ∀ s', Inv X pins (σ.set i (some v)) H s' → (∃ a, Heap.SameBut a s.heap s'.heap ∧ (a = X.env.locals ∨ X.env.cells.lookup x = some a)) → Q () s') (hf : X.fn x = true ∨ X.env.scope.names.lookup x = some .local := by first | exact .inl rfl | exact .inr rfl | assumption) : wpAny M A (storeName X.env x u) Q E s := by
  obtain ⟨m, hn, hl⟩ := id I.loc
  have hcls : (X.env.scope.kind == .class || (X.env.scope.kind == .module && X.env.locals != X.env.globals)) = false := by rw [I.ok.kind]; rfl
  have hiσ : i < σ.length := by rw [I.len]; exact (List.getElem?_eq_some_iff.mp hi).1
  have cne := I.cne
  have tracked : ∀ {a : Addr} {h' : Heap}, (∃ o, s.heap.get? a = some o ∧ H a = none) → Heap.SameBut a s.heap h' → HOk X.prog X.w H h' := fun {a h'} ha hs b ob e => by
    obtain ⟨_, _, hfree⟩ := ha
    refine (I.hok b ob e).stay (fun c w' hc q => (hs.2 c ?_).trans q) (fun _ q => q) fun _ _ q => q
    rintro rfl
    rcases hc with rfl | hc
    · rw [hfree] at e; cases e
    · rw [hfree] at hc; cases hc
  rcases hx with hk | hk
  · refine wpAny_storeName_local hk hn (fun h' hn' hs => ?_) hcls
    obtain ⟨oL, _, _, hoL, _⟩ := id hn
    refine h _ ⟨I.ok, I.os, I.bare, ⟨fun b o e n hb hx => ?_, fun b o e n hb hx => ?_, I.base.free, fun b o e hx => ?_, I.base.tups, I.base.frzs, I.base.tbls⟩, ⟨_, hn', fun j y v' e1 e2 e3 => ?_⟩, fun y c e => ?_, I.free, I.freeC, fun p hp => ?_, tracked ⟨oL, hoL, I.free⟩ hs, by simpa using I.len⟩ ⟨_, hs, .inl rfl⟩
    · exact (hs.2 b (Nat.ne_of_lt (Nat.lt_of_lt_of_le (Heap.lt_size e) I.ok.above))).trans (I.base.keep b o e n hb hx)
    · obtain ⟨sl, e1⟩ := I.base.slot b o e n hb hx
      exact ⟨sl, (hs.2 b (Nat.ne_of_lt (Nat.lt_of_lt_of_le (Heap.lt_size e) I.ok.above))).trans e1⟩
    · obtain ⟨o', e1⟩ := I.base.there b o e hx
      exact ⟨o', (hs.2 b (Nat.ne_of_lt (Nat.lt_of_lt_of_le (Heap.lt_size e) I.ok.above))).trans e1⟩
    · by_cases hj : j = i
      · subst hj
        rw [hi] at e1; cases e1
        rw [List.getElem?_set_self hiσ] at e2
        cases e2
        exact ⟨u, r, .inl ⟨hk, by simp⟩⟩
      · rw [List.getElem?_set_ne (Ne.symm hj)] at e2
        obtain ⟨u', r', q⟩ := hl j y v' e1 e2 e3
        refine ⟨u', r', ?_⟩
        rcases q with ⟨k, e⟩ | ⟨k, c, e, z⟩
        · refine .inl ⟨k, ?_⟩
          have : y ≠ x := fun e => hj (nodup_ix hN e1 (e ▸ hi))
          simp [this, e]
        · exact .inr ⟨k, c, e, z.sameBut hs (cne y c e)⟩
    · obtain ⟨w', z⟩ := I.cell y c e
      exact ⟨w', z.sameBut hs (cne y c e)⟩
    · obtain ⟨e, n, ne, nf, d⟩ := I.pin p hp
      exact ⟨(hs.2 p.1 ne).trans e, n, ne, nf, d⟩
  · have hfn : X.fn x = true := by
      rcases hf with z | z
      · exact z
      · rw [z] at hk; cases hk
    obtain ⟨c, hc⟩ := I.ok.has x (.inl hk)
    obtain ⟨w', z⟩ := I.cell x c hc
    refine wpAny_storeName_cell I.ok.kind hk hc z (fun h' hc' hs => ?_)
    obtain ⟨oc, hoc, hocd⟩ := id z
    refine h { s with heap := h' } ⟨I.ok, I.os, I.bare, ⟨fun b o e n hb hx => ?_, fun b o e n hb hx => ?_, I.base.free, fun b o e hx => ?_, I.base.tups, I.base.frzs, I.base.tbls⟩, ⟨m, hn.sameBut hs (Ne.symm (cne x c hc)), fun j y v' e1 e2 e3 => ?_⟩, fun y c' e => ?_, I.free, I.freeC, fun p hp => ?_, tracked ⟨oc, hoc, I.freeC x c hc⟩ hs, by simpa using I.len⟩ ⟨c, hs, .inr hc⟩
    · exact (hs.2 b (Nat.ne_of_lt (Nat.lt_of_lt_of_le (Heap.lt_size e) (I.ok.cab x c hfn hc)))).trans (I.base.keep b o e n hb hx)
    · obtain ⟨sl, e1⟩ := I.base.slot b o e n hb hx
      exact ⟨sl, (hs.2 b (Nat.ne_of_lt (Nat.lt_of_lt_of_le (Heap.lt_size e) (I.ok.cab x c hfn hc)))).trans e1⟩
    · obtain ⟨o', e1⟩ := I.base.there b o e hx
      exact ⟨o', (hs.2 b (Nat.ne_of_lt (Nat.lt_of_lt_of_le (Heap.lt_size e) (I.ok.cab x c hfn hc)))).trans e1⟩
    · by_cases hj : j = i
      · subst hj
        rw [hi] at e1; cases e1
        rw [List.getElem?_set_self hiσ] at e2
        cases e2
        exact ⟨u, r, .inr ⟨.inl hk, c, hc, hc'⟩⟩
      · rw [List.getElem?_set_ne (Ne.symm hj)] at e2
        obtain ⟨u', r', q⟩ := hl j y v' e1 e2 e3
        refine ⟨u', r', ?_⟩
        rcases q with q | ⟨k, c', e, z'⟩
        · exact .inl q
        · refine .inr ⟨k, c', e, z'.sameBut hs ?_⟩
          rintro rfl
          exact hj (nodup_ix hN e1 (I.ok.inj _ _ _ e hc ▸ hi))
    · by_cases hcc : c' = c
      · subst hcc; exact ⟨_, hc'⟩
      · obtain ⟨w2, z2⟩ := I.cell y c' e
        exact ⟨w2, z2.sameBut hs hcc⟩
    · obtain ⟨e, n, ne, nf, d⟩ := I.pin p hp
      refine ⟨(hs.2 p.1 ?_).trans e, n, ne, nf, d⟩
      intro q
      rw [q, hoc] at e
      have q' : oc = p.2 := Option.some.inj e
      exact d w' (by rw [← q']; exact hocd)
theorem store_ok {M : Model} {A : Around} {E : Value → Shared → Prop} {i : Nat} {x : Str} {v : V} {u : Value} {Q : Unit → Shared → Prop} (I : Inv X pins σ H s) (hN : X.N.Nodup) (hi : X.N[i]? = some x) (hx : Loc X.env.scope x) (r : RelV v u)
    (h : ∀ s', Inv X pins (σ.set i (some v)) H s' → Q () s') (hf : X.fn x = true ∨ X.env.scope.names.lookup x = some .local := by first | exact .inl rfl | exact .inr rfl | assumption) : wpAny M A (storeName X.env x u) Q E s :=
  store_ok2 I hN hi hx r (fun s' I' _ => h s' I') hf
/-- behind a call or a block, the state as it is -/
theorem Inv.call' {s' : Shared} {ch : List Addr} (I : Inv X pins σ H s) (ho : s'.os = s.os) (u : Un (frs X.stack) ch H H' s.heap s'.heap) (hok : HOk X.prog X.w H' s'.heap) (hg : AllBare s'.gens)
    (hch : ∀ b ∈ ch, (b ∈ X.ex ∨ X.s₀.heap.objs.size ≤ b) ∧ b ≠ X.env.locals ∧ (∀ x c, X.env.cells.lookup x = some c → c ≠ b) ∧ ∀ p ∈ X.pn ++ pins, p.1 ≠ b) : Inv X pins σ H' s' := by
  obtain ⟨h', g', d', t', o'⟩ := s'
  have e : o' = s.os := ho
  subst e
  exact I.call (g' := g') (t' := t') (d' := d') u hok hg hch
end
/-! ### the judgements -/
/-- an exception: its class, its own dict's address (where it has one), the abstract heap behind it -/
abbrev XK := Value → Option Addr → Hp → Prop
abbrev St := List (Option V)
abbrev VK := V → Hp → Prop
/-- an expression's reading; a test's; an argument list's -/
abbrev TE := St → Hp → VK → Prop
abbrev TT := St → Hp → (Bool → Hp → Prop) → Prop
abbrev TA := St → Hp → (List V → Hp → Prop) → Prop
/-- what is wanted behind a statement -/
structure Ends where
  nx : St → Hp → Prop
  rt : VK
  bk : St → Hp → Prop := fun _ _ => False
  ct : St → Hp → Prop := fun _ _ => False
abbrev TS := Ends → St → Hp → Prop
def EP (X : Cx) (pins : List (Addr × Obj)) (σ : St) (Q : VK) (u : Value) (s' : Shared) : Prop := ∃ v H', Inv X pins σ H' s' ∧ RelV v u ∧ Q v H'
def TP (X : Cx) (pins : List (Addr × Obj)) (σ : St) (Q : Bool → Hp → Prop) (b : Bool) (s' : Shared) : Prop := ∃ H', Inv X pins σ H' s' ∧ Q b H'
def AP (X : Cx) (pins : List (Addr × Obj)) (σ : St) (Q : List V → Hp → Prop) (us : List Value) (s' : Shared) : Prop := ∃ vs H', Inv X pins σ H' s' ∧ Vals vs us ∧ Q vs H'
def SP (X : Cx) (pins : List (Addr × Obj)) (D : Ends) (f : Flow) (s' : Shared) : Prop :=
  match f with
  | .next => ∃ σ' H', Inv X pins σ' H' s' ∧ D.nx σ' H'
  | .brk => ∃ σ' H', Inv X pins σ' H' s' ∧ D.bk σ' H'
  | .cont => ∃ σ' H', Inv X pins σ' H' s' ∧ D.ct σ' H'
  | .ret u => ∃ v σ' H', Inv X pins σ' H' s' ∧ RelV v u ∧ D.rt v H'
def PE (X : Cx) (e : Expr) (t : TE) : Prop :=
  ∀ (pins : List (Addr × Obj)) (s : Shared) (σ : St) (H : Hp) (Q : VK), Inv X pins σ H s → t σ H Q → wpAny (model X.prog X.w) X.A (eval e X.env) (EP X pins σ Q) X.xe s
def PT (X : Cx) (e : Expr) (t : TT) : Prop :=
  ∀ (pins : List (Addr × Obj)) (s : Shared) (σ : St) (H : Hp) (Q : Bool → Hp → Prop), Inv X pins σ H s → t σ H Q → wpAny (model X.prog X.w) X.A (isTrue e X.env (eval e X.env)) (TP X pins σ Q) X.xe s
/-- a test whatever its 'whole' is (and, or) -/
def PW (X : Cx) (e : Expr) (t : TT) : Prop :=
  ∀ (whole : Sem Value) (pins : List (Addr × Obj)) (s : Shared) (σ : St) (H : Hp) (Q : Bool → Hp → Prop), Inv X pins σ H s → t σ H Q → wpAny (model X.prog X.w) X.A (isTrue e X.env whole) (TP X pins σ Q) X.xe s
theorem PW.pt {X : Cx} {e : Expr} {t : TT} (h : PW X e t) : PT X e t := h _
/-- an argument list (no star), from the left -/
def PA (X : Cx) (es : List Expr) (t : TA) : Prop :=
  ∀ (pos : Pos) (pins : List (Addr × Obj)) (s : Shared) (σ : St) (H : Hp) (Q : List V → Hp → Prop), Inv X pins σ H s → t σ H Q → wpAny (model X.prog X.w) X.A (spliced (backTo pos (starEach es X.env))) (AP X pins σ Q) X.xe s
def PS (X : Cx) (st : Stmt) (t : TS) : Prop :=
  ∀ (pins : List (Addr × Obj)) (s : Shared) (σ : St) (H : Hp) (D : Ends), Inv X pins σ H s → t D σ H → wpAny (model X.prog X.w) X.A (exec st X.env) (SP X pins D) X.xe s
def PSs (X : Cx) (st : List Stmt) (t : TS) : Prop :=
  ∀ (pins : List (Addr × Obj)) (s : Shared) (σ : St) (H : Hp) (D : Ends), Inv X pins σ H s → t D σ H → wpAny (model X.prog X.w) X.A (execs st X.env) (SP X pins D) X.xe s
/-- weaken the end -/
theorem thn {α : Type} {t : Sem α} {Q Q' : α → Shared → Prop} {M : Model} {A : Around} {E : Value → Shared → Prop} {s : Shared} (h : wpAny M A t Q E s) (hQ : ∀ a s, Q a s → Q' a s) : wpAny M A t Q' E s := wpAny_mono h hQ fun _ _ x => x
end L2
namespace L2
open PySem PySem.Spec PyProof.Rows
section
variable {X : Cx}
/-! ### names and constants -/
def tVar (i : Nat) : TE := fun σ H Q => ∃ v, σ[i]? = some (some v) ∧ Q v H
def tC (v : V) : TE := fun _ H Q => Q v H
theorem pe_var {i : Nat} {x : Str} {pos : Pos} (hN : X.N[i]? = some x) (hv : Vis X.env.scope x) (hd : (x == ("__debug__" : Str)) = false := by decide) (hcd : (x == ("__classdict__" : Str)) = false := by decide) : PE X (.Name x pos) (tVar i) := by
  intro pins s σ H Q I h
  obtain ⟨v, e, h⟩ := h
  obtain ⟨m, hn, hl⟩ := I.loc
  obtain ⟨u, r, l⟩ := hl i x v hN e hv
  have fin : EP X pins σ Q u s := ⟨v, H, I, r, h⟩
  rcases l with ⟨hk, hm⟩ | ⟨hk, c, hc, hcell⟩
  · exact wpAny_Name (wpAny_loadName_local I.ok.kind hk hn hm fin) hd
  · rcases hk with hk | hk
    · exact wpAny_Name (wpAny_loadName_cell I.ok.kind hk hc hcell fin) hd
    · exact wpAny_Name (wpAny_loadName_free I.ok.kind hk hc hcell fin hcd) hd
theorem pe_int {i j pos} : PE X (.Constant (.int i) j pos) (tC (.int i)) := fun _ _ _ H _ I h => wpAny_Constant_int ⟨.int i, H, I.tok _, ⟨_, rfl⟩, h⟩
theorem pe_bl {b j pos} : PE X (.Constant (.bool b) j pos) (tC (.bl b)) := fun _ _ _ H _ I h => Constant_bool ⟨.bl b, H, I, rfl, h⟩
theorem pe_non {j pos} : PE X (.Constant .none j pos) (tC .non) := fun _ _ _ H _ I h => Constant_none ⟨.non, H, I, rfl, h⟩
theorem pe_str {x j pos} : PE X (.Constant (.str x) j pos) (tC (.str x)) := fun _ _ _ H _ I h => Calls.Constant_str ⟨.str x, H, I.tok _, ⟨_, rfl⟩, h⟩
/-- a global name of the def -/
def Gl (X : Cx) (x : Str) : Prop := X.env.kindOf x = some .globalImplicit
theorem ld_glob {E : Value → Shared → Prop} {pins : List (Addr × Obj)} {s : Shared} {σ : St} {H : Hp} {x : Str} {u : Value} {pos : Pos} {Q : Value → Shared → Prop} (I : Inv X pins σ H s) (hg : Gl X x) (hm : X.mg x = some u) (h : Q u s)
    (hd : (x == ("__debug__" : Str)) = false := by decide) : wpAny (model X.prog X.w) X.A (eval (.Name x pos) X.env) Q E s :=
  Calls.Name_function_global I.ok.kind hg (Calls.loadGlobal_global (by rw [I.ok.glob]; exact I.mod.glob.keeps I.bk) hm h) hd
theorem ld_blt {E : Value → Shared → Prop} {pins : List (Addr × Obj)} {s : Shared} {σ : St} {H : Hp} {x : Str} {u : Value} {pos : Pos} {Q : Value → Shared → Prop} (I : Inv X pins σ H s) (hg : Gl X x) (hm : X.mg x = none) (hv : bootBuiltins x = some u) (h : Q u s)
    (hn : x ≠ "__name__" := by decide) (hd : (x == ("__debug__" : Str)) = false := by decide) : wpAny (model X.prog X.w) X.A (eval (.Name x pos) X.env) Q E s := by
  obtain ⟨mb, h1, h2⟩ := I.mod.blt
  exact Calls.Name_function_global I.ok.kind hg (Calls.loadGlobal_builtin (by rw [I.ok.glob]; exact I.mod.glob.keeps I.bk) hm (by rw [I.ok.blt]; exact h1.keeps I.bk) ((h2 x hn).trans hv) h) hd
/-- a module's constant, a class, a function, as a value -/
theorem pe_glob {x : Str} {v : V} {u : Value} {pos : Pos} (hg : Gl X x) (hm : X.mg x = some u) (r : RelV v u) (hd : (x == ("__debug__" : Str)) = false := by decide) : PE X (.Name x pos) (tC v) :=
  fun _ _ _ H _ I h => ld_glob I hg hm ⟨v, H, I, r, h⟩ hd
theorem pe_bltn {x : Str} {v : V} {u : Value} {pos : Pos} (hg : Gl X x) (hm : X.mg x = none) (hv : bootBuiltins x = some u) (r : RelV v u) (hn : x ≠ "__name__" := by decide) (hd : (x == ("__debug__" : Str)) = false := by decide) : PE X (.Name x pos) (tC v) :=
  fun _ _ _ H _ I h => ld_blt I hg hm hv ⟨v, H, I, r, h⟩ hn hd
/-! ### arithmetic -/
variable {a b : Expr} {ta tb : TE} {pos : Pos}
/-! ### comparisons -/
/-- is None -/
def tIsN (ta : TE) : TE := fun σ H Q => ta σ H fun x H1 => Q (.bl (decide (x = .non))) H1
def tNotN (ta : TE) : TE := fun σ H Q => ta σ H fun x H1 => Q (.bl (!decide (x = .non))) H1
/-- a comparison as a value, as a test -/
def tB (t : TE) : TT := fun σ H Q => t σ H fun x H1 => ∃ c, x = .bl c ∧ Q c H1
/-- an expression whose value is a bool, as a test -/
theorem pt_val {e : Expr} {t : TE} (h : PE X e t) (he : ∀ whole, isTrue e X.env whole = (do let v ← whole; standAt e.pos; holding [v] (truthy v)) := by intro _; rfl) : PT X e (tB t) := by
  intro pins s σ H Q I hw
  refine isTrue_plain (thn (h pins s σ H _ I hw) fun v s1 ⟨x, H1, I1, r1, q1⟩ => ?_) (he _)
  obtain ⟨d, rfl, q⟩ := q1
  cases r1
  exact wpAny_truthy_bool ⟨H1, I1, q⟩
/-! ### and, or, not -/
variable {tA tB' : TT} {rest : List Expr}
def tAnd (t u : TT) : TT := fun σ H Q => t σ H fun c H1 => if c = true then u σ H1 Q else Q false H1
def tOr (t u : TT) : TT := fun σ H Q => t σ H fun c H1 => if c = true then Q true H1 else u σ H1 Q
def tNot (t : TT) : TT := fun σ H Q => t σ H fun c H1 => Q (!c) H1
theorem pw_or1 (ha : PT X a tA) : PW X (.BoolOp .Or [a] pos) tA := by
  intro wh pins s σ H Q I h
  refine isTrue_or (thn (ha pins s σ H Q I h) fun c s1 e => ?_)
  cases c with
  | false => exact isTrue_or_nil e
  | true => exact e
theorem pw_or (ha : PT X a tA) (hb : PW X (.BoolOp .Or (b :: rest) pos) tB') : PW X (.BoolOp .Or (a :: b :: rest) pos) (tOr tA tB') := by
  intro wh pins s σ H Q I h
  refine isTrue_or (thn (ha pins s σ H _ I h) fun c s1 ⟨H1, I1, q1⟩ => ?_)
  cases c with
  | true => exact ⟨H1, I1, q1⟩
  | false => exact hb wh pins s1 σ H1 Q I1 q1
theorem pt_not (ha : PT X a tA) : PT X (.UnaryOp .Not a pos) (tNot tA) := by
  intro pins s σ H Q I h
  exact isTrue_not (ha pins s σ H (fun c H1 => Q (!c) H1) I h)
/-- .. as values (bools) -/
def tAndV (ta tb : TE) : TE := fun σ H Q => ta σ H fun x H1 => ∃ c, x = .bl c ∧ if c = true then tb σ H1 Q else Q (.bl false) H1
def tOrV (ta tb : TE) : TE := fun σ H Q => ta σ H fun x H1 => ∃ c, x = .bl c ∧ if c = true then Q (.bl true) H1 else tb σ H1 Q
def tNotV (ta : TE) : TE := fun σ H Q => ta σ H fun x H1 => ∃ c, x = .bl c ∧ Q (.bl (!c)) H1
theorem pe_one {op} {t : TE} (h : PE X a t) : PE X (.BoolOp op [a] pos) t := fun pins s σ H Q I hw => BoolOp_one (h pins s σ H Q I hw)
theorem pe_and (ha : PE X a ta) (hb : PE X (.BoolOp .And (b :: rest) pos) tb) : PE X (.BoolOp .And (a :: b :: rest) pos) (tAndV ta tb) := by
  intro pins s σ H Q I h
  refine BoolOp_and (thn (ha pins s σ H _ I h) fun v s1 ⟨x, H1, I1, r1, q1⟩ => ?_)
  obtain ⟨c, rfl, q1⟩ := q1
  cases r1
  refine wpAny_truthy_bool ?_
  cases c with
  | true => exact hb pins s1 σ H1 Q I1 q1
  | false => exact ⟨.bl false, H1, I1, rfl, q1⟩
theorem pe_not (ha : PE X a ta) : PE X (.UnaryOp .Not a pos) (tNotV ta) := by
  intro pins s σ H Q I h
  refine UnaryOp_ (thn (ha pins s σ H _ I h) fun v s1 ⟨x, H1, I1, r1, q1⟩ => ?_)
  obtain ⟨c, rfl, q1⟩ := q1
  cases r1
  exact not_of (wpAny_truthy_bool ⟨.bl (!c), H1, I1, rfl, q1⟩)
/-- a if t else b -/
def tIf (t : TT) (ta tb : TE) : TE := fun σ H Q => t σ H fun c H1 => if c = true then ta σ H1 Q else tb σ H1 Q
end
end L2
namespace L2
open PySem PySem.Spec PyProof.Rows
/-! ### a list, a tuple that is read: tracked, frozen, or an object of the module -/
def SqL (K : PySem.W.Frag) (H : Hp) (a : Addr) (xs : List V) : Prop :=
  Rd H a (.lst xs) ∨
    ∃ (o : Obj) (its : Array Value) (n : Nat), K.lookup a = some o ∧ o.cls = .type "list" ∧ o.dict = none ∧ o.data = .seq its n ∧ its.size ≤ sizeLine ∧ Vals xs its.toList
def SqT (K : PySem.W.Frag) (H : Hp) (a : Addr) (xs : List V) : Prop :=
  Rd H a (.tup xs) ∨
    ∃ (o : Obj) (its : Array Value) (n : Nat), K.lookup a = some o ∧ o.cls = .type "tuple" ∧ o.data = .seq its n ∧ its.size ≤ sizeLine ∧ Vals xs its.toList
def absV : Value → Option V
  | .none => some .non
  | .bool b => some (.bl b)
  | .int i _ => some (.int i)
  | .str x _ => some (.str x)
  | .bytes b _ => some (.byt b)
  | .float b _ => some (.flt b)
  | .ref a => some (.ref a)
  | .type n => some (.ty n)
  | _ => none
theorem RelV.abs {x : V} {u : Value} (r : RelV x u) : absV u = some x := by
  cases x with
  | non => cases r; rfl
  | bl _ => cases r; rfl
  | int _ => obtain ⟨t, rfl⟩ := r; rfl
  | str _ => obtain ⟨t, rfl⟩ := r; rfl
  | byt _ => obtain ⟨t, rfl⟩ := r; rfl
  | flt _ => obtain ⟨t, rfl⟩ := r; rfl
  | ref _ => cases r; rfl
  | ty _ => cases r; rfl
theorem RelV.inj {x y : V} {u : Value} (r : RelV x u) (q : RelV y u) : x = y := Option.some.inj (r.abs.symm.trans q.abs)
theorem Vals.inj : ∀ {xs ys : List V} {us : List Value}, Vals xs us → Vals ys us → xs = ys
  | _, _, _, .nil, .nil => rfl
  | _, _, _, .cons r t, .cons r' t' => by rw [r.inj r', Vals.inj t t']
section
variable {X : Cx} {pins : List (Addr × Obj)} {σ : St} {H : Hp} {s : Shared} {a : Addr} {xs ys : List V}
theorem SqL.of {K : PySem.W.Frag} (h : H a = some (.lst xs)) : SqL K H a xs := .inl (.inl h)
theorem SqT.of {K : PySem.W.Frag} (h : H a = some (.tup xs)) : SqT K H a xs := .inl (.inl h)
theorem Inv.list (I : Inv X pins σ H s) (h : SqL X.K H a xs) : ∃ its : List Value, Vals xs its ∧ PlainL s.heap a its.toArray ∧ xs.length ≤ sizeLine := by
  rcases h with h | ⟨o, its, n, hk, hc, hd, hs, hz, r⟩
  · obtain ⟨z, its, n, r, e⟩ := h.ok I.hok
    exact ⟨its, r, ⟨_, n, e, rfl, rfl, rfl⟩, z⟩
  · refine ⟨its.toList, r, ⟨o, n, I.kIn a o hk, hc, hd, by simpa using hs⟩, ?_⟩
    have e := r.length
    simp only [Array.length_toList] at e
    omega
theorem Inv.tuple (I : Inv X pins σ H s) (h : SqT X.K H a xs) : ∃ its : List Value, Vals xs its ∧ IsTup s.heap a its.toArray ∧ xs.length ≤ sizeLine := by
  rcases h with h | ⟨o, its, n, hk, hc, hs, hz, r⟩
  · obtain ⟨z, its, r, p⟩ := h.ok I.hok
    exact ⟨its, r, p, z⟩
  · refine ⟨its.toList, r, ⟨o, I.kIn a o hk, hc, n, by simpa using hs⟩, ?_⟩
    have e := r.length
    simp only [Array.length_toList] at e
    omega
theorem Inv.list_inj (I : Inv X pins σ H s) (h : SqL X.K H a xs) (h' : SqL X.K H a ys) : xs = ys := by
  obtain ⟨its, r, ⟨o, n, e, _, _, d⟩, _⟩ := I.list h
  obtain ⟨its', r', ⟨o', n', e', _, _, d'⟩, _⟩ := I.list h'
  rw [e] at e'; cases e'
  rw [d] at d'
  injection d' with d1 _
  have : its = its' := by simpa using congrArg Array.toList d1
  subst this
  exact r.inj r'
end
/-! ### another wish about exceptions -/
abbrev Cx.wish (X : Cx) (E : Value → Shared → Prop) : Cx := { X with xe := E }
/-- no exception leaves -/
abbrev Cx.nox (X : Cx) : Cx := X.wish fun _ _ => False
theorem Cx.Ok.wish {X : Cx} (ok : X.Ok) (E : Value → Shared → Prop) : (X.wish E).Ok :=
  ⟨ok.mod, ok.kind, ok.glob, ok.blt, ok.above, ok.inj, ok.has, ok.cab, ok.hd, ok.frames, ok.stk, ok.exf, ok.bs, ok.bsz, ok.noex, ok.exfs, ok.funs, ok.frf⟩
theorem Cx.Ok.unwish {X : Cx} {E : Value → Shared → Prop} (ok : (X.wish E).Ok) : X.Ok :=
  ⟨ok.mod, ok.kind, ok.glob, ok.blt, ok.above, ok.inj, ok.has, ok.cab, ok.hd, ok.frames, ok.stk, ok.exf, ok.bs, ok.bsz, ok.noex, ok.exfs, ok.funs, ok.frf⟩
section
variable {X : Cx} {pins : List (Addr × Obj)} {σ : St} {H : Hp} {s : Shared} {E : Value → Shared → Prop}
theorem Inv.wish (I : Inv X pins σ H s) (E : Value → Shared → Prop) : Inv (X.wish E) pins σ H s := ⟨I.ok.wish E, I.os, I.bare, I.base, I.loc, I.cell, I.free, I.freeC, I.pin, I.hok, I.len⟩
theorem Inv.unwish (I : Inv (X.wish E) pins σ H s) : Inv X pins σ H s := ⟨I.ok.unwish, I.os, I.bare, I.base, I.loc, I.cell, I.free, I.freeC, I.pin, I.hok, I.len⟩
theorem SP.unwish {D : Ends} {f : Flow} {s' : Shared} (h : SP (X.wish E) pins D f s') : SP X pins D f s' := by
  cases f with
  | next => obtain ⟨σ', H', I, q⟩ := h; exact ⟨σ', H', I.unwish, q⟩
  | brk => obtain ⟨σ', H', I, q⟩ := h; exact ⟨σ', H', I.unwish, q⟩
  | cont => obtain ⟨σ', H', I, q⟩ := h; exact ⟨σ', H', I.unwish, q⟩
  | ret u => obtain ⟨v, σ', H', I, r, q⟩ := h; exact ⟨v, σ', H', I.unwish, r, q⟩
theorem PE.nox {e : Expr} {t : TE} (h : PE X.nox e t) : PE X e t := fun pins s σ H Q I hw =>
  wpAny_mono (h pins s σ H Q (I.wish _) hw) (fun _ _ ⟨v, H', I', r, q⟩ => ⟨v, H', I'.unwish, r, q⟩) fun _ _ z => False.elim z
theorem PT.nox {e : Expr} {t : TT} (h : PT X.nox e t) : PT X e t := fun pins s σ H Q I hw =>
  wpAny_mono (h pins s σ H Q (I.wish _) hw) (fun _ _ ⟨H', I', q⟩ => ⟨H', I'.unwish, q⟩) fun _ _ z => False.elim z
theorem PSs.nox {st : List Stmt} {t : TS} (h : PSs X.nox st t) : PSs X st t := fun pins s σ H D I hw =>
  wpAny_mono (h pins s σ H D (I.wish _) hw) (fun _ _ q => q.unwish) fun _ _ z => False.elim z
end
/-! ### blocks and small statements -/
section
variable {X : Cx} {st : Stmt} {rest : List Stmt} {t u : TS} {e : Expr} {te : TE} {pos : Pos}
def tNext : TS := fun D σ H => D.nx σ H
def tSeq (t u : TS) : TS := fun D σ H => t { D with nx := u D } σ H
theorem pss_nil : PSs X [] tNext := fun _ _ σ H _ I h => wpAny_execs_nil ⟨σ, H, I, h⟩
theorem pss_cons (h1 : PS X st t) (h2 : PSs X rest u) : PSs X (st :: rest) (tSeq t u) := by
  intro pins s σ H D I h
  refine wpAny_execs_cons (thn (h1 pins s σ H { D with nx := u D } I h) fun f s1 q => ?_)
  cases f with
  | next =>
    obtain ⟨σ', H', I', q⟩ := q
    exact h2 pins s1 σ' H' D I' q
  | ret v => exact q
  | brk => exact q
  | cont => exact q
theorem pss_one (h1 : PS X st t) : PSs X [st] t := by
  intro pins s σ H D I h
  refine wpAny_execs_cons (thn (h1 pins s σ H D I h) fun f s1 q => ?_)
  cases f with
  | next => exact wpAny_execs_nil q
  | ret v => exact q
  | brk => exact q
  | cont => exact q
/-- in a def's body nothing is shown -/
theorem Inv.quiet {pins : List (Addr × Obj)} {σ : St} {H : Hp} {s : Shared} (I : Inv X pins σ H s) : interactive X.env = false := by simp [interactive, I.ok.kind]
/-- an expression whose value is dropped -/
def tDrop (te : TE) : TS := fun D σ H => te σ H fun _ H1 => D.nx σ H1
theorem ps_expr (he : PE X e te) (hs : swapsWith e none pos.line X.env = pure false := by rfl) : PS X (.Expr e pos) (tDrop te) := by
  intro pins s σ H D I h
  exact wpAny_Expr_any (thn (he pins s σ H _ I h) fun v s1 ⟨x, H1, I1, r1, q1⟩ => ⟨σ, H1, I1, q1⟩) I.quiet hs
def tRet (te : TE) : TS := fun D σ H => te σ H D.rt
theorem ps_ret (he : PE X e te) : PS X (.Return (some e) pos) (tRet te) := by
  intro pins s σ H D I h
  exact wpAny_Return_some (thn (he pins s σ H _ I h) fun v s1 ⟨x, H1, I1, r1, q1⟩ => ⟨x, σ, H1, I1, r1, q1⟩)
def tRetN : TS := fun D _ H => D.rt .non H
def tIfS (c : TT) (t u : TS) : TS := fun D σ H => c σ H fun b H1 => if b = true then t D σ H1 else u D σ H1
theorem ps_if {c : Expr} {a b : List Stmt} {tc : TT} (hc : PT X c tc) (ha : PSs X a t) (hb : PSs X b u) : PS X (.If c a b pos) (tIfS tc t u) := by
  intro pins s σ H D I h
  refine wpAny_If (thn (hc pins s σ H _ I h) fun d s1 ⟨H1, I1, q1⟩ => ?_)
  cases d with
  | true => exact ha pins s1 σ H1 D I1 q1
  | false => exact hb pins s1 σ H1 D I1 q1
/-- code that the proof never comes to -/
def tNever : TS := fun _ _ _ => False
theorem pss_never {sts : List Stmt} : PSs X sts tNever := fun _ _ _ _ _ _ h => h.elim
end
/-! ### targets -/
abbrev TG := V → St → Hp → (St → Hp → Prop) → Prop
abbrev TGs := List V → St → Hp → (St → Hp → Prop) → Prop
def PG (X : Cx) (target : Expr) (t : TG) : Prop :=
  ∀ (pins : List (Addr × Obj)) (s : Shared) (σ : St) (H : Hp) (v : V) (u : Value) (Q : St → Hp → Prop), Inv X pins σ H s → RelV v u → t v σ H Q →
    wpAny (model X.prog X.w) X.A (assign target X.env u) (fun _ s' => ∃ σ' H', Inv X pins σ' H' s' ∧ Q σ' H') X.xe s
/-- o[i] = v, by values -/
abbrev TSet := V → V → V → Hp → (Hp → Prop) → Prop
def PSet (X : Cx) (t : TSet) : Prop :=
  ∀ (pins : List (Addr × Obj)) (s : Shared) (σ : St) (H : Hp) (o i v : V) (ov iv u : Value) (Q : Hp → Prop), Inv X pins σ H s → RelV o ov → RelV i iv → RelV v u → t o i v H Q →
    wpAny (model X.prog X.w) X.A (setItem ov iv u) (fun _ s' => ∃ H', Inv X pins σ H' s' ∧ Q H') X.xe s
section
variable {X : Cx} {pos : Pos}
def gName (i : Nat) : TG := fun v σ H Q => Q (σ.set i (some v)) H
theorem pg_name {i : Nat} {x : Str} (hN : X.N.Nodup) (hi : X.N[i]? = some x) (hx : Loc X.env.scope x) (hf : X.fn x = true ∨ X.env.scope.names.lookup x = some .local := by first | exact .inl rfl | exact .inr rfl | assumption) : PG X (.Name x pos) (gName i) := by
  intro pins s σ H v u Q I r h
  exact wpAny_assign_Name (store_ok I hN hi hx r (fun s' I' => ⟨_, H, I', h⟩) hf)
def gNil : TGs := fun vs σ H Q => vs = [] ∧ Q σ H
def gCons (t : TG) (u : TGs) : TGs := fun vs σ H Q => ∃ v r, vs = v :: r ∧ t v σ H fun σ' H' => u r σ' H' Q
/-- (a, b, ..) = a tuple of that length -/
def gTup (K : PySem.W.Frag) (n : Nat) (t : TGs) : TG := fun v σ H Q => ∃ a xs, v = .ref a ∧ SqT K H a xs ∧ xs.length = n ∧ t xs σ H Q
/-- o[i] = .. -/
def gSub (to ti : TE) (t : TSet) : TG := fun v σ H Q => to σ H fun o H1 => ti σ H1 fun i H2 => t o i v H2 fun H3 => Q σ H3
theorem pg_sub {o i : Expr} {to ti : TE} {t : TSet} (ho : PE X o to) (hi : PE X i ti) (hs : PSet X t)
    (ha : ∀ v, assign (.Subscript o i pos) X.env v = (do
      let ov ← holding [v] (eval o X.env)
      let iv ← holding [v, ov] (eval i X.env)
      standAt pos
      holding [v, ov, iv] (setItem ov iv v)
      release [v, ov, iv] []) := by intro _; rfl) : PG X (.Subscript o i pos) (gSub to ti t) := by
  intro pins s σ H v u Q I r h
  rw [ha]
  refine wpAny_bind (wpAny_holding (thn (ho pins s σ H _ I h) fun ov s1 ⟨x, H1, I1, r1, q1⟩ => ?_))
  refine wpAny_bind (wpAny_holding (thn (hi pins s1 σ H1 _ I1 q1) fun iv s2 ⟨y, H2, I2, r2, q2⟩ => ?_))
  refine wpAny_bind (wpAny_standAt (wpAny_bind (wpAny_holding (thn (hs pins s2 σ H2 x y v ov iv u _ I2 r1 r2 r q2) fun _ s3 ⟨H3, I3, q3⟩ => ?_))))
  exact wpAny_release ⟨σ, H3, I3, q3⟩
/-- target = value -/
def tAsg (te : TE) (g : TG) : TS := fun D σ H => te σ H fun x H1 => g x σ H1 D.nx
theorem ps_asg {tg e : Expr} {te : TE} {g : TG} (he : PE X e te) (hg : PG X tg g) (hs : swapsWithSole [tg] e pos.line X.env = pure false := by rfl) (hw : swappedStores [tg] e X.env = pure none := by rfl)
    (h1 : (assignEach [tg] X.env).map (·.2) = [assign tg X.env] := by rfl) : PS X (.Assign [tg] e pos) (tAsg te g) := by
  intro pins s σ H D I h
  refine wpAny_Assign_stores (thn (he pins s σ H _ I h) fun v s1 ⟨x, H1, I1, r1, q1⟩ => ?_) hs hw
  rw [h1]
  exact thn (hg pins s1 σ H1 x v _ I1 r1 q1) fun _ s2 q => q
/-- name = value -/
theorem ps_set {i : Nat} {x : Str} {e : Expr} {te : TE} {pos' : Pos} (hN : X.N.Nodup) (hi : X.N[i]? = some x) (hx : Loc X.env.scope x) (he : PE X e te) (hs : swapsWith e (some (.Name x pos')) pos.line X.env = pure false := by rfl) (hf : X.fn x = true ∨ X.env.scope.names.lookup x = some .local := by first | exact .inl rfl | exact .inr rfl | assumption) :
    PS X (.Assign [.Name x pos'] e pos) (tAsg te (gName i)) := by
  intro pins s σ H D I h
  refine wpAny_Assign_Name (thn (he pins s σ H _ I h) fun v s1 ⟨y, H1, I1, r1, q1⟩ => ?_) hs
  exact store_ok I1 hN hi hx r1 (fun s2 I2 => ⟨_, H1, I2, q1⟩) hf
end
/-! ### while -/
section
variable {X : Cx} {pos : Pos}
end
/-! ### what a loop or a comprehension walks -/
/-- at turn i: it yields x (the heap may grow), or it stops -/
structure It where
  go : Nat → Hp → Prop
  yld : Nat → Hp → V → Hp → Prop
  stop : Nat → Hp → Prop
/-- the iterator's own objects may turn: they are not the frame's, not pinned, younger than the entry (or a comprehension's own) -/
def FpOk (X : Cx) (pins : List (Addr × Obj)) (H : Hp) (b : Addr) : Prop :=
  H b = none ∧ b ≠ X.env.locals ∧ b ∉ X.fs ∧ (b ∈ X.ex ∨ X.s₀.heap.objs.size ≤ b) ∧ (∀ x c, X.env.cells.lookup x = some c → c ≠ b) ∧ ∀ p ∈ X.pn ++ pins, p.1 ≠ b
theorem Inv.fpOk {X : Cx} {pins : List (Addr × Obj)} {σ : St} {H H' : Hp} {s : Shared} {b : Addr} (I : Inv X pins σ H s) (hb : s.heap.objs.size ≤ b) (hn : H' b = none) : FpOk X pins H' b := by
  refine ⟨hn, Nat.ne_of_gt (Nat.lt_of_lt_of_le I.lt hb), I.nofs hb, .inr (Nat.le_trans I.sz hb), fun x c e z => ?_, fun p hp z => ?_⟩
  · obtain ⟨v, q⟩ := I.cell x c e
    exact absurd (Nat.lt_of_lt_of_le q.lt (by rw [z]; exact hb)) (Nat.lt_irrefl _)
  · exact absurd (Nat.lt_of_lt_of_le (Heap.lt_size (I.pin p hp).1) (by rw [z]; exact hb)) (Nat.lt_irrefl _)
structure Turn (P : Program) (w : World) (K : PySem.W.Frag) (tg : Expr) (J : It) (fp : List Addr) (it : Addr) (tn : Nat → Heap → Prop) : Prop where
  mem : it ∈ fp
  obj : ∀ i h, tn i h → ∀ b ∈ fp, ∃ o, h.get? b = some o ∧ ∀ v, o.data ≠ .cell v
  keep : ∀ i h h', tn i h → (∀ b ∈ fp, ∀ o, h.get? b = some o → h'.get? b = some o) → tn i h'
  item : ∀ (X : Cx), X.prog = P → X.w = w → X.K = K → X.calm = true → ∀ (i : Nat) (pins : List (Addr × Obj)) (s : Shared) (σ : St) (H : Hp) (E : Value → Shared → Prop), Inv X pins σ H s → (∀ b ∈ fp, FpOk X pins H b) → tn i s.heap → J.go i H →
    wpAny (model P w) X.A (pyNext (.ref it)) (fun r s1 => ∃ u, r = some u ∧
      wpAny (model P w) X.A (letOwnedTupleGo tg (.ref it) u) (fun _ s2 => ∃ x H', Inv X pins σ H' s2 ∧ RelV x u ∧ J.yld i H x H' ∧ tn (i + 1) s2.heap ∧ ∀ b ∈ fp, H' b = none) E s1) E s
  done : ∀ (X : Cx), X.prog = P → X.w = w → X.K = K → X.calm = true → ∀ (i : Nat) (pins : List (Addr × Obj)) (s : Shared) (σ : St) (H : Hp) (E : Value → Shared → Prop), Inv X pins σ H s → (∀ b ∈ fp, FpOk X pins H b) → tn i s.heap → J.stop i H →
    wpAny (model P w) X.A (pyNext (.ref it)) (fun r s1 => r = none ∧ Inv X pins σ H s1) E s
  self : ∀ (A : Around) (i : Nat) (s : Shared) (Q : Value → Shared → Prop) (E : Value → Shared → Prop), tn i s.heap → Q (.ref it) s → wpAny (model P w) A (pyIter (.ref it)) Q E s
abbrev TI := St → Hp → (It → Hp → Prop) → Prop
/-- an iterator has come -/
def PIE (X : Cx) (pins : List (Addr × Obj)) (σ : St) (tg : Expr) (R : It → Hp → Prop) (itv : Value) (s2 : Shared) : Prop :=
  ∃ (it : Addr) (fp : List Addr) (tn : Nat → Heap → Prop) (J : It) (H' : Hp), itv = .ref it ∧ Inv X pins σ H' s2 ∧ Turn X.prog X.w X.K tg J fp it tn ∧ tn 0 s2.heap ∧ (∀ b ∈ fp, FpOk X pins H' b) ∧ R J H'
def PI (X : Cx) (tg iter : Expr) (wi : TI) : Prop :=
  ∀ (pins : List (Addr × Obj)) (s : Shared) (σ : St) (H : Hp) (R : It → Hp → Prop), Inv X pins σ H s → wi σ H R →
    wpAny (model X.prog X.w) X.A (eval iter X.env) (fun v s1 => wpAny (model X.prog X.w) X.A (pyIter v) (PIE X pins σ tg R) X.xe s1) X.xe s
/-- the step ahead of the store is nothing for an iterator that keeps no tuple -/
theorem go_of {M : Model} {A : Around} {E : Value → Shared → Prop} {s : Shared} {tg : Expr} {it : Addr} {u : Value} {o : Obj} {n : String} {vs : Array Value} {Q : Unit → Shared → Prop} (ho : s.heap.get? it = some o) (hc : o.cls = .type n) (hd : o.data = .fields vs)
    (hn : ["enumerate", "zip", "dict_itemiterator", "dict_reverseitemiterator", "odict_iterator", "itertools.zip_longest", "itertools.pairwise"].contains n = false) (hQ : Q () s) : wpAny M A (letOwnedTupleGo tg (.ref it) u) Q E s := by
  unfold letOwnedTupleGo
  cases tg <;> first
    | exact wpAny_pure hQ
    | (cases u <;> first
        | exact wpAny_pure hQ
        | (refine wpAny_bind (wpAny_load ho ?_)
           rw [hc, hd]
           show wpAny M A (if (["enumerate", "zip", "dict_itemiterator", "dict_reverseitemiterator", "odict_iterator", "itertools.zip_longest", "itertools.pairwise"].contains n && vs[0]? == some (rawInt _)) = true then _ else _) Q E s
           rw [if_neg (by intro h; rw [hn, Bool.false_and] at h; cases h)]
           exact wpAny_pure hQ))
/-- the list at a, as it stands at each turn (a loop may append to it) -/
def Itl (K : PySem.W.Frag) (a : Addr) : It :=
  ⟨fun i H => ∃ xs x, SqL K H a xs ∧ xs[i]? = some x, fun i H x H' => H' = H ∧ ∀ xs, SqL K H a xs → xs[i]? = some x, fun i H => ∃ xs, SqL K H a xs ∧ xs.length ≤ i⟩
/-- lo, lo + 1, .. (n of them) -/
def Itr (lo : Int) (n : Nat) : It := ⟨fun i _ => i < n, fun i H x H' => H' = H ∧ x = .int (lo + i), fun i _ => n ≤ i⟩
theorem turn_list {P : Program} {w : World} {K : PySem.W.Frag} {tg : Expr} (a it : Addr) : Turn P w K tg (Itl K a) [it] it (fun i h => h.IsListIter it a i) where
  mem := by simp
  obj := fun i h st b hb => by
    have e : b = it := by simpa using hb
    subst e
    obtain ⟨o, e, c, d⟩ := st
    exact ⟨o, e, fun v z => by rw [d] at z; cases z⟩
  keep := fun i h h' st k => st.at fun o e => k it (by simp) o e
  item := by
    intro X hP hw hK hc i pins s σ H E I hf st hg
    subst hP hw hK
    obtain ⟨xs, x, hq, hx⟩ := hg
    obtain ⟨its, rv, p, hz⟩ := I.list hq
    obtain ⟨u, hu, ru⟩ := rv.get hx
    obtain ⟨f0, f1, f2, f3, f4, f5⟩ := hf it (by simp)
    refine wpAny_pyNext_list_item st p.isList (x := u) (by simpa using hu) fun h' st' sb => ?_
    have I1 : Inv X pins σ H { s with heap := h' } := I.turned (t' := s.toks) (fun b o hb e => (sb.2 b hb).trans e) f0 f1 f3 f4 f5
    obtain ⟨o, e, c, d⟩ := id st'
    exact ⟨u, rfl, go_of (s := { s with heap := h' }) e c d (by decide) ⟨x, H, I1, ru, ⟨rfl, fun ys hy => by rw [I.list_inj hy hq]; exact hx⟩, st', fun b hb => (hf b hb).1⟩⟩
  done := by
    intro X hP hw hK hc i pins s σ H E I hf st hg
    subst hP hw hK
    obtain ⟨xs, hq, hx⟩ := hg
    obtain ⟨its, rv, p, hz⟩ := I.list hq
    obtain ⟨f0, f1, f2, f3, f4, f5⟩ := hf it (by simp)
    have hl := rv.length
    exact wpAny_pyNext_list_end (I.ok.hd hc) st p.isList (by simp; omega) fun h' eb => ⟨rfl, I.turned (t' := s.toks) (fun b o hb e => eb b o hb e) f0 f1 f3 f4 f5⟩
  self := fun _ _ _ _ _ st h => wpAny_pyIter_listiter st h
theorem turn_range {P : Program} {w : World} {K : PySem.W.Frag} {tg : Expr} (it : Addr) (lo : Int) (n : Nat) : Turn P w K tg (Itr lo n) [it] it (fun i h => IsRangeIter h it (lo + (i : Nat) * 1) ((n : Int) - (i : Nat)) 1) where
  mem := by simp
  obj := fun i h st b hb => by
    have e : b = it := by simpa using hb
    subst e
    exact ⟨_, st, fun v z => by
      have z' : Data.fields _ = Data.cell v := z
      cases z'⟩
  keep := fun i h h' st k => k it (by simp) _ st
  item := by
    intro X hP hw hK hc i pins s σ H E I hf st hg
    subst hP hw hK
    obtain ⟨f0, f1, f2, f3, f4, f5⟩ := hf it (by simp)
    have W := Walks.range (prog := X.prog) (w := X.w) (I.ok.hd hc) it lo 1 n
    refine W.item i s _ _ hg st fun v h' tk hv st' kk => ?_
    obtain ⟨t, rfl⟩ := hv
    have I1 : Inv X pins σ H { s with heap := h', toks := tk } := I.turned (fun b o hb e => kk b o (by simpa using hb) e) f0 f1 f3 f4 f5
    refine ⟨_, rfl, go_of (s := { s with heap := h', toks := tk }) (n := "range_iterator") st' rfl rfl (by decide) ⟨.int (lo + i), H, I1, ⟨t, ?_⟩, ⟨rfl, rfl⟩, st', fun b hb => (hf b hb).1⟩⟩
    rw [Int.mul_one]
  done := by
    intro X hP hw hK hc i pins s σ H E I hf st hg
    subst hP hw hK
    obtain ⟨f0, f1, f2, f3, f4, f5⟩ := hf it (by simp)
    exact wpAny_pyNext_range_end (I.ok.hd hc) st (by have : n ≤ i := hg; omega) fun h' eb => ⟨rfl, I.turned (t' := s.toks) (fun b o hb e => eb b o hb e) f0 f1 f3 f4 f5⟩
  self := fun _ _ _ _ _ st h => wpAny_pyIter_rangeiter st h
end L2
namespace L2
open PySem PySem.Spec PyProof.Rows
section
variable {X : Cx} {tg : Expr}
def iList (K : PySem.W.Frag) (tl : TE) : TI := fun σ H R => tl σ H fun x H1 => ∃ a, x = .ref a ∧ (∃ xs, SqL K H1 a xs) ∧ R (Itl K a) H1
theorem pi_list {l : Expr} {tl : TE} (hl : PE X l tl) : PI X tg l (iList X.K tl) := by
  intro pins s σ H R I h
  refine thn (hl pins s σ H _ I h) fun v s1 ⟨x, H1, I1, r1, q1⟩ => ?_
  obtain ⟨a, e, ⟨xs, hq⟩, q⟩ := q1
  subst e
  cases r1
  obtain ⟨its, rv, p, hz⟩ := I1.list hq
  refine wpAny_pyIter_list p.isList ?_
  refine ⟨s1.heap.objs.size, [s1.heap.objs.size], _, _, H1, rfl, I1.kept (t' := s1.toks) fun b o e => Heap.get?_push_of_some _ e, turn_list a _, ⟨_, Heap.get?_push_size _ rfl, rfl, rfl⟩, fun b hb => ?_, q⟩
  have e : b = s1.heap.objs.size := by simpa using hb
  subst e
  exact I1.fpOk (Nat.le_refl _) (I1.hok.fresh (Nat.le_refl _))
/-- a range object just made, walked -/
theorem range_it {pins : List (Addr × Obj)} {σ : St} {H : Hp} {s : Shared} {R : It → Hp → Prop} {E : Value → Shared → Prop} {lo hi : Int} {t u v : Tok} {tk : Nat} (I : Inv X pins σ H s) (h1 : -(2 ^ 62) ≤ lo) (h2 : lo < 2 ^ 62) (h3 : -(2 ^ 62) ≤ hi) (h4 : hi < 2 ^ 62)
    (q : R (Itr lo (hi - lo).toNat) H) : wpAny (model X.prog X.w) X.A (pyIter (.ref s.heap.objs.size)) (PIE X pins σ tg R) E { s with heap := s.heap.push { cls := .type "range", data := .fields #[.int lo t, .int hi u, .int 1 v] }, toks := tk } := by
  refine wpAny_pyIter_range (IsRange.new ..) (small_one h1 h2 h3 h4) ?_
  have I1 : Inv X pins σ H { s with heap := s.heap.push { cls := .type "range", data := .fields #[.int lo t, .int hi u, .int 1 v] }, toks := tk } := I.kept fun b o e => Heap.get?_push_of_some _ e
  refine ⟨(s.heap.push { cls := .type "range", data := .fields #[.int lo t, .int hi u, .int 1 v] }).objs.size, [(s.heap.push { cls := .type "range", data := .fields #[.int lo t, .int hi u, .int 1 v] }).objs.size], _, _, H, rfl,
    I1.kept (t' := tk) fun b o e => Heap.get?_push_of_some _ e, turn_range _ lo (hi - lo).toNat, ?_, fun b hb => ?_, q⟩
  · have e1 : lo + ((0 : Nat) : Int) * 1 = lo := by simp
    have e2 : (((hi - lo).toNat : Nat) : Int) - ((0 : Nat) : Int) = Builtin.Range.rangeSize lo hi 1 := by rw [rangeSize_one]; split <;> omega
    show IsRangeIter _ _ (lo + ((0 : Nat) : Int) * 1) ((((hi - lo).toNat : Nat) : Int) - ((0 : Nat) : Int)) 1
    rw [e1, e2]
    exact Heap.get?_push_size _ rfl
  · have e : b = (s.heap.push { cls := .type "range", data := .fields #[.int lo t, .int hi u, .int 1 v] }).objs.size := by simpa using hb
    subst e
    exact I1.fpOk (Nat.le_refl _) (I1.hok.fresh (Nat.le_refl _))
def iRng1 (ta : TA) : TI := fun σ H R => ta σ H fun vs H1 => ∃ j : Int, vs = [.int j] ∧ -(2 ^ 62) ≤ j ∧ j < 2 ^ 62 ∧ R (Itr 0 j.toNat) H1
def iRng2 (ta : TA) : TI := fun σ H R => ta σ H fun vs H1 => ∃ i j : Int, vs = [.int i, .int j] ∧ (-(2 ^ 62) ≤ i ∧ i < 2 ^ 62 ∧ -(2 ^ 62) ≤ j ∧ j < 2 ^ 62) ∧ R (Itr i (j - i).toNat) H1
theorem pi_range1 {a : Expr} {ta : TA} {p pos : Pos} (hg : Gl X "range") (hm : X.mg "range" = none) (ha : PA X [a] ta) (hs : starEach [a] X.env = [(false, eval a X.env)] := by rfl) : PI X tg (.Call (.Name "range" p) [a] [] pos) (iRng1 ta) := by
  intro pins s σ H R I h
  refine Call_ (ld_blt I hg hm boot_range (PyProof.Rows.callWith_type1 (thn (ha pos pins s σ H _ I h) fun us s1 ⟨vs, H1, I1, r1, q1⟩ => ?_) hs rfl))
  obtain ⟨j, e, q1, q2, q⟩ := q1
  subst e
  cases r1 with
  | cons r rr =>
    cases rr
    obtain ⟨t, rfl⟩ := r
    exact call_range_1 (range_it I1 (by omega) (by omega) q1 q2 (by simpa using q))
theorem pi_range2 {a b : Expr} {ta : TA} {p pos : Pos} (hg : Gl X "range") (hm : X.mg "range" = none) (ha : PA X [a, b] ta) (hs : starEach [a, b] X.env = [(false, eval a X.env), (false, eval b X.env)] := by rfl) (hs2 : starEach [b] X.env = [(false, eval b X.env)] := by rfl) :
    PI X tg (.Call (.Name "range" p) [a, b] [] pos) (iRng2 ta) := by
  intro pins s σ H R I h
  refine Call_ (ld_blt I hg hm boot_range (PyProof.Rows.callWith_type1 (thn (ha pos pins s σ H _ I h) fun us s1 ⟨vs, H1, I1, r1, q1⟩ => ?_) (by rw [hs, hs2]) (by rw [hs2]; rfl)))
  obtain ⟨i, j, e, ⟨q1, q2, q3, q4⟩, q⟩ := q1
  subst e
  cases r1 with
  | cons r rr =>
    cases rr with
    | cons r' rr =>
      cases rr
      obtain ⟨t, rfl⟩ := r
      obtain ⟨t', rfl⟩ := r'
      exact call_range_2 (range_it I1 q1 q2 q3 q4 q)
/-! ### for -/
/-- W: the invariant by the turn and a measure; N: what the body is to reach -/
def tFor (wi : TI) (g : TG) (tb : TS) : TS := fun D σ H => wi σ H fun J H1 => ∃ W : Nat → Nat → St → Hp → Prop, (∃ m, W 0 m σ H1) ∧ ∀ i m σ H, W i m σ H →
  (J.stop i H ∧ D.nx σ H) ∨ (J.go i H ∧ ∃ N : St → Hp → Prop, (∀ σ' H', N σ' H' → ∃ m', m' < m ∧ W (i + 1) m' σ' H') ∧ ∀ x H', J.yld i H x H' → g x σ H' fun σ2 H2 => tb { D with nx := N, ct := N, bk := D.nx } σ2 H2)
/-- the records at fp as they stand -/
def pinsAt (fp : List Addr) (h : Heap) : List (Addr × Obj) := fp.filterMap fun b => (h.get? b).map fun o => (b, o)
theorem mem_pinsAt {fp : List Addr} {h : Heap} {b : Addr} {o : Obj} (hb : b ∈ fp) (e : h.get? b = some o) : (b, o) ∈ pinsAt fp h := List.mem_filterMap.mpr ⟨b, hb, by rw [e]; rfl⟩
theorem of_pinsAt {fp : List Addr} {h : Heap} {p : Addr × Obj} (hp : p ∈ pinsAt fp h) : p.1 ∈ fp ∧ h.get? p.1 = some p.2 := by
  obtain ⟨b, hb, e⟩ := List.mem_filterMap.mp hp
  cases q : h.get? b with
  | none => rw [q] at e; cases e
  | some o =>
    rw [q] at e
    have e' : (b, o) = p := Option.some.inj e
    subst e'
    exact ⟨hb, q⟩
theorem Inv.pinned {pins : List (Addr × Obj)} {σ : St} {H : Hp} {s : Shared} {fp : List Addr} (I : Inv X pins σ H s) (hf : ∀ b ∈ fp, FpOk X pins H b) (ho : ∀ b ∈ fp, ∃ o, s.heap.get? b = some o ∧ ∀ v, o.data ≠ .cell v) : Inv X (pins ++ pinsAt fp s.heap) σ H s :=
  I.pins_of fun p hp => (List.mem_append.mp hp).elim (fun z => I.pin p (List.mem_append_right _ z)) fun z => by
    obtain ⟨hb, e⟩ := of_pinsAt z
    obtain ⟨f0, f1, f2, _⟩ := hf p.1 hb
    obtain ⟨o, e', d⟩ := ho p.1 hb
    rw [e] at e'; cases e'
    exact ⟨e, f0, f1, f2, d⟩
theorem Inv.unpinned {pins pl : List (Addr × Obj)} {σ : St} {H : Hp} {s : Shared} (I : Inv X (pins ++ pl) σ H s) : Inv X pins σ H s := I.pins_of fun p hp => I.pin p (List.mem_append_right _ (List.mem_append_left _ hp))
theorem ps_for {iter : Expr} {body : List Stmt} {wi : TI} {g : TG} {tb : TS} {pos : Pos} (hp : PassesOwn (model X.prog X.w) X.A X.env X.xe) (hc : X.calm = true) (hi : PI X tg iter wi) (hg : PG X tg g) (hb : PSs X body tb)
    (hs : ∀ x, foldedSetIterable iter X.env x = pure x := by intro _; rfl) : PS X (.For tg iter body [] pos) (tFor wi g tb) := by
  intro pins s σ H D I h
  refine wpAny_For (thn (hi pins s σ H _ I h) fun v s1 h1 => thn h1 fun itv s2 h2 => ?_) hs
  obtain ⟨it, fp, tn, J, H2, e, I2, T, st2, f2, W, ⟨m0, w0⟩, turn⟩ := h2
  subst e
  -- what stays true of the iterator's objects through the loop
  have stat : ∀ {H' : Hp}, (∀ b ∈ fp, H' b = none) → ∀ b ∈ fp, FpOk X pins H' b := fun hn b hb => ⟨hn b hb, (f2 b hb).2⟩
  refine codeAny_forLoop_any (fun n s' => ∃ i σ' H', Inv X pins σ' H' s' ∧ tn i s'.heap ∧ (∀ b ∈ fp, H' b = none) ∧ W i n σ' H') ?_ m0 ⟨0, σ, H2, I2, st2, fun b hb => (f2 b hb).1, w0⟩
  rintro n s3 ⟨i, σ3, H3, I3, st3, fr3, w3⟩
  rcases turn i n σ3 H3 w3 with ⟨stop, qn⟩ | ⟨go, N, hN, step⟩
  · refine wpAny_passesOwn hp (thn (T.done X rfl rfl rfl hc i pins s3 σ3 H3 X.xe I3 (stat fr3) st3 stop) fun r s4 ⟨hr, I4⟩ => ?_)
    subst hr
    exact wpAny_execs_nil ⟨σ3, H3, I4, qn⟩
  · refine wpAny_passesOwn hp (thn (T.item X rfl rfl rfl hc i pins s3 σ3 H3 X.xe I3 (stat fr3) st3 go) fun r s4 ⟨u, hr, h4⟩ => ?_)
    subst hr
    refine wpAny_passesOwn hp (thn h4 fun _ s5 ⟨x, H5, I5, r5, y5, st5, fr5⟩ => ?_)
    have I5' := I5.pinned (stat fr5) (T.obj _ _ st5)
    refine wpAny_passesOwn hp (thn (hg _ s5 σ3 H5 x u _ I5' r5 (step x H5 y5)) fun _ s6 ⟨σ6, H6, I6, q6⟩ => ?_)
    refine wpAny_passesOwn hp (thn (hb _ s6 σ6 H6 _ I6 q6) fun f s7 q7 => ?_)
    have again : ∀ {σ7 : St} {H7 : Hp}, Inv X (pins ++ pinsAt fp s5.heap) σ7 H7 s7 → N σ7 H7 → ∃ m, m < n ∧ ∃ i σ' H', Inv X pins σ' H' s7 ∧ tn i s7.heap ∧ (∀ b ∈ fp, H' b = none) ∧ W i m σ' H' := fun {σ7 H7} I7 n7 => by
      obtain ⟨m', hm, w7⟩ := hN σ7 H7 n7
      refine ⟨m', hm, i + 1, σ7, H7, I7.unpinned, T.keep _ _ _ st5 fun b hb o e => (I7.pin (b, o) (List.mem_append_right _ (List.mem_append_right _ (mem_pinsAt hb e)))).1, fun b hb => ?_, w7⟩
      obtain ⟨o, e, d⟩ := T.obj _ _ st5 b hb
      exact (I7.pin (b, o) (List.mem_append_right _ (List.mem_append_right _ (mem_pinsAt hb e)))).2.1
    cases f with
    | next => obtain ⟨σ7, H7, I7, n7⟩ := q7; exact again I7 n7
    | cont => obtain ⟨σ7, H7, I7, n7⟩ := q7; exact again I7 n7
    | brk => obtain ⟨σ7, H7, I7, q7⟩ := q7; exact ⟨σ7, H7, I7.unpinned, q7⟩
    | ret v => obtain ⟨x7, σ7, H7, I7, r7, q7⟩ := q7; exact ⟨x7, σ7, H7, I7.unpinned, r7, q7⟩
end
/-! ### the forms one uses -/
/-- over a list that the body leaves as it is -/
theorem for_list {K : PySem.W.Frag} {a : Addr} {xs : List V} {g : TG} {tb : TS} {D : Ends} {σ : St} {H : Hp} (Pv : Nat → St → Hp → Prop) (h0 : Pv 0 σ H) (hl : ∀ i σ H, i ≤ xs.length → Pv i σ H → SqL K H a xs)
    (hs : ∀ i x σ H, xs[i]? = some x → Pv i σ H → g x σ H fun σ2 H2 => tb { D with nx := Pv (i + 1), ct := Pv (i + 1), bk := D.nx } σ2 H2) (hd : ∀ σ H, Pv xs.length σ H → D.nx σ H) :
    ∃ W : Nat → Nat → St → Hp → Prop, (∃ m, W 0 m σ H) ∧ ∀ i m σ H, W i m σ H →
      ((Itl K a).stop i H ∧ D.nx σ H) ∨ ((Itl K a).go i H ∧ ∃ N : St → Hp → Prop, (∀ σ' H', N σ' H' → ∃ m', m' < m ∧ W (i + 1) m' σ' H') ∧ ∀ x H', (Itl K a).yld i H x H' → g x σ H' fun σ2 H2 => tb { D with nx := N, ct := N, bk := D.nx } σ2 H2) := by
  refine ⟨fun i m σ H => m = xs.length - i ∧ i ≤ xs.length ∧ Pv i σ H, ⟨xs.length, by simp, Nat.zero_le _, h0⟩, ?_⟩
  rintro i m σ H ⟨rfl, hi, p⟩
  have q := hl i σ H hi p
  by_cases hlt : i < xs.length
  · refine .inr ⟨⟨xs, xs[i], q, by simp [hlt]⟩, Pv (i + 1), fun σ' H' p' => ⟨xs.length - (i + 1), by omega, rfl, hlt, p'⟩, fun x H' y => ?_⟩
    obtain ⟨e, y⟩ := y
    subst e
    exact hs i x σ _ (y xs q) p
  · have e : i = xs.length := by omega
    subst e
    exact .inl ⟨⟨xs, q, Nat.le_refl _⟩, hd σ H p⟩
theorem for_range {lo : Int} {n : Nat} {g : TG} {tb : TS} {D : Ends} {σ : St} {H : Hp} (Pv : Nat → St → Hp → Prop) (h0 : Pv 0 σ H)
    (hs : ∀ i σ H, i < n → Pv i σ H → g (.int (lo + i)) σ H fun σ2 H2 => tb { D with nx := Pv (i + 1), ct := Pv (i + 1), bk := D.nx } σ2 H2) (hd : ∀ σ H, Pv n σ H → D.nx σ H) :
    ∃ W : Nat → Nat → St → Hp → Prop, (∃ m, W 0 m σ H) ∧ ∀ i m σ H, W i m σ H →
      ((Itr lo n).stop i H ∧ D.nx σ H) ∨ ((Itr lo n).go i H ∧ ∃ N : St → Hp → Prop, (∀ σ' H', N σ' H' → ∃ m', m' < m ∧ W (i + 1) m' σ' H') ∧ ∀ x H', (Itr lo n).yld i H x H' → g x σ H' fun σ2 H2 => tb { D with nx := N, ct := N, bk := D.nx } σ2 H2) := by
  refine ⟨fun i m σ H => m = n - i ∧ i ≤ n ∧ Pv i σ H, ⟨n, by simp, Nat.zero_le _, h0⟩, ?_⟩
  rintro i m σ H ⟨rfl, hi, p⟩
  by_cases hlt : i < n
  · refine .inr ⟨hlt, Pv (i + 1), fun σ' H' p' => ⟨n - (i + 1), by omega, rfl, hlt, p'⟩, fun x H' y => ?_⟩
    obtain ⟨e, y⟩ := y
    subst e y
    exact hs i σ _ hlt p
  · have e : i = n := by omega
    subst e
    exact .inl ⟨Nat.le_refl _, hd σ H p⟩
end L2
namespace L2
open PySem PySem.Spec PyProof.Rows
abbrev R2 := V → V → Hp → VK → Prop
/-- a two-place operation on values: f is binaryOp op, inplaceOp op or compareOp op -/
def OpR (X : Cx) (f : Value → Value → Sem Value) (r : R2) : Prop :=
  ∀ (pins : List (Addr × Obj)) (s : Shared) (σ : St) (H : Hp) (x y : V) (v u : Value) (Q : VK), Inv X pins σ H s → RelV x v → RelV y u → r x y H Q →
    wpAny (model X.prog X.w) X.A (f v u) (EP X pins σ Q) X.xe s
/-- a one-place operation -/
def UnR (X : Cx) (f : Value → Sem Value) (r : V → Hp → VK → Prop) : Prop :=
  ∀ (pins : List (Addr × Obj)) (s : Shared) (σ : St) (H : Hp) (x : V) (v : Value) (Q : VK), Inv X pins σ H s → RelV x v → r x H Q →
    wpAny (model X.prog X.w) X.A (f v) (EP X pins σ Q) X.xe s
/-- a call of a value that is known (a builtin, a type) with values -/
def CallR (X : Cx) (f : Value) (r : List V → Hp → VK → Prop) : Prop :=
  ∀ (pins : List (Addr × Obj)) (s : Shared) (σ : St) (H : Hp) (xs : List V) (us : List Value) (Q : VK), Inv X pins σ H s → Vals xs us → r xs H Q →
    wpAny (model X.prog X.w) X.A (call f us) (EP X pins σ Q) X.xe s
def tOp (r : R2) (ta tb : TE) : TE := fun σ H Q => ta σ H fun x H1 => tb σ H1 fun y H2 => r x y H2 Q
def tUn (r : V → Hp → VK → Prop) (ta : TE) : TE := fun σ H Q => ta σ H fun x H1 => r x H1 Q
/-- ints in, under C, and a value out -/
def rI (C : Int → Int → Prop) (g : Int → Int → V) : R2 := fun x y H Q => ∃ i j, x = .int i ∧ y = .int j ∧ C i j ∧ Q (g i j) H
def rI0 (g : Int → Int → V) : R2 := fun x y H Q => ∃ i j, x = .int i ∧ y = .int j ∧ Q (g i j) H
def rU (g : Int → V) : V → Hp → VK → Prop := fun x H Q => ∃ i, x = .int i ∧ Q (g i) H
section
variable {X : Cx} {a b c : Expr} {ta tb tc : TE} {pos : Pos}
theorem binT (ha : PE X a ta) (hb : PE X b tb) {pins : List (Addr × Obj)} {s : Shared} {σ : St} {H : Hp} {R : V → V → Hp → Prop} (I : Inv X pins σ H s)
    (h : ta σ H fun x H1 => tb σ H1 fun y H2 => R x y H2) {Q : Value → Shared → Prop} {f : Value → Value → Sem Value}
    (hf : ∀ v u s2 x y H2, Inv X pins σ H2 s2 → RelV x v → RelV y u → R x y H2 → wpAny (model X.prog X.w) X.A (f v u) Q X.xe s2) :
    wpAny (model X.prog X.w) X.A (eval a X.env) (fun v s₁ => wpAny (model X.prog X.w) X.A (eval b X.env) (fun u s₂ => wpAny (model X.prog X.w) X.A (f v u) Q X.xe s₂) X.xe s₁) X.xe s := by
  refine thn (ha pins s σ H _ I h) fun v s1 ⟨x, H1, I1, r1, q1⟩ => ?_
  refine thn (hb pins s1 σ H1 _ I1 q1) fun u s2 ⟨y, H2, I2, r2, q2⟩ => ?_
  exact hf v u s2 x y H2 I2 r1 r2 q2
theorem pe_op {op : Operator} {r : R2} (ho : OpR X (binaryOp op) r) (ha : PE X a ta) (hb : PE X b tb) : PE X (.BinOp a op b pos) (tOp r ta tb) := by
  intro pins s σ H Q I h
  exact wpAny_BinOp (binT ha hb I h fun v u s2 x y H2 I2 rx ry q => ho pins s2 σ H2 x y v u Q I2 rx ry q)
theorem pe_un {op : UnaryOp} {r : V → Hp → VK → Prop} (ho : UnR X (unaryOp op) r) (ha : PE X a ta) : PE X (.UnaryOp op a pos) (tUn r ta) := by
  intro pins s σ H Q I h
  exact UnaryOp_ (thn (ha pins s σ H _ I h) fun v s1 ⟨x, H1, I1, r1, q1⟩ => ho pins s1 σ H1 x v Q I1 r1 q1)
/-! ### ints -/
theorem opI {f : Value → Value → Sem Value} {C : Int → Int → Prop} {g : Int → Int → Int}
    (rule : ∀ (i j : Int) (t u : Tok) (s : Shared) (Q : Value → Shared → Prop) (E : Value → Shared → Prop), C i j → Q (.int (g i j) s.toks) { s with toks := s.toks + 1 } → wpAny (model X.prog X.w) X.A (f (.int i t) (.int j u)) Q E s) :
    OpR X f (rI C fun i j => .int (g i j)) := by
  intro pins s σ H x y v u Q I rx ry h
  obtain ⟨i, j, rfl, rfl, hc, q⟩ := h
  obtain ⟨t, rfl⟩ := rx
  obtain ⟨t', rfl⟩ := ry
  exact rule i j t t' s _ _ hc ⟨.int (g i j), H, I.tok _, ⟨_, rfl⟩, q⟩
theorem opI0 {f : Value → Value → Sem Value} {g : Int → Int → Int}
    (rule : ∀ (i j : Int) (t u : Tok) (s : Shared) (Q : Value → Shared → Prop) (E : Value → Shared → Prop), Q (.int (g i j) s.toks) { s with toks := s.toks + 1 } → wpAny (model X.prog X.w) X.A (f (.int i t) (.int j u)) Q E s) :
    OpR X f (rI0 fun i j => .int (g i j)) := by
  intro pins s σ H x y v u Q I rx ry h
  obtain ⟨i, j, rfl, rfl, q⟩ := h
  obtain ⟨t, rfl⟩ := rx
  obtain ⟨t', rfl⟩ := ry
  exact rule i j t t' s _ _ ⟨.int (g i j), H, I.tok _, ⟨_, rfl⟩, q⟩
theorem opB0 {f : Value → Value → Sem Value} {g : Int → Int → Bool}
    (rule : ∀ (i j : Int) (t u : Tok) (s : Shared) (Q : Value → Shared → Prop) (E : Value → Shared → Prop), Q (.bool (g i j)) s → wpAny (model X.prog X.w) X.A (f (.int i t) (.int j u)) Q E s) :
    OpR X f (rI0 fun i j => .bl (g i j)) := by
  intro pins s σ H x y v u Q I rx ry h
  obtain ⟨i, j, rfl, rfl, q⟩ := h
  obtain ⟨t, rfl⟩ := rx
  obtain ⟨t', rfl⟩ := ry
  exact rule i j t t' s _ _ ⟨.bl (g i j), H, I, rfl, q⟩
def CPow (i j : Int) : Prop := 0 ≤ j ∧ j ≤ 1000000 ∧ i.natAbs < 2 ^ 64
def CMul (i j : Int) : Prop := (-(2 ^ 64) < i ∧ i < 2 ^ 64) ∨ (-(2 ^ 64) < j ∧ j < 2 ^ 64)
theorem CMul.ok {i j : Int} (h : CMul i j) : IntMulOk i j := by
  rcases h with ⟨h1, h2⟩ | ⟨h1, h2⟩
  · exact .of_left (intBits_le_64 h1 h2)
  · exact .of_right (intBits_le_64 h1 h2)
theorem op_add : OpR X (binaryOp .Add) (rI0 fun i j => .int (i + j)) := opI0 fun _ _ _ _ _ _ _ q => add_int q
theorem op_sub : OpR X (binaryOp .Sub) (rI0 fun i j => .int (i - j)) := opI0 fun _ _ _ _ _ _ _ q => sub_int q
theorem op_mul : OpR X (binaryOp .Mult) (rI CMul fun i j => .int (i * j)) := opI fun _ _ _ _ _ _ _ hc q => mul_int q hc.ok
/-- % by a positive divisor of any size -/
theorem op_mod : OpR X (binaryOp .Mod) (rI (fun _ j => 0 < j) fun i j => .int (i % j)) := opI fun i j _ _ _ _ _ hc q => by
  have h1 : (0 : Int) < j := hc
  exact mod_int' (by omega) (by rw [Int.fmod_eq_emod_of_nonneg i (by omega)]; exact q)
theorem op_pow : OpR X (binaryOp .Pow) (rI CPow fun i j => .int (i ^ j.toNat)) := opI fun _ _ _ _ _ _ _ hc q => pow_int_small hc.1 hc.2.1 hc.2.2 q
theorem unI {f : Value → Sem Value} {g : Int → Int}
    (rule : ∀ (i : Int) (t : Tok) (s : Shared) (Q : Value → Shared → Prop) (E : Value → Shared → Prop), Q (.int (g i) s.toks) { s with toks := s.toks + 1 } → wpAny (model X.prog X.w) X.A (f (.int i t)) Q E s) :
    UnR X f (rU fun i => .int (g i)) := by
  intro pins s σ H x v Q I rx h
  obtain ⟨i, rfl, q⟩ := h
  obtain ⟨t, rfl⟩ := rx
  exact rule i t s _ _ ⟨.int (g i), H, I.tok _, ⟨_, rfl⟩, q⟩
theorem un_neg : UnR X (unaryOp .USub) (rU fun i => .int (-i)) := unI fun _ _ _ _ _ q => neg_int q
/-! ### bools among ints: n += (a < b) -/
end
/-! ### comparisons -/
/-- the scalars that == tells apart as data does -/
def scal : V → V → Bool
  | .non, .non => true | .non, .int _ => true | .int _, .non => true | .non, .bl _ => true | .bl _, .non => true | .non, .str _ => true | .str _, .non => true
  | .int _, .int _ => true | .bl _, .bl _ => true | .str _, .str _ => true | .byt _, .byt _ => true
  | .int _, .str _ => true | .str _, .int _ => true | .bl _, .str _ => true | .str _, .bl _ => true
  | _, _ => false
def rEq : R2 := fun x y H Q => scal x y = true ∧ Q (.bl (decide (x = y))) H
def rNe : R2 := fun x y H Q => scal x y = true ∧ Q (.bl (!decide (x = y))) H
theorem dec_int {i j : Int} : decide (V.int i = V.int j) = (i == j) := by
  rw [Bool.eq_iff_iff]
  simp
theorem dec_bl {i j : Bool} : decide (V.bl i = V.bl j) = (i == j) := by
  rw [Bool.eq_iff_iff]
  simp
theorem dec_str {i j : Str} : decide (V.str i = V.str j) = (i == j) := by
  rw [Bool.eq_iff_iff]
  simp
theorem dec_byt {i j : Array UInt8} : decide (V.byt i = V.byt j) = (i.toList == j.toList) := by
  rw [Bool.eq_iff_iff]
  cases i
  cases j
  simp
section
variable {X : Cx} {a b c : Expr} {ta tb tc : TE} {pos : Pos}
theorem fin_bl {pins : List (Addr × Obj)} {σ : St} {H : Hp} {s : Shared} {Q : VK} {k k' : Bool} (I : Inv X pins σ H s) (q : Q (.bl k) H) (e : k = k') : EP X pins σ Q (.bool k') s := by
  subst e
  exact ⟨.bl k, H, I, rfl, q⟩
theorem op_eq : OpR X (compareOp .Eq) rEq := by
  intro pins s σ H x y v u Q I rx ry h
  obtain ⟨hs, q⟩ := h
  cases x with
  | non =>
    cases rx
    cases y with
    | non => cases ry; exact PySem.EqNone.eq_none_none (fin_bl I q (by simp))
    | bl j => cases ry; exact PySem.EqNone.eq_none_bool (fin_bl I q (by simp))
    | int j => obtain ⟨t', rfl⟩ := ry; exact PySem.EqNone.eq_none_int (fin_bl I q (by simp))
    | str j => obtain ⟨t', rfl⟩ := ry; exact PySem.EqNone.eq_none_str (fin_bl I q (by simp))
    | _ => exact absurd (show false = true from hs) Bool.false_ne_true
  | bl i =>
    cases rx
    cases y with
    | non => cases ry; exact PySem.EqNone.eq_bool_none (fin_bl I q (by simp))
    | bl j => cases ry; exact eq_bool (fin_bl I q dec_bl)
    | str j => obtain ⟨t', rfl⟩ := ry; exact PySem.EqMixed.eq_bool_str (fin_bl I q (by simp))
    | _ => exact absurd (show false = true from hs) Bool.false_ne_true
  | int i =>
    obtain ⟨t, rfl⟩ := rx
    cases y with
    | non => cases ry; exact PySem.EqNone.eq_int_none (fin_bl I q (by simp))
    | int j => obtain ⟨t', rfl⟩ := ry; exact eq_int (fin_bl I q dec_int)
    | str j => obtain ⟨t', rfl⟩ := ry; exact PySem.EqMixed.eq_int_str (fin_bl I q (by simp))
    | _ => exact absurd (show false = true from hs) Bool.false_ne_true
  | str i =>
    obtain ⟨t, rfl⟩ := rx
    cases y with
    | non => cases ry; exact PySem.EqNone.eq_str_none (fin_bl I q (by simp))
    | bl j => cases ry; exact PySem.EqMixed.eq_str_bool (fin_bl I q (by simp))
    | int j => obtain ⟨t', rfl⟩ := ry; exact PySem.EqMixed.eq_str_int (fin_bl I q (by simp))
    | str j => obtain ⟨t', rfl⟩ := ry; exact eq_str (fin_bl I q dec_str)
    | _ => exact absurd (show false = true from hs) Bool.false_ne_true
  | byt i =>
    obtain ⟨t, rfl⟩ := rx
    cases y with
    | byt j => obtain ⟨t', rfl⟩ := ry; exact PySem.W.eq_bytes (fin_bl I q dec_byt)
    | _ => exact absurd (show false = true from hs) Bool.false_ne_true
  | _ => cases y <;> exact absurd (show false = true from hs) Bool.false_ne_true
theorem op_ne : OpR X (compareOp .NotEq) rNe := by
  intro pins s σ H x y v u Q I rx ry h
  obtain ⟨hs, q⟩ := h
  cases x with
  | non =>
    cases rx
    cases y with
    | non => cases ry; exact PySem.EqNone.ne_none_none (fin_bl I q (by simp))
    | bl j => cases ry; exact PySem.EqNone.ne_none_bool (fin_bl I q (by simp))
    | int j => obtain ⟨t', rfl⟩ := ry; exact PySem.EqNone.ne_none_int (fin_bl I q (by simp))
    | str j => obtain ⟨t', rfl⟩ := ry; exact PySem.EqNone.ne_none_str (fin_bl I q (by simp))
    | _ => exact absurd (show false = true from hs) Bool.false_ne_true
  | bl i =>
    cases rx
    cases y with
    | non => cases ry; exact PySem.EqNone.ne_bool_none (fin_bl I q (by simp))
    | bl j => cases ry; exact ne_bool (fin_bl I q (congrArg not dec_bl))
    | str j => obtain ⟨t', rfl⟩ := ry; exact PySem.EqMixed.ne_bool_str (fin_bl I q (by simp))
    | _ => exact absurd (show false = true from hs) Bool.false_ne_true
  | int i =>
    obtain ⟨t, rfl⟩ := rx
    cases y with
    | non => cases ry; exact PySem.EqNone.ne_int_none (fin_bl I q (by simp))
    | int j => obtain ⟨t', rfl⟩ := ry; exact ne_int (fin_bl I q (congrArg not dec_int))
    | str j => obtain ⟨t', rfl⟩ := ry; exact PySem.EqMixed.ne_int_str (fin_bl I q (by simp))
    | _ => exact absurd (show false = true from hs) Bool.false_ne_true
  | str i =>
    obtain ⟨t, rfl⟩ := rx
    cases y with
    | non => cases ry; exact PySem.EqNone.ne_str_none (fin_bl I q (by simp))
    | bl j => cases ry; exact PySem.EqMixed.ne_str_bool (fin_bl I q (by simp))
    | int j => obtain ⟨t', rfl⟩ := ry; exact PySem.EqMixed.ne_str_int (fin_bl I q (by simp))
    | str j => obtain ⟨t', rfl⟩ := ry; exact ne_str (fin_bl I q (congrArg not dec_str))
    | _ => exact absurd (show false = true from hs) Bool.false_ne_true
  | byt i =>
    obtain ⟨t, rfl⟩ := rx
    cases y with
    | byt j => obtain ⟨t', rfl⟩ := ry; exact PySem.W.ne_bytes (fin_bl I q (congrArg not dec_byt))
    | _ => exact absurd (show false = true from hs) Bool.false_ne_true
  | _ => cases y <;> exact absurd (show false = true from hs) Bool.false_ne_true
theorem op_lt : OpR X (compareOp .Lt) (rI0 fun i j => .bl (decide (i < j))) := opB0 fun _ _ _ _ _ _ _ q => lt_int q
theorem op_le : OpR X (compareOp .LtE) (rI0 fun i j => .bl (decide (i ≤ j))) := opB0 fun _ _ _ _ _ _ _ q => le_int q
theorem op_gt : OpR X (compareOp .Gt) (rI0 fun i j => .bl (decide (j < i))) := opB0 fun _ _ _ _ _ _ _ q => gt_int q
/-- the one string within the other -/
theorem op_in_str : OpR X (compareOp .In) (fun x y H Q => ∃ i j, x = .str i ∧ y = .str j ∧ Q (.bl (!(Builtin.Str.occurrences j i 0 j.length 1).isEmpty)) H) := by
  intro pins s σ H x y v u Q I rx ry h
  obtain ⟨i, j, rfl, rfl, q⟩ := h
  obtain ⟨t, rfl⟩ := rx
  obtain ⟨t', rfl⟩ := ry
  exact in_str (fin_bl I q rfl)
/-- two rules for one operation: by cases -/
theorem OpR.or {f : Value → Value → Sem Value} {r r' : R2} (h : OpR X f r) (h' : OpR X f r') : OpR X f (fun x y H Q => r x y H Q ∨ r' x y H Q) := by
  intro pins s σ H x y v u Q I rx ry q
  rcases q with q | q
  · exact h pins s σ H x y v u Q I rx ry q
  · exact h' pins s σ H x y v u Q I rx ry q
theorem nomark (b : Expr) {op : CmpOp} (h : op ≠ .In := by decide) (h2 : op ≠ .NotIn := by decide) : behindInMarks op b = false := by
  have e1 : (op == CmpOp.In) = false := by cases op <;> first | rfl | exact absurd rfl h
  have e2 : (op == CmpOp.NotIn) = false := by cases op <;> first | rfl | exact absurd rfl h2
  cases b <;> simp [behindInMarks, e1, e2]
/-- a comparison as a value; hm: nomark b, or (for in, not in) by with_unfolding_all rfl -/
theorem pe_cmpR {op : CmpOp} {r : R2} (ho : OpR X (compareOp op) r) (ha : PE X a ta) (hb : PE X b tb) (hm : behindInMarks op b = false) : PE X (.Compare a [op] [b] pos) (tOp r ta tb) := by
  intro pins s σ H Q I h
  exact wpAny_Compare1 (binT ha hb I h fun v u s2 x y H2 I2 rx ry q => ho pins s2 σ H2 x y v u Q I2 rx ry q) hm
/-- a reading of a value as a test -/
def tTest (t : TE) : TT := fun σ H Q => t σ H fun x H' => ∃ k, x = .bl k ∧ Q k H'
theorem pt_cmpR {op : CmpOp} {r : R2} (ho : OpR X (compareOp op) r) (ha : PE X a ta) (hb : PE X b tb) (hm : behindInMarks op b = false) : PT X (.Compare a [op] [b] pos) (tTest (tOp r ta tb)) := by
  intro pins s σ H Q I h
  refine wpAny_isTrue_Compare1 (thn (ha pins s σ H _ I h) fun v s1 ⟨x, H1, I1, r1, q1⟩ => thn (hb pins s1 σ H1 _ I1 q1) fun u s2 ⟨y, H2, I2, r2, q2⟩ =>
    thn (ho pins s2 σ H2 x y v u _ I2 r1 r2 q2) fun c s3 ⟨z, H3, I3, r3, k, e, q3⟩ => ?_) hm
  subst e
  cases r3
  exact wpAny_truthy_bool ⟨H3, I3, q3⟩
/-- a op1 b op2 c -/
def tChain (r r' : R2) (ta tb tc : TE) : TE := fun σ H Q => ta σ H fun x H1 => tb σ H1 fun y H2 => r x y H2 fun z H3 => ∃ k, z = .bl k ∧
  (if k = true then tc σ H3 fun w' H4 => r' y w' H4 Q else Q (.bl false) H3)
/-! ### truth -/
theorem line63 : (sizeLine : Nat) < 2 ^ 63 := by rw [sizeLine_eq]; decide
/-! ### strs and bytes -/
theorem op_add_str : OpR X (binaryOp .Add) (fun x y H Q => ∃ i j, x = .str i ∧ y = .str j ∧ i.length + j.length ≤ sizeLine ∧ Q (.str (i ++ j)) H) := by
  intro pins s σ H x y v u Q I rx ry h
  obtain ⟨i, j, rfl, rfl, hz, q⟩ := h
  obtain ⟨t, rfl⟩ := rx
  obtain ⟨t', rfl⟩ := ry
  exact add_str (fun t' tk => ⟨.str (i ++ j), H, I.tok _, ⟨_, rfl⟩, q⟩) hz
/-! ### scalar builtins, by CallR -/
theorem vals1 {x : V} {us : List Value} (r : Vals [x] us) : ∃ u, us = [u] ∧ RelV x u := by
  cases r with
  | cons r1 r2 => cases r2; exact ⟨_, rfl, r1⟩
theorem vals2 {x y : V} {us : List Value} (r : Vals [x, y] us) : ∃ u w', us = [u, w'] ∧ RelV x u ∧ RelV y w' := by
  cases r with
  | cons r1 r2 =>
    cases r2 with
    | cons r3 r4 => cases r4; exact ⟨_, _, rfl, r1, r3⟩
theorem call_str_int : CallR X (.type "str") (fun xs H Q => ∃ i, xs = [.int i] ∧ i.natAbs.log2 < 1920 ∧ Q (.str (toString i)) H) := by
  intro pins s σ H xs us Q I r h
  obtain ⟨i, rfl, hz, q⟩ := h
  obtain ⟨u, rfl, t, rfl⟩ := vals1 r
  exact PySem.P.str_of_int hz ⟨.str _, H, I.tok _, ⟨_, rfl⟩, q⟩
end
end L2
namespace L2
open PySem PySem.Spec PyProof.Rows
/-! ### an instance, its attributes a map -/
structure ObjM (h : Heap) (x dx C : Addr) (mA : Str → Option Value) : Prop where
  obj : h.get? x = some (PySem.W.instObj C dx)
  ns : h.Ns1 dx mA
  ne : dx ≠ x
theorem lookIn_ns {h : Heap} {dx : Addr} {mA : Str → Option Value} (n : h.Ns1 dx mA) : ∃ od, h.get? dx = some od ∧ ∀ name, PySem.W.lookIn name od = some (mA name) := by
  obtain ⟨o, es, ep, ho, hd, hk, _, hm⟩ := n
  refine ⟨o, ho, fun name => ?_⟩
  have e := hm name
  unfold nsFind findBy at e
  rw [← Array.find?_toList] at e
  unfold PySem.W.lookIn
  rw [hd]
  dsimp only
  split
  · rename_i y q
    rw [q] at e
    exact congrArg some e
  · rename_i q
    rw [q] at e
    have a : es.toList.any (·.refKey) = false := by
      rw [List.any_eq_false]
      intro y hy
      obtain ⟨z, t, hkey⟩ := hk y (Array.mem_toList_iff.mp hy)
      simp [DictEntry.refKey, hkey]
    have a' : ¬ es.toList.any (·.refKey) = true := by rw [a]; exact Bool.false_ne_true
    rw [if_neg a']
    exact congrArg some e
theorem ObjM.look {h : Heap} {x dx C : Addr} {mA : Str → Option Value} (I : ObjM h x dx C mA) : ∃ od, PySem.W.InstAt h x (PySem.W.instObj C dx) C (some od) ∧ ∀ name, PySem.W.lookIn name od = some (mA name) :=
  let ⟨od, ho, hl⟩ := lookIn_ns I.ns
  ⟨od, ⟨I.obj, rfl, rfl, ho⟩, hl⟩
section
variable {prog : Program} {w : World} {A : Around} {E : Value → Shared → Prop} {s : Shared} {K : PySem.W.Frag} {x dx C f : Addr} {mA : Str → Option Value} {name : Str} {v : Value}
theorem get_map {expr : Bool} {Q : Value → Shared → Prop} (X : K.In s.heap) (I : ObjM s.heap x dx C mA) (hg : PySem.W.plainGet K C name = true) (hh : PySem.W.hasDictIn K C = true)
    (ha : PySem.W.findIn K (.ref C) name = some none) (hv : mA name = some v) (hv' : PySem.W.handedIn v = true) (h : Q v { s with toks := s.toks + 1 }) :
    wpAny (model prog w) A (getAttr (.ref x) name expr) Q E s := by
  obtain ⟨od, J, hl⟩ := I.look
  exact PySem.W.get_value X J (PySem.W.plainGet_of hg).1 (PySem.W.findObj_own hh ha rfl (by rw [hl, hv])) hv' h
theorem set_map {ns : List Str} {Q : Unit → Shared → Prop} (X : K.In s.heap) (I : ObjM s.heap x dx C mA)
    (hs : PySem.W.findIn K (.ref C) "__setattr__" = some (some (.builtin "object.__setattr__"))) (hp : PySem.W.plainOver K C = true) (ht : PySem.W.takerIn K C name = some none) (hh : PySem.W.hasDictIn K C = true)
    (hw : PySem.Within mA ns) (hsz : ns.length ≤ sizeLine)
    (h : ∀ h', ObjM h' x dx C (fun y => if y = name then some v else mA y) → Heap.SameBut dx s.heap h' → Q () { s with heap := h', toks := s.toks + 2 }) :
    wpAny (model prog w) A (setAttr (.ref x) name v) Q E s := by
  obtain ⟨od, J, hl⟩ := I.look
  refine PySem.W.set_plain X J hs (PySem.W.osa_open (s := { s with toks := s.toks + 1 }) (r := none) X J hp ht fun b => ?_)
  obtain ⟨cd, hc, hd'⟩ := PySem.W.any_some hh
  have hx : s.heap.get? x = some ⟨.ref C, some dx, .plain, #[]⟩ := I.obj
  refine wpAny_bind (wpAny_pure (wpAny_bind (wpAny_bind (wpAny_loadPart hx (wpAny_bind (PySem.W.Looks.here (s := { s with toks := s.toks + 1 }) (PySem.W.looks_clsIn X hc) ?_))))))
  rw [hd']
  refine wpAny_pure (a := some dx) (wpAny_bind (wpAny_pure (wpAny_bind ?_)))
  refine wpAny_nsSet1 (s := { s with toks := s.toks + 1 }) I.ns fun h' hn2 hs2 => ?_
  obtain ⟨oD, esD, epD, hoD, hdD, hcD⟩ := hn2.count (PySem.Within.cons name v hw)
  refine wpAny_bind (wpAny_lookBehind hoD (by rw [hdD]; exact pastItsLine_dict (Nat.le_trans hcD (by rw [List.length_cons]; omega))) ?_)
  exact wpAny_pure (h _ ⟨(hs2.2 _ (Ne.symm I.ne)).trans I.obj, hn2, I.ne⟩ hs2)
/-- C(..): the dict at the heap's end, the instance behind it; then its __init__ -/
theorem make_map {R : Result → Shared → Prop} {vs : List Value} {kw : List (Str × Value)} (X : K.In s.heap) (hm : PySem.W.makesIn K C = true)
    (hi : PySem.W.findIn K (.ref C) "__init__" = some (some (.ref f))) (hf : PySem.W.typeIn K (.ref f) = some (.type "function"))
    (h : codeAny (model prog w) (A.under (.builtin "type.__call__" ⟨.ref C :: vs, kw⟩)) (.call (.ref f) ⟨.ref (s.heap.objs.size + 1) :: vs, kw⟩) (PySem.W.InitBack (s.heap.objs.size + 1) R)
      { s with heap := (s.heap.push PySem.W.emptyDict).push (PySem.W.instObj C s.heap.objs.size) }) :
    codeAny (model prog w) A (.call (.ref C) ⟨vs, kw⟩) R s := by
  obtain ⟨hh, g, d, t, os⟩ := s
  exact PySem.W.make_core (PySem.W.makes_of X hm) (PySem.W.looks_findIn X hi) (fun self => PySem.W.bind_fn X self hf) (.inl rfl) h
/-- C() where there is no __init__ but object's -/
theorem make_map0 {R : Result → Shared → Prop} (X : K.In s.heap) (hm : PySem.W.makesIn K C = true)
    (hi : PySem.W.findIn K (.ref C) "__init__" = some (some (.builtin "object.__init__")))
    (hb : ∀ self, PySem.W.Looks (model prog w) s.heap (bindSpecial (.builtin "object.__init__") self) (.builtin "object.__init__", [self]))
    (h : codeAny (model prog w) (A.under (.builtin "type.__call__" ⟨[.ref C], []⟩)) (.call (.builtin "object.__init__") ⟨[.ref (s.heap.objs.size + 1)], []⟩) (PySem.W.InitBack (s.heap.objs.size + 1) R)
      { s with heap := (s.heap.push PySem.W.emptyDict).push (PySem.W.instObj C s.heap.objs.size) }) :
    codeAny (model prog w) A (.call (.ref C) ⟨[], []⟩) R s := by
  obtain ⟨hh, g, d, t, os⟩ := s
  exact PySem.W.make_core (PySem.W.makes_of X hm) (PySem.W.looks_findIn X hi) hb (.inr ⟨rfl, rfl⟩) h
end
/-! ### the attributes as a list of pairs -/
def putF (f : Str) (v : V) : List (Str × V) → List (Str × V)
  | [] => [(f, v)]
  | (g, x) :: r => if g = f then (g, v) :: r else (g, x) :: putF f v r
theorem lookup_putF (f g : Str) (v : V) : ∀ fs : List (Str × V), (putF f v fs).lookup g = if g = f then some v else fs.lookup g
  | [] => by
    show List.lookup g [(f, v)] = _
    by_cases h : g = f
    · have hb : (g == f) = true := beq_iff_eq.mpr h
      simp only [List.lookup, hb, if_pos h]
    · have hb : (g == f) = false := beq_eq_false_iff_ne.mpr h
      simp only [List.lookup, hb, if_neg h]
  | (k, x) :: r => by
    have ih := lookup_putF f g v r
    rw [show putF f v ((k, x) :: r) = (if k = f then (k, v) :: r else (k, x) :: putF f v r) from rfl]
    by_cases hk : k = f
    · rw [if_pos hk]
      by_cases h : g = k
      · have hb : (g == k) = true := beq_iff_eq.mpr h
        simp only [List.lookup, hb, if_pos (h.trans hk)]
      · have hb : (g == k) = false := beq_eq_false_iff_ne.mpr h
        simp only [List.lookup, hb, if_neg (fun e : g = f => h (e.trans hk.symm))]
    · rw [if_neg hk]
      by_cases h : g = k
      · have hb : (g == k) = true := beq_iff_eq.mpr h
        simp only [List.lookup, hb, if_neg (fun e : g = f => hk (h.symm.trans e))]
      · have hb : (g == k) = false := beq_eq_false_iff_ne.mpr h
        simp only [List.lookup, hb]
        exact ih
theorem keys_putF (f : Str) (v : V) : ∀ fs : List (Str × V), f ∈ (putF f v fs).map (·.1) ∧ ∀ g, g ∈ fs.map (·.1) → g ∈ (putF f v fs).map (·.1)
  | [] => ⟨by simp [putF], fun g h => by simp at h⟩
  | (k, x) :: r => by
    obtain ⟨i1, i2⟩ := keys_putF f v r
    rw [show putF f v ((k, x) :: r) = (if k = f then (k, v) :: r else (k, x) :: putF f v r) from rfl]
    by_cases hk : k = f
    · rw [if_pos hk]
      subst hk
      exact ⟨by simp, fun g h => by simpa using h⟩
    · rw [if_neg hk]
      refine ⟨?_, fun g h => ?_⟩
      · rw [List.map_cons]
        exact List.mem_cons_of_mem _ i1
      · rw [List.map_cons] at h ⊢
        rcases List.mem_cons.mp h with e | e
        · exact List.mem_cons.mpr (.inl e)
        · exact List.mem_cons_of_mem _ (i2 g e)
theorem length_putF (f : Str) (v : V) : ∀ fs : List (Str × V), (putF f v fs).length ≤ fs.length + 1
  | [] => by simp [putF]
  | (k, x) :: r => by
    have ih := length_putF f v r
    rw [show putF f v ((k, x) :: r) = (if k = f then (k, v) :: r else (k, x) :: putF f v r) from rfl]
    by_cases hk : k = f
    · rw [if_pos hk, List.length_cons, List.length_cons]; omega
    · rw [if_neg hk, List.length_cons, List.length_cons]; omega
theorem RelO.some_of {v : V} {o : Option Value} (r : RelO (some v) o) : ∃ u, o = some u ∧ RelV v u := by
  cases o with
  | none => exact (show False from r).elim
  | some u => exact ⟨u, rfl, r⟩
theorem handed_of {v : V} {u : Value} (r : RelV v u) : PySem.W.handedIn u = true := by
  cases v with
  | non => cases (show u = Value.none from r); rfl
  | bl b => cases (show u = Value.bool b from r); rfl
  | int i => obtain ⟨t, e⟩ := (show ∃ t, u = Value.int i t from r); cases e; rfl
  | str x => obtain ⟨t, e⟩ := (show ∃ t, u = Value.str x t from r); cases e; rfl
  | byt b => obtain ⟨t, e⟩ := (show ∃ t, u = Value.bytes b t from r); cases e; rfl
  | flt b => obtain ⟨t, e⟩ := (show ∃ t, u = Value.float b t from r); cases e; rfl
  | ref a => cases (show u = Value.ref a from r); rfl
  | ty n => cases (show u = Value.type n from r); rfl
section
variable {P : Program} {w : World} {H H' : Hp} {h h' : Heap} {a C dx : Addr} {fs fs' : List (Str × V)}
theorem ins_get (hok : HOk P w H h) (e : H a = some (.ins C dx fs)) : ∃ mA, ObjM h a dx C mA ∧ (∀ f, RelO (fs.lookup f) (mA f)) ∧ PySem.Within mA (fs.map (·.1)) ∧ fs.length ≤ 1000 ∧ H dx = some (.own a) := by
  obtain ⟨d, z, ne, ob, mA, n, r, q⟩ := (show ObjOk P w H h a (.ins C dx fs) from hok a _ e)
  exact ⟨mA, ⟨ob, n, ne⟩, r, q, z, d⟩
end
/-! ### what of the text a class must have -/
structure Cls (K : PySem.W.Frag) (C : Addr) : Prop where
  pg : PySem.W.plainGet K C Str.empty = true
  hd : PySem.W.hasDictIn K C = true
  po : PySem.W.plainOver K C = true
  sa : PySem.W.findIn K (.ref C) "__setattr__" = some (some (.builtin "object.__setattr__"))
theorem Cls.get {K : PySem.W.Frag} {C : Addr} (c : Cls K C) (f : Str) : PySem.W.plainGet K C f = true := c.pg
/-- no class of it has the name -/
def NoAttr (K : PySem.W.Frag) (C : Addr) (f : Str) : Prop := PySem.W.findIn K (.ref C) f = some none
theorem NoAttr.taker {K : PySem.W.Frag} {C : Addr} {f : Str} (n : NoAttr K C f) : PySem.W.takerIn K C f = some none := by
  unfold PySem.W.takerIn
  rw [show PySem.W.findIn K (.ref C) f = some none from n]
  rfl
/-- a constant of the class -/
structure Con (K : PySem.W.Frag) (C : Addr) (f : Str) (v : V) (u : Value) : Prop where
  at_ : PySem.W.findIn K (.ref C) f = some (some u)
  rel : RelV v u
  get : PySem.W.specialIn K u "__get__" = some none
  cp : PySem.W.copiedNames.contains f = false
/-- a method: a plain def of the class or of one above it -/
structure Meth (K : PySem.W.Frag) (C : Addr) (m : Str) (f : Addr) : Prop where
  at_ : PySem.W.findIn K (.ref C) m = some (some (.ref f))
  fn : PySem.W.isFn K (.ref f) = true
  kp : PySem.W.keepIn K (.ref f) = true
section
variable {X : Cx} {pins : List (Addr × Obj)} {σ : St} {H : Hp} {s : Shared} {a C dx : Addr} {fs : List (Str × V)} {f : Str} {v : V} {A : Around} {E : Value → Shared → Prop}
theorem getattr_ok {b : Bool} {Q : Value → Shared → Prop} (I : Inv X pins σ H s) (e : H a = some (.ins C dx fs)) (c : Cls X.K C) (n : NoAttr X.K C f) (l : fs.lookup f = some v)
    (h : ∀ u s', Inv X pins σ H s' → RelV v u → Q u s') : wpAny (model X.prog X.w) A (getAttr (.ref a) f b) Q E s := by
  obtain ⟨mA, O, r, _, _, _⟩ := ins_get I.hok e
  obtain ⟨u, hu, ru⟩ := RelO.some_of (v := v) (o := mA f) (by rw [← l]; exact r f)
  exact get_map I.kIn O (c.get f) c.hd n hu (handed_of ru) (h u _ (I.tok _) ru)
theorem setattr_ok {y : V} {u : Value} {Q : Unit → Shared → Prop} (I : Inv X pins σ H s) (e : H a = some (.ins C dx fs)) (c : Cls X.K C) (n : NoAttr X.K C f) (hl : fs.length < 1000) (ry : RelV y u)
    (h : ∀ s', Inv X pins σ (upd H a (.ins C dx (putF f y fs))) s' → Q () s') : wpAny (model X.prog X.w) A (setAttr (.ref a) f u) Q E s := by
  obtain ⟨mA, O, r, wi, _, ho⟩ := ins_get I.hok e
  have hz : (fs.map (·.1)).length ≤ sizeLine := by rw [List.length_map, sizeLine_eq]; omega
  refine set_map I.kIn O c.sa c.po n.taker c.hd wi hz fun h' O' sb => h _ ?_
  have hd : ∃ o, h'.get? dx = some o := let ⟨o, _, _, e', _⟩ := O'.ns; ⟨o, e'⟩
  refine I.write (x := a) (e := dx) (by rw [e]; exact True.intro) (.inr ho) (fun b q hb z => (sb.2 b hb).trans z) hd ?_
  refine ⟨by rw [upd_ne O.ne]; exact ho, ?_, O.ne, O'.obj, _, O'.ns, fun g => ?_, fun g hg => ?_⟩
  · have := length_putF f y fs; omega
  · show RelO ((putF f y fs).lookup g) (if g = f then some u else mA g)
    rw [lookup_putF]
    by_cases q : g = f
    · rw [if_pos q, if_pos q]; exact ry
    · rw [if_neg q, if_neg q]; exact r g
  · by_cases q : g = f
    · rw [q]; exact (keys_putF f y fs).1
    · refine (keys_putF f y fs).2 g (wi g fun z => hg ?_)
      show (if g = f then some u else mA g) = none
      rw [if_neg q]; exact z
/-- a new instance, tracked, without attributes -/
theorem Inv.made (I : Inv X pins σ H s) : Inv X pins σ (upd (upd H s.heap.objs.size (.own (s.heap.objs.size + 1))) (s.heap.objs.size + 1) (.ins C s.heap.objs.size []))
    { s with heap := (s.heap.push PySem.W.emptyDict).push (PySem.W.instObj C s.heap.objs.size) } := by
  have e1 : (s.heap.push PySem.W.emptyDict).get? s.heap.objs.size = some PySem.W.emptyDict := Heap.get?_push_size s.heap rfl
  have e2 : ((s.heap.push PySem.W.emptyDict).push (PySem.W.instObj C s.heap.objs.size)).get? (s.heap.objs.size + 1) = some (PySem.W.instObj C s.heap.objs.size) := by
    have := Heap.get?_push_size (s.heap.push PySem.W.emptyDict) (o := PySem.W.instObj C s.heap.objs.size) rfl
    rwa [Heap.size_push] at this
  have e3 : (s.heap.push PySem.W.emptyDict).Ns s.heap.objs.size (fun _ => none) := ⟨PySem.W.emptyDict, #[], _, e1, rfl, (fun e he => absurd he (by simp)), fun _ => rfl⟩
  have I1 := I.laid (a := s.heap.objs.size) (o := .own (s.heap.objs.size + 1)) (h' := s.heap.push PySem.W.emptyDict) (t' := s.toks) (fun b u q => Heap.get?_push_of_some _ q) (Nat.le_refl _) ⟨_, e1⟩
  refine I1.laid (a := s.heap.objs.size + 1) (o := .ins C s.heap.objs.size []) (t' := s.toks) (fun b u q => Heap.get?_push_of_some _ q) (Nat.le_of_eq (Heap.size_push _ _)) ?_
  have ne : s.heap.objs.size ≠ s.heap.objs.size + 1 := Nat.ne_of_lt (Nat.lt_succ_self _)
  refine ⟨by rw [upd_ne ne, upd_same], Nat.zero_le _, ne, e2, fun _ => none, (Heap.Ns1.of_empty e3).at fun o q => Heap.get?_push_of_some _ q, fun _ => True.intro, fun y hy => absurd rfl hy⟩
/-- e.f where nothing but the object is asked: through attributeBase (super) and the last hold -/
theorem attr_of {prog : Program} {w : World} {env : Env} {e : Expr} {f : Str} {pos : Pos} {s : Shared} {Q : Value → Shared → Prop} (hb : attributeBase e f env (eval e env) = eval e env)
    (h : wpAny (model prog w) A (eval e env) (fun o s₁ => wpAny (model prog w) A (getAttr o f true) Q E s₁) E s) : wpAny (model prog w) A (eval (.Attribute e f pos) env) Q E s :=
  Attribute_any_ h (by rw [arm_eval_Attribute, hb])
end
/-! ### readings and rules -/
/-- e.f, an attribute of the instance -/
def tFld (K : PySem.W.Frag) (ta : TE) (f : Str) : TE := fun σ H Q => ta σ H fun x H1 => ∃ a C dx fs v, x = .ref a ∧ H1 a = some (.ins C dx fs) ∧ Cls K C ∧ NoAttr K C f ∧ fs.lookup f = some v ∧ Q v H1
/-- e.f = value -/
def sFld (K : PySem.W.Frag) (ta tv : TE) (f : Str) : TS := fun D σ H => tv σ H fun y H1 => ta σ H1 fun x H2 => ∃ a C dx fs, x = .ref a ∧ H2 a = some (.ins C dx fs) ∧ Cls K C ∧ NoAttr K C f ∧ fs.length < 1000 ∧
  D.nx σ (upd H2 a (.ins C dx (putF f y fs)))
section
variable {X : Cx} {o e value : Expr} {f : Str} {pos pos' tpos : Pos} {ta tv : TE}
theorem pe_fld (he : PE X e ta) (hb : attributeBase e f X.env (eval e X.env) = eval e X.env) : PE X (.Attribute e f pos) (tFld X.K ta f) := by
  intro pins s σ H Q I h
  refine attr_of hb (thn (he pins s σ H _ I h) fun u s1 ⟨x, H1, I1, rx, a, C, dx, fs, v, ex, ea, c, n, l, q⟩ => ?_)
  subst ex
  obtain rfl : u = Value.ref a := rx
  exact getattr_ok I1 ea c n l fun u' s2 I2 ru => ⟨v, H1, I2, ru, q⟩
theorem ps_fld (ha : PE X o ta) (hv : PE X value tv) (hs : swapsWith value (some (.Attribute o f pos')) pos.line X.env = pure false) : PS X (.Assign [.Attribute o f pos'] value pos) (sFld X.K ta tv f) := by
  intro pins s σ H D I h
  refine plainObj_wpAny_Assign_Attribute (thn (hv pins s σ H _ I h) fun u s1 ⟨y, H1, I1, ry, q⟩ => thn (ha pins s1 σ H1 _ I1 q) fun ov s2 ⟨x, H2, I2, rx, a, C, dx, fs, ex, ea, c, n, l, q2⟩ => ?_) hs
  subst ex
  obtain rfl : ov = Value.ref a := rx
  exact setattr_ok I2 ea c n l ry fun s3 I3 => ⟨σ, _, I3, q2⟩
end
/-! ### isinstance -/
section
variable {X : Cx} {pins : List (Addr × Obj)} {σ : St} {H : Hp} {s : Shared} {A : Around} {E : Value → Shared → Prop} {Q : Value → Shared → Prop} {c : Value} {b : Bool}
/-- the type of a value, as the fragment's deciders take it; for an instance its class -/
inductive TyOf (K : PySem.W.Frag) (H : Hp) : V → Value → Prop where
  | non : TyOf K H .non (.type "NoneType")
  | bl (x : Bool) : TyOf K H (.bl x) (.type "bool")
  | int (i : Int) : TyOf K H (.int i) (.type "int")
  | str (x : Str) : TyOf K H (.str x) (.type "str")
  | flt (x : UInt64) : TyOf K H (.flt x) (.type "float")
  | lst {a : Addr} {xs : List V} (e : H a = some (.lst xs)) : TyOf K H (.ref a) (.type "list")
  | frz {a : Addr} {o : Obj} {xs : List V} (e : H a = some (.frz o (.lst xs))) : TyOf K H (.ref a) (.type "list")
  | tup {a : Addr} {xs : List V} (e : H a = some (.tup xs)) : TyOf K H (.ref a) (.type "tuple")
  | dK {a : Addr} {kvs : List (Key × V)} (e : H a = some (.dK kvs)) : TyOf K H (.ref a) (.type "dict")
  | dT {a : Addr} {kvs : List (List Key × V)} (e : H a = some (.dT kvs)) : TyOf K H (.ref a) (.type "dict")
  | ins {a C dx : Addr} {fs : List (Str × V)} (e : H a = some (.ins C dx fs)) (cl : Cls K C) (ha : PySem.W.findIn K (.ref C) "__class__" = some (some (.builtin "object.__class__")))
      (hn : PySem.W.specialIn K (.builtin "object.__class__") "__get__" = some (some (.builtin "getset_descriptor.__get__"))) (htk : PySem.W.takesIn K (.builtin "object.__class__") = some true)
      (hm : PySem.W.mroIn K C (.type "object") = some true) : TyOf K H (.ref a) (.ref C)
/-- isinstance(x, c) for one class c, a built-in or an own one: kitOne's answer -/
theorem isinst_ok {x : V} {u t : Value} (I : Inv X pins σ H s) (rx : RelV x u) (ty : TyOf X.K H x t) (e : PySem.W.kitOne X.K t c = some b) (h : ∀ tk, Q (.bool b) { s with toks := tk }) :
    wpAny (model X.prog X.w) A (call (.builtin "isinstance") [u, c]) Q E s := by
  cases ty with
  | non => cases (show u = Value.none from rx); exact PySem.W.kia_one PySem.W.kitx_none I.kIn True.intro e (fun z => nomatch z) h
  | bl y => cases (show u = Value.bool y from rx); exact PySem.W.kia_one PySem.W.kitx_bool I.kIn True.intro e (fun z => nomatch z) h
  | int i => obtain ⟨t, q⟩ := (show ∃ t, u = Value.int i t from rx); cases q; exact PySem.W.kia_one PySem.W.kitx_int I.kIn True.intro e (fun z => nomatch z) h
  | str y => obtain ⟨t, q⟩ := (show ∃ t, u = Value.str y t from rx); cases q; exact PySem.W.kia_one PySem.W.kitx_str I.kIn True.intro e (fun z => nomatch z) h
  | flt y => obtain ⟨t, q⟩ := (show ∃ t, u = Value.float y t from rx); cases q; exact PySem.W.kia_one PySem.W.kitx_float I.kIn True.intro e (fun z => nomatch z) h
  | @lst a xs ea =>
    cases (show u = Value.ref a from rx)
    obtain ⟨_, _, n, _, h1⟩ := (show ObjOk X.prog X.w H s.heap a (.lst xs) from I.hok a _ ea)
    exact PySem.W.kia_one PySem.W.kitx_list I.kIn ⟨_, h1, rfl⟩ e (fun z => nomatch z) h
  | @frz a ob xs ea =>
    cases (show u = Value.ref a from rx)
    obtain ⟨_, _, _, n, _, h1⟩ := (show ObjOk X.prog X.w H s.heap a (.frz ob (.lst xs)) from I.hok a _ ea)
    exact PySem.W.kia_one PySem.W.kitx_list I.kIn ⟨_, h1, rfl⟩ e (fun z => nomatch z) h
  | @tup a xs ea =>
    cases (show u = Value.ref a from rx)
    obtain ⟨_, _, _, p⟩ := (show ObjOk X.prog X.w H s.heap a (.tup xs) from I.hok a _ ea)
    obtain ⟨o, h1, h2, _⟩ := p
    exact PySem.W.kia_one PySem.W.kitx_tuple I.kIn ⟨o, h1, h2⟩ e (fun z => nomatch z) h
  | @dK a kvs ea =>
    cases (show u = Value.ref a from rx)
    obtain ⟨_, _, vs, _, p⟩ := (show ObjOk X.prog X.w H s.heap a (.dK kvs) from I.hok a _ ea)
    obtain ⟨o, es, ep, h1, h2, _⟩ := p
    exact PySem.W.kia_one PySem.W.kitx_dict I.kIn ⟨o, h1, h2.1⟩ e (fun z => nomatch z) h
  | @dT a kvs ea =>
    cases (show u = Value.ref a from rx)
    obtain ⟨_, _, xs, _, o, es, ep, h1, h2, _⟩ := (show ObjOk X.prog X.w H s.heap a (.dT kvs) from I.hok a _ ea)
    exact PySem.W.kia_one PySem.W.kitx_dict I.kIn ⟨o, h1, h2.1⟩ e (fun z => nomatch z) h
  | @ins a C dx fs ea cl ha hn htk hm =>
    cases (show u = Value.ref a from rx)
    obtain ⟨mA, O, _⟩ := ins_get I.hok ea
    obtain ⟨od, J, _⟩ := O.look
    exact PySem.W.kia_one (PySem.W.kitx_own (cl.get _) cl.hd ha hn htk hm) I.kIn J e (fun z => nomatch z) h
end
end L2
namespace L2
open PySem PySem.Spec PyProof.Rows
/-! ### room -/
structure Room (k : Nat) (A : Around) : Prop where
  hd : A.handled = none
  dp : A.depth + 3 * k + 5 < recursionLimit
  un : A.units + 16 * k + 200 < cLine
theorem Room.mono {j k : Nat} {A : Around} (r : Room k A) (h : j ≤ k) : Room j A := ⟨r.hd, by have := r.dp; omega, by have := r.un; omega⟩
theorem Room.deeper {k : Nat} {A : Around} (r : Room (k + 1) A) (env : Env) : Room k (A.deeper env) :=
  ⟨r.hd, by have := r.dp; show A.depth + 1 + 3 * k + 5 < _; omega, by have := r.un; show A.units + 3 + 16 * k + 200 < _; omega⟩
theorem Room.in1 {k : Nat} {A : Around} (r : Room (k + 1) A) : Room k A.in1 :=
  ⟨r.hd, by have := r.dp; show A.depth + 3 * k + 5 < _; omega, by have := r.un; show A.units + 1 + 16 * k + 200 < _; omega⟩
theorem make_depth {A : Around} {C : Addr} {us : List Value} {kw : List (Str × Value)} : (A.under (.builtin "type.__call__" ⟨.ref C :: us, kw⟩)).depth = A.depth + 1 := by
  first | rfl | simp [Around.under, Code.weight, Code.isCreation, Code.isGuard, Code.isCaller, Code.frames, Code.isFrame, guardIds]
theorem make_units {A : Around} {C : Addr} {us : List Value} {kw : List (Str × Value)} : (A.under (.builtin "type.__call__" ⟨.ref C :: us, kw⟩)).units = A.units + 1 := by
  first | rfl | simp [Around.under, Code.cUnits, Code.frames, Code.isFrame]
theorem Room.make {k : Nat} {A : Around} (r : Room (k + 1) A) (C : Addr) (us : List Value) (kw : List (Str × Value)) : Room k (A.under (.builtin "type.__call__" ⟨.ref C :: us, kw⟩)) :=
  ⟨r.hd, by have := r.dp; rw [make_depth]; omega, by have := r.un; rw [make_units]; omega⟩
theorem Room.depth {k : Nat} {A : Around} (r : Room k A) : A.depth < recursionLimit := by have := r.dp; omega
theorem Room.units {k : Nat} {A : Around} (r : Room k A) : A.units + 64 < cLine := by have := r.un; omega
/-! ### argument lists and displays -/
def tNil : TA := fun _ H Q => Q [] H
def tCons (ta : TE) (tr : TA) : TA := fun σ H Q => ta σ H fun x H1 => tr σ H1 fun xs H2 => Q (x :: xs) H2
section
variable {X : Cx} {e : Expr} {es : List Expr} {te : TE} {t : TA} {pos : Pos}
theorem pa_nil : PA X [] tNil := fun _ _ _ _ H Q I h => Calls.spliced_nil ⟨[], H, I, .nil, h⟩
theorem pa_cons (ha : PE X e te) (hr : PA X es t) (hs : starEach (e :: es) X.env = (false, eval e X.env) :: starEach es X.env := by rfl) : PA X (e :: es) (tCons te t) := by
  intro pos pins s σ H Q I h
  rw [hs]
  show wpAny _ _ (spliced ((false, eval e X.env) :: backTo pos (starEach es X.env))) _ _ s
  refine Calls.spliced_cons (thn (ha pins s σ H _ I h) fun u s1 ⟨x, H1, I1, r1, q1⟩ => ?_)
  exact thn (hr pos pins s1 σ H1 _ I1 q1) fun us s2 ⟨xs, H2, I2, r2, q2⟩ => ⟨x :: xs, H2, I2, .cons r1 r2, q2⟩
/-- a tuple, a list of written items -/
def tTup (t : TA) : TE := fun σ H Q => t σ H fun xs H1 => xs.length ≤ sizeLine ∧ ∀ p, H1 p = none → Q (.ref p) (upd H1 p (.tup xs))
def tLst (t : TA) : TE := fun σ H Q => t σ H fun xs H1 => xs.length ≤ sizeLine ∧ ∀ p, H1 p = none → Q (.ref p) (upd H1 p (.lst xs))
theorem pe_tup {x1} (h : PA X es t) : PE X (.Tuple es x1 pos) (tTup t) := by
  intro pins s σ H Q I hq
  refine wpAny_Tuple_spliced (thn (h pos pins s σ H _ I hq) fun us s1 ⟨xs, H1, I1, r, z, q⟩ => ⟨by rw [← r.length]; exact z, ?_⟩)
  have hf : H1 s1.heap.objs.size = none := I1.hok.fresh (Nat.le_refl _)
  refine ⟨.ref s1.heap.objs.size, upd H1 s1.heap.objs.size (.tup xs), I1.laid (t' := s1.toks) (fun b u e => Heap.get?_push_of_some _ e) (Nat.le_refl _) ?_, rfl, q _ hf⟩
  exact ⟨z, us, r, ⟨_, Heap.get?_push_size _ rfl, rfl, _, rfl⟩⟩
theorem pe_lst (h : PA X es t) : PE X (.List es pos) (tLst t) := by
  intro pins s σ H Q I hq
  refine wpAny_List_spliced (thn (h pos pins s σ H _ I hq) fun us s1 ⟨xs, H1, I1, r, z, q⟩ => ⟨by rw [← r.length]; exact z, ?_⟩)
  have hf : H1 s1.heap.objs.size = none := I1.hok.fresh (Nat.le_refl _)
  refine ⟨.ref s1.heap.objs.size, upd H1 s1.heap.objs.size (.lst xs), I1.laid (t' := s1.toks) (fun b u e => Heap.get?_push_of_some _ e) (Nat.le_refl _) ?_, rfl, q _ hf⟩
  exact ⟨z, us, 0, r, Heap.get?_push_size _ rfl⟩
end
/-! ### what a def promises -/
/-- a def's promise: the bound arguments in the parameters' order, the heap, the wanted end, the wanted exception -/
abbrev Sp := List V → Hp → VK → XK → Prop
/-- how an exception lies behind a call (file 08 gives it): the callers' frames, abstract heap and state ahead of the call, the wish, the exception, the state -/
abbrev CXT := List Env → Hp → Shared → XK → Value → Shared → Prop
/-- the state at a call -/
structure Env0 (P : Program) (w : World) (K : PySem.W.Frag) (mg : Str → Option Value) (base : Heap) (A : Around) (outer : List Env) (s : Shared) (H : Hp) : Prop where
  frames : A.frames = some outer
  mod : Mod K mg base
  bs : ∀ b o, base.get? b = some o → s.heap.get? b = some o ∧ H b = none
  bsz : base.objs.size ≤ s.heap.objs.size
  funs : s.heap.FunFrames base outer
  frf : ∀ b ∈ frs outer, H b = none
  hok : HOk P w H s.heap
  bare : AllBare s.gens
/-- a call's end -/
def CE (outer : List Env) (P : Program) (w : World) (H : Hp) (s : Shared) (Q : VK) (u : Value) (s' : Shared) : Prop :=
  ∃ v H', s'.os = s.os ∧ AllBare s'.gens ∧ Un (frs outer) [] H H' s.heap s'.heap ∧ HOk P w H' s'.heap ∧ RelV v u ∧ Q v H'
def CR (CX : CXT) (outer : List Env) (P : Program) (w : World) (H : Hp) (s : Shared) (Q : VK) (E : XK) (r : Result) (s' : Shared) : Prop :=
  match r with
  | .ok (.ret u) => CE outer P w H s Q u s'
  | .ok _ => False
  | .error e => CX outer H s E e s'
structure FnOk (P : Program) (w : World) (K : PySem.W.Frag) (mg : Str → Option Value) (base : Heap) (CX : CXT) (k : Nat) (f : Addr) (fd : FuncData) (ps : List Str) (sp : Sp) : Prop where
  len : ∀ vs H Q E, sp vs H Q E → vs.length = ps.length
  run : ∀ (A : Around) (outer : List Env) (s : Shared) (H : Hp) (args : Args) (us : List Value) (vs : List V) (Q : VK) (E : XK), Room k A → Env0 P w K mg base A outer s H → BindsTo s fd args (ps.zip us) → Vals vs us → sp vs H Q E →
    codeAny (model P w) A (.call (.ref f) args) (CR CX outer P w H s Q E) s
theorem FnOk.mono {P : Program} {w : World} {K : PySem.W.Frag} {mg : Str → Option Value} {base : Heap} {CX : CXT} {j k : Nat} {f : Addr} {fd : FuncData} {ps : List Str} {sp : Sp} (F : FnOk P w K mg base CX j f fd ps sp) (h : j ≤ k) :
    FnOk P w K mg base CX k f fd ps sp := ⟨F.len, fun A outer s H args us vs Q E hr => F.run A outer s H args us vs Q E (hr.mono h)⟩
theorem Env0.make {P : Program} {w : World} {K : PySem.W.Frag} {mg : Str → Option Value} {base : Heap} {A : Around} {outer : List Env} {s : Shared} {H : Hp} (e : Env0 P w K mg base A outer s H) (C : Addr) (us : List Value) (kw : List (Str × Value)) :
    Env0 P w K mg base (A.under (.builtin "type.__call__" ⟨.ref C :: us, kw⟩)) outer s H := ⟨by first | exact e.frames | (simpa [Around.under, Code.envs, Code.isFrame, pushEnvs] using e.frames), e.mod, e.bs, e.bsz, e.funs, e.frf, e.hok, e.bare⟩
theorem Env0.in1 {P : Program} {w : World} {K : PySem.W.Frag} {mg : Str → Option Value} {base : Heap} {A : Around} {outer : List Env} {s : Shared} {H : Hp} (e : Env0 P w K mg base A outer s H) :
    Env0 P w K mg base A.in1 outer s H := ⟨e.frames, e.mod, e.bs, e.bsz, e.funs, e.frf, e.hok, e.bare⟩
section
variable {X : Cx} {pins : List (Addr × Obj)} {σ : St} {H : Hp} {s s' : Shared}
/-- from a body: what a callee wants -/
theorem Inv.env0 (I : Inv X pins σ H s) : Env0 X.prog X.w X.K X.mg X.base X.A X.stack s H :=
  ⟨I.ok.frames, I.ok.mod, I.bs, Nat.le_trans I.ok.bsz I.sz, I.stack, I.stkFree, I.hok, I.bare⟩
/-- behind a call -/
theorem Inv.after {Q : VK} {u : Value} (I : Inv X pins σ H s) (h : CE X.stack X.prog X.w H s Q u s') : EP X pins σ Q u s' := by
  obtain ⟨v, H', os, bare, un, hok, r, q⟩ := h
  obtain ⟨hh, g, d, t, os'⟩ := s'
  obtain rfl : os' = s.os := os
  exact ⟨v, H', I.call (h' := hh) (g' := g) (d' := d) (t' := t) (ch := []) un hok bare (fun b z => absurd z (by simp)), r, q⟩
end
/-! ### calls -/
/-- f(..): the written arguments, then the defaults dvs; E: what is wanted of an exception -/
def tCall (sp : Sp) (dvs : List V) (E : XK) (t : TA) : TE := fun σ H Q => t σ H fun vs H1 => sp (vs ++ dvs) H1 Q E
/-- C(..): a new instance and its dict, then __init__ -/
def tMake (C : Addr) (sp : Sp) (dvs : List V) (E : XK) (t : TA) : TE := fun σ H Q => t σ H fun vs H1 => ∀ x dx, H1 x = none → H1 dx = none → dx ≠ x →
  sp (.ref x :: (vs ++ dvs)) (upd (upd H1 dx (.own x)) x (.ins C dx [])) (fun v H2 => v = .non ∧ Q (.ref x) H2) E
/-- how the parameters are bound: us the positional arguments, kw the keywords' values by name, ds the defaults that fill up -/
def Binds (K : PySem.W.Frag) (fd : FuncData) (ps : List Str) (ds : List Value) : Prop :=
  ∀ (s : Shared) (us : List Value), K.In s.heap → (us ++ ds).length = ps.length → BindsTo s fd ⟨us, []⟩ (ps.zip (us ++ ds))
/-- every parameter is given -/
theorem Binds.all {K : PySem.W.Frag} {fd : FuncData} {ps : List Str} (h : ∀ us : List Value, us.length = ps.length → bindArgs fd ⟨us, []⟩ = pure (ps.zip us)) : Binds K fd ps [] := fun s us _ hl => by
  rw [List.append_nil] at hl ⊢
  exact .of_eq (h us hl)
/-- an exception of a callee reaches what this body wants of exceptions -/
def Passes (CX : CXT) (X : Cx) (E : XK) : Prop := ∀ (pins : List (Addr × Obj)) (σ : St) (H : Hp) (s : Shared) (e : Value) (s' : Shared), Inv X pins σ H s → CX X.stack H s E e s' → X.xe e s'
section
variable {X : Cx} {CX : CXT} {k : Nat} {f C : Addr} {fd : FuncData} {ps : List Str} {sp : Sp} {dvs : List V} {ds : List Value} {E : XK} {x m : Str} {p pos apos : Pos} {e o : Expr} {es : List Expr} {ta : TE} {t : TA}
/-- the callee runs -/
theorem run_fn {pins : List (Addr × Obj)} {σ : St} {H : Hp} {s : Shared} {Q : VK} {us : List Value} {vs : List V} (F : FnOk X.prog X.w X.K X.mg X.base CX k f fd ps sp) (hr : Room k X.A) (hb : Binds X.K fd ps ds) (hd : Vals dvs ds) (hx : Passes CX X E)
    (I : Inv X pins σ H s) (r : Vals vs us) (h : sp (vs ++ dvs) H Q E) : wpAny (model X.prog X.w) X.A (call (.ref f) us) (EP X pins σ Q) X.xe s := by
  have r2 : Vals (vs ++ dvs) (us ++ ds) := r.append hd
  have hl : (us ++ ds).length = ps.length := by rw [← r2.length]; exact F.len _ _ _ _ h
  refine wpAny_call (codeAny_mono (F.run X.A X.stack s H ⟨us, []⟩ (us ++ ds) (vs ++ dvs) Q E hr I.env0 (hb s us I.kIn hl) r2 h) fun r s' hq => ?_)
  cases r with
  | error e => exact hx pins σ H s e s' I hq
  | ok fl =>
    cases fl with
    | ret u => exact I.after hq
    | next => exact False.elim hq
    | brk => exact False.elim hq
    | cont => exact False.elim hq
theorem pe_call (F : FnOk X.prog X.w X.K X.mg X.base CX k f fd ps sp) (hr : Room k X.A) (hg : Gl X x) (hm : X.mg x = some (.ref f)) (hk : PySem.W.keepIn X.K (.ref f) = true) (hb : Binds X.K fd ps ds) (hd : Vals dvs ds) (hx : Passes CX X E)
    (ha : PA X (e :: es) t) (hdb : (x == ("__debug__" : Str)) = false := by decide) (he : starEach (e :: es) X.env = (false, eval e X.env) :: starEach es X.env := by rfl) (hpl : (backTo pos (starEach es X.env)).any (·.1) = false := by rfl) :
    PE X (.Call (.Name x p) (e :: es) [] pos) (tCall sp dvs E t) := by
  intro pins s σ H Q I h
  refine wpAny_Call_Name_kw (ld_glob I hg hm ?_ hdb)
  refine PySem.W.callWith_K (h₀ := X.base) I.ok.mod.kin hk (thn (ha pos pins s σ H _ I h) fun us s1 ⟨vs, H1, I1, r, q⟩ => ⟨I1.kIn, ?_⟩) he hpl
  exact run_fn F hr hb hd hx I1 r q
/-- what a class must have to be made -/
structure Mk (K : PySem.W.Frag) (C f : Addr) : Prop where
  makes : PySem.W.makesIn K C = true
  init : PySem.W.findIn K (.ref C) "__init__" = some (some (.ref f))
  fn : PySem.W.isFn K (.ref f) = true
  kp : PySem.W.keepIn K (.ref C) = true
theorem run_make {pins : List (Addr × Obj)} {σ : St} {H : Hp} {s : Shared} {Q : VK} {us : List Value} {vs : List V} (M : Mk X.K C f) (F : FnOk X.prog X.w X.K X.mg X.base CX k f fd ps sp) (hr : Room (k + 1) X.A) (hb : Binds X.K fd ps ds) (hd : Vals dvs ds)
    (hx : Passes CX X E) (I : Inv X pins σ H s) (r : Vals vs us)
    (h : ∀ x dx, H x = none → H dx = none → dx ≠ x → sp (.ref x :: (vs ++ dvs)) (upd (upd H dx (.own x)) x (.ins C dx [])) (fun v H2 => v = .non ∧ Q (.ref x) H2) E) :
    wpAny (model X.prog X.w) X.A (call (.ref C) us) (EP X pins σ Q) X.xe s := by
  have hq := h (s.heap.objs.size + 1) s.heap.objs.size (I.hok.fresh (Nat.le_succ _)) (I.hok.fresh (Nat.le_refl _)) (Nat.ne_of_lt (Nat.lt_succ_self _))
  have I2 := Inv.made (C := C) I
  have r2 : Vals (V.ref (s.heap.objs.size + 1) :: (vs ++ dvs)) (Value.ref (s.heap.objs.size + 1) :: (us ++ ds)) := .cons rfl (r.append hd)
  have hl : (Value.ref (s.heap.objs.size + 1) :: us ++ ds).length = ps.length := by
    have e := r2.length
    rw [F.len _ _ _ _ hq] at e
    exact e.symm
  refine wpAny_call (make_map (f := f) I.kIn M.makes M.init (beq_iff_eq.mp M.fn) (codeAny_mono (F.run _ X.stack _ _ ⟨Value.ref (s.heap.objs.size + 1) :: us, []⟩ (Value.ref (s.heap.objs.size + 1) :: (us ++ ds)) _ _ E (hr.make C us [])
    (I2.env0.make C us []) (hb _ (Value.ref (s.heap.objs.size + 1) :: us) I2.kIn hl) r2 hq) fun r s' hq' => ?_))
  cases r with
  | error e => exact hx pins σ _ _ e s' I2 hq'
  | ok fl =>
    cases fl with
    | ret u =>
      obtain ⟨v, H', I3, rv, ev, q3⟩ := I2.after hq'
      subst ev
      exact ⟨rv, ⟨V.ref (s.heap.objs.size + 1), H', I3, rfl, q3⟩⟩
    | next => exact False.elim hq'
    | brk => exact False.elim hq'
    | cont => exact False.elim hq'
theorem pe_make (M : Mk X.K C f) (F : FnOk X.prog X.w X.K X.mg X.base CX k f fd ps sp) (hr : Room (k + 1) X.A) (hg : Gl X x) (hm : X.mg x = some (.ref C)) (hb : Binds X.K fd ps ds) (hd : Vals dvs ds) (hx : Passes CX X E)
    (ha : PA X (e :: es) t) (hdb : (x == ("__debug__" : Str)) = false := by decide) (he : starEach (e :: es) X.env = (false, eval e X.env) :: starEach es X.env := by rfl) (hpl : (backTo pos (starEach es X.env)).any (·.1) = false := by rfl) :
    PE X (.Call (.Name x p) (e :: es) [] pos) (tMake C sp dvs E t) := by
  intro pins s σ H Q I h
  refine wpAny_Call_Name_kw (ld_glob I hg hm ?_ hdb)
  refine PySem.W.callWith_K (h₀ := X.base) I.ok.mod.kin M.kp (thn (ha pos pins s σ H _ I h) fun us s1 ⟨vs, H1, I1, r, q⟩ => ⟨I1.kIn, ?_⟩) he hpl
  exact run_make M F hr hb hd hx I1 r q
end
/-! ### keywords -/
section
variable {X : Cx} {CX : CXT} {k : Nat} {f C : Addr} {fd : FuncData} {ps ks : List Str} {sp : Sp} {E : XK} {x m : Str} {p pos apos kpos : Pos} {e o : Expr} {es : List Expr} {kws : List Keyword} {te ta : TE} {t tk : TA} {nm : Option Str}
/-- how a call with keywords binds: g puts the positional values us and the keywords' values ws (names ks) in the parameters' order, defaults among them -/
structure KBinds (K : PySem.W.Frag) (fd : FuncData) (ps ks : List Str) (g : List Value → List Value → List Value) (gV : List V → List V → List V) : Prop where
  to : ∀ (s : Shared) (us ws : List Value), K.In s.heap → (g us ws).length = ps.length → BindsTo s fd ⟨us, ks.zip ws⟩ (ps.zip (g us ws))
  rel : ∀ {vs : List V} {us : List Value} {zs : List V} {ws : List Value}, Vals vs us → Vals zs ws → Vals (gV vs zs) (g us ws)
variable {g : List Value → List Value → List Value} {gV : List V → List V → List V}
end
/-! ### a def's body keeps its promise -/
/-- names: the parameters first -/
structure FnScope (N P : List Str) (sc : Scope) : Prop where
  kind : sc.kind = .function
  co : sc.isCoroutine = false
  gen : sc.isGenerator = false
  nd : N.Nodup
  pre : N.take P.length = P
  par : ∀ x ∈ P, sc.names.lookup x = some .local ∨ sc.names.lookup x = some .cell
  nofree : ∀ y ∈ sc.names, y.2 ≠ .free
theorem bindL_out {kindOf : Str → Option NameKind} {x : Str} : ∀ {binds : List (Str × Value)} {m : Str → Option Value}, (∀ v, (x, v) ∉ binds) → bindL kindOf binds m x = m x
  | [], _, _ => rfl
  | (n, v) :: r, m, h => by
    unfold bindL
    rw [bindL_out fun w hw => h w (List.mem_cons_of_mem _ hw)]
    split
    · have : x ≠ n := by rintro rfl; exact h v List.mem_cons_self
      simp [this]
    · rfl
theorem bindC_out {kindOf : Str → Option NameKind} {x : Str} : ∀ {binds : List (Str × Value)} {m : Str → Option Value}, (∀ v, (x, v) ∉ binds) → bindC kindOf binds m x = m x
  | [], _, _ => rfl
  | (n, v) :: r, m, h => by
    unfold bindC
    rw [bindC_out fun w hw => h w (List.mem_cons_of_mem _ hw)]
    split
    · rfl
    · have : x ≠ n := by rintro rfl; exact h v List.mem_cons_self
      simp [this]
theorem bindL_get {kindOf : Str → Option NameKind} {x : Str} {v : Value} : ∀ {P : List Str} {vs : List Value} {i : Nat} {m : Str → Option Value}, P.Nodup → P[i]? = some x → vs[i]? = some v → kindOf x = some .local →
    bindL kindOf (P.zip vs) m x = some v
  | [], _, _, _, _, h, _, _ => by simp at h
  | _ :: _, [], _, _, _, _, h, _ => by simp at h
  | p :: P, w :: vs, 0, m, nd, h1, h2, hk => by
    simp at h1 h2; subst h1; subst h2
    show bindL kindOf ((p, w) :: P.zip vs) m p = _
    unfold bindL
    rw [bindL_out fun v hv => (List.nodup_cons.mp nd).1 (List.of_mem_zip hv).1, if_pos hk]
    simp
  | p :: P, w :: vs, i + 1, m, nd, h1, h2, hk => by
    show bindL kindOf ((p, w) :: P.zip vs) m x = _
    unfold bindL
    exact bindL_get (i := i) (List.nodup_cons.mp nd).2 (by simpa using h1) (by simpa using h2) hk
theorem bindC_get {kindOf : Str → Option NameKind} {x : Str} {v : Value} : ∀ {P : List Str} {vs : List Value} {i : Nat} {m : Str → Option Value}, P.Nodup → P[i]? = some x → vs[i]? = some v → kindOf x ≠ some .local →
    bindC kindOf (P.zip vs) m x = some v
  | [], _, _, _, _, h, _, _ => by simp at h
  | _ :: _, [], _, _, _, _, h, _ => by simp at h
  | p :: P, w :: vs, 0, m, nd, h1, h2, hk => by
    simp at h1 h2; subst h1; subst h2
    show bindC kindOf ((p, w) :: P.zip vs) m p = _
    unfold bindC
    rw [bindC_out fun v hv => (List.nodup_cons.mp nd).1 (List.of_mem_zip hv).1, if_neg hk]
    simp
  | p :: P, w :: vs, i + 1, m, nd, h1, h2, hk => by
    show bindC kindOf ((p, w) :: P.zip vs) m x = _
    unfold bindC
    exact bindC_get (i := i) (List.nodup_cons.mp nd).2 (by simpa using h1) (by simpa using h2) hk
/-- the names' values at the entry -/
def start (N : List Str) (vs : List V) : St := vs.map some ++ List.replicate (N.length - vs.length) none
/-- the context of a def's body, at its entry; an exception leaves the frame, then lies as CX says -/
def cxOf (CX : CXT) (P : Program) (w : World) (K : PySem.W.Frag) (mg : Str → Option Value) (base : Heap) (N : List Str) (qual : Str) (scope : Scope) (f : Addr) (cd : Value) (A : Around) (outer : List Env) (s : Shared) (H : Hp) (E : XK) : Cx where
  prog := P
  w := w
  K := K
  mg := mg
  base := base
  A := A.deeper (envOfC qual scope s.heap.objs.size f cd)
  N := N
  s₀ := s
  H₀ := H
  env := envOfC qual scope s.heap.objs.size f cd
  outer := outer
  stack := envOfC qual scope s.heap.objs.size f cd :: outer
  ex := []
  calm := true
  fn := fun _ => true
  pn := []
  xe := fun e s' => wpAny (model P w) (A.deeper (envOfC qual scope s.heap.objs.size f cd)) (leaving (envOfC qual scope s.heap.objs.size f cd) e) (fun _ s'' => CX outer H s E e s'') (fun e' s'' => CX outer H s E e' s'') s'
theorem cell_has {sc : Scope} {n : Nat} {x : Str} (h : sc.names.lookup x = some .cell) : ∃ c, (cellsFrom n sc.names []).lookup x = some c := by
  have q := PySem.W.cellsFrom_some sc.names n [] (.inl h)
  exact Option.isSome_iff_exists.mp q
theorem inv_start {CX : CXT} {P : Program} {w : World} {K : PySem.W.Frag} {mg : Str → Option Value} {base : Heap} {N ps : List Str} {qual : Str} {scope : Scope} {f : Addr} {cd : Value} {A : Around} {outer : List Env} {s s1 : Shared} {H : Hp} {E : XK} {us : List Value} {vs : List V}
    (S : FnScope N ps scope) (hd : A.handled = none) (e0 : Env0 P w K mg base A outer s H) (hl : vs.length = ps.length) (r : Vals vs us)
    (x : InCallC s s.heap.objs.size (bindL (envOfC qual scope s.heap.objs.size f cd).kindOf (ps.zip us) fun _ => none) (cellsFrom (s.heap.objs.size + 1) scope.names []) (bindC (envOfC qual scope s.heap.objs.size f cd).kindOf (ps.zip us) fun _ => none) s1) :
    Inv (cxOf CX P w K mg base N qual scope f cd A outer s H E) [] (start N vs) H s1 := by
  have hpl : ps.length ≤ N.length := by have := congrArg List.length S.pre; rw [List.length_take] at this; omega
  obtain ⟨h1, tk, rfl, hk⟩ := x.done
  have noA : ∀ b : Addr, b ∉ (cxOf CX P w K mg base N qual scope f cd A outer s H E).ex := fun b z => absurd (show b ∈ ([] : List Addr) from z) (by simp)
  refine ⟨⟨e0.mod, S.kind, rfl, rfl, Nat.le_refl _, fun y z c h1 h2 => ?_, fun y hy => ?_, fun y c _ h => ?_, fun _ => hd, Around.frames_deeper e0.frames, .inr ⟨rfl, rfl⟩, fun b z => absurd z (noA b), e0.bs, e0.bsz, fun b _ _ => noA b, fun b z => absurd z (noA b), e0.funs, e0.frf⟩,
    rfl, e0.bare, Un.kept hk, ⟨_, x.toInCall.ns, fun i y v h1 h2 h3 => ?_⟩, fun y c h => ⟨_, x.cell y c h⟩, e0.hok.fresh (Nat.le_refl _), fun y c h => ?_, fun p hp => absurd (show p ∈ ([] : List (Addr × Obj)) from hp) (by simp), e0.hok.kept hk, ?_⟩
  · exact name_of_addr x.apart (PySem.mem_of_lookup h1) (PySem.mem_of_lookup h2)
  · have hy : scope.names.lookup y = some .cell ∨ scope.names.lookup y = some .free := hy
    rcases hy with hy | hy
    · exact cell_has hy
    · exact absurd rfl (S.nofree _ (PySem.mem_of_lookup hy))
  · exact Nat.le_of_lt (x.above y c (PySem.mem_of_lookup h))
  · have hi : i < vs.length := by
      unfold start at h2
      by_cases hi : i < vs.length
      · exact hi
      · rw [List.getElem?_append_right (by simpa using hi)] at h2
        rw [List.getElem?_replicate] at h2
        split at h2 <;> cases h2
    have ha : vs[i]? = some v := by
      unfold start at h2
      rw [List.getElem?_append_left (by simpa using hi), List.getElem?_map] at h2
      cases e : vs[i]? with
      | none => rw [e] at h2; cases h2
      | some a => rw [e] at h2; cases h2; rfl
    obtain ⟨u, hu, rv⟩ := r.get ha
    have hp : ps[i]? = some y := by
      rw [← S.pre, List.getElem?_take_of_lt (by omega)]; exact h1
    have ndP : ps.Nodup := by rw [← S.pre]; exact S.nd.sublist (List.take_sublist _ _)
    refine ⟨u, rv, ?_⟩
    rcases S.par y (List.mem_of_getElem? hp) with k | k
    · exact .inl ⟨k, bindL_get ndP hp hu k⟩
    · obtain ⟨c, e⟩ := cell_has (n := s.heap.objs.size + 1) k
      refine .inr ⟨.inl k, c, e, ?_⟩
      have q := x.cell y c e
      rw [bindC_get ndP hp hu (by show scope.names.lookup y ≠ _; rw [k]; decide)] at q
      exact q
  · exact e0.hok.fresh (Nat.le_of_lt (x.above y c (PySem.mem_of_lookup h)))
  · unfold start
    show _ = N.length
    rw [List.length_append, List.length_map, List.length_replicate]
    omega
/-- THE RULE: a def (or a method) of the text, by its body. The body's reading t is chosen for each entry; it is run at the parameters' values -/
theorem fn_of {CX : CXT} {P : Program} {w : World} {K : PySem.W.Frag} {mg : Str → Option Value} {base : Heap} {k : Nat} {f : Addr} {name qual : Str} {params : Arguments} {body : List Stmt} {scope : Scope} {dV kV doc pm cdv ct oc : Value} {an od : Option Addr}
    {osl : Array (Option Value)} {N ps : List Str} {sp : Sp} (lk : K.lookup f = some ⟨oc, od, .func (PySem.W.fnOf name qual params body scope dV kV doc pm an cdv ct), osl⟩) (hcd : PySem.W.codeIn K cdv qual = true) (S : FnScope N ps scope)
    (len : ∀ vs H Q E, sp vs H Q E → vs.length = ps.length)
    (hbody : ∀ (A : Around) (outer : List Env) (s : Shared) (H : Hp) (vs : List V) (Q : VK) (E : XK), Room k (A.deeper (envOfC qual scope s.heap.objs.size f cdv)) → sp vs H Q E →
      ∃ t, PSs (cxOf CX P w K mg base N qual scope f cdv A outer s H E) body t ∧ t { nx := fun _ H' => Q .non H', rt := Q } (start N vs) H) :
    FnOk P w K mg base CX (k + 1) f (PySem.W.fnOf name qual params body scope dV kV doc pm an cdv ct) ps sp := by
  refine ⟨len, fun A outer s H args us vs Q E hr e0 hb r hsp => ?_⟩
  have hl := len _ _ _ _ hsp
  have KX : K.In s.heap := e0.mod.kin.keeps fun b o e => (e0.bs b o e).1
  have lim : s.heap.NoLimit := e0.mod.nolimit.keeps fun b o e => (e0.bs b o e).1
  have hkind : ∀ y ∈ ps.zip us, scope.names.lookup y.1 = some .local ∨ (scope.names.lookup y.1 = some .cell ∧ ((cellsFrom (s.heap.objs.size + 1) scope.names []).lookup y.1).isSome = true) := fun ⟨n, v⟩ hy => by
    rcases S.par n (List.of_mem_zip hy).1 with q | q
    · exact .inl q
    · exact .inr ⟨q, PySem.W.cellsFrom_some _ _ _ (.inl q)⟩
  refine codeAny_call_function hr.depth (KX _ _ lk) rfl S.co S.gen rfl (PySem.W.codeRec_of KX hcd) (hb _ _ _ _ ?_)
  refine wpAny_newFunctionEnv_cells S.kind hkind fun env he s1 x => ?_
  subst he
  refine ⟨lim.keeps x.toInCall.keep, codeAny_func ?_⟩
  obtain ⟨t, ht, hq⟩ := hbody A outer s H vs Q E (hr.deeper _) hsp
  have I : Inv (cxOf CX P w K mg base N qual scope f cdv A outer s H E) [] (start N vs) H s1 := inv_start S hr.hd e0 hl r x
  refine wpAny_mono (ht [] s1 (start N vs) H _ I hq) (fun fl s' hs => ?_) fun e s' hs => hs
  have fin : ∀ {σ' : St} {H' : Hp} {v : V} {u : Value}, Inv (cxOf CX P w K mg base N qual scope f cdv A outer s H E) [] σ' H' s' → RelV v u → Q v H' → CE outer P w H s Q u s' :=
    fun {σ' H' v u} J rv q => ⟨v, H', J.os, J.bare, J.base, J.hok, rv, q⟩
  cases fl with
  | ret u =>
    obtain ⟨v, σ', H', J, rv, q⟩ := hs
    exact fin J rv q
  | next =>
    obtain ⟨σ', H', J, q⟩ := hs
    exact fin (v := V.non) (u := Value.none) J rfl q
  | brk =>
    obtain ⟨_, _, _, q⟩ := hs
    exact False.elim q
  | cont =>
    obtain ⟨_, _, _, q⟩ := hs
    exact False.elim q
end L2
namespace L2
open PySem PySem.Spec PyProof.Rows
section
variable {X : Cx} {x : Str} {p pos : Pos} {e : Expr} {es : List Expr} {t : TA} {id T : String} {r : List V → Hp → VK → Prop}
def tCB (r : List V → Hp → VK → Prop) (t : TA) : TE := fun σ H Q => t σ H fun vs H1 => r vs H1 Q
/-- f(e, ..), f a built-in function -/
theorem pe_callB (hc : CallR X (.builtin id) r) (hg : Gl X x) (hm : X.mg x = none) (hv : bootBuiltins x = some (.builtin id)) (ha : PA X (e :: es) t) (hn : x ≠ "__name__" := by decide) (hdb : (x == ("__debug__" : Str)) = false := by decide)
    (he : starEach (e :: es) X.env = (false, eval e X.env) :: starEach es X.env := by rfl) (hpl : (backTo pos (starEach es X.env)).any (·.1) = false := by rfl) : PE X (.Call (.Name x p) (e :: es) [] pos) (tCB r t) := by
  intro pins s σ H Q I h
  refine wpAny_Call_Name_kw (ld_blt I hg hm hv ?_ hn hdb)
  exact PyProof.Rows.callWith_builtin1 (thn (ha pos pins s σ H _ I h) fun us s1 ⟨vs, H1, I1, r1, q1⟩ => hc pins s1 σ H1 vs us Q I1 r1 q1) he hpl
/-- T(e, ..), T a built-in type -/
theorem pe_callTy (hc : CallR X (.type T) r) (hg : Gl X x) (hm : X.mg x = none) (hv : bootBuiltins x = some (.type T)) (ha : PA X (e :: es) t) (hn : x ≠ "__name__" := by decide) (hdb : (x == ("__debug__" : Str)) = false := by decide)
    (he : starEach (e :: es) X.env = (false, eval e X.env) :: starEach es X.env := by rfl) (hpl : (backTo pos (starEach es X.env)).any (·.1) = false := by rfl) : PE X (.Call (.Name x p) (e :: es) [] pos) (tCB r t) := by
  intro pins s σ H Q I h
  refine wpAny_Call_Name_kw (ld_blt I hg hm hv ?_ hn hdb)
  exact PyProof.Rows.callWith_type1 (thn (ha pos pins s σ H _ I h) fun us s1 ⟨vs, H1, I1, r1, q1⟩ => hc pins s1 σ H1 vs us Q I1 r1 q1) he hpl
end
end L2
namespace HT
open PySem PyProof.Rows
section
open PySem.SeqAt
open PySem.AutoSeq1 (wpAny_loadPart')
open PySem.MeetsSeq PySem.MeetsSeq2 PySem.MeetsSeq3
end
section
variable {prog : Program} {w : World} {A : Around} {E : Value → Shared → Prop} {s : Shared}
/-! ### t[a:b], not the whole -/
/-- a slice's bound as a place among n (d where it is left out) -/
def sIx (n d : Nat) : Option Int → Nat
  | none => d
  | some v => if v < 0 then (v + (n : Int)).toNat else min v.toNat n
theorem sIx_none (n d : Nat) : sIx n d none = d := rfl
theorem sIx_nat (n d k : Nat) : sIx n d (some (k : Int)) = min k n := by
  show (if (k : Int) < 0 then ((k : Int) + (n : Int)).toNat else min (k : Int).toNat n) = min k n
  rw [if_neg (by omega), Int.toNat_natCast]
end
end HT
namespace L2
open PySem PySem.Spec PyProof.Rows
/-! ### the parts of a slice -/
abbrev TO := St → Hp → (Option Int → Hp → Prop) → Prop
/-- a slice's part (left out, or an int) -/
def PO (X : Cx) (e : Option Expr) (t : TO) : Prop :=
  ∀ (pins : List (Addr × Obj)) (s : Shared) (σ : St) (H : Hp) (Q : Option Int → Hp → Prop), Inv X pins σ H s → t σ H Q →
    wpAny (model X.prog X.w) X.A (evalPart e X.env) (fun u s' => ∃ o H', Inv X pins σ H' s' ∧ IsPart u o ∧ Q o H') X.xe s
def tNoPart : TO := fun _ H Q => Q none H
def tPart (t : TE) : TO := fun σ H Q => t σ H fun x H1 => ∃ i, x = .int i ∧ Q (some i) H1
section
variable {X : Cx} {e : Expr} {te : TE} {lo hi : Option Expr} {tl th : TO} {pos p2 : Pos}
theorem po_none : PO X none tNoPart := by
  intro pins s σ H Q I h
  rw [evalPart_none]
  exact wpAny_pure ⟨none, H, I, .none, h⟩
theorem po_some (h : PE X e te) : PO X (some e) (tPart te) := by
  intro pins s σ H Q I hw
  rw [evalPart_some]
  refine thn (h pins s σ H _ I hw) fun u s1 ⟨x, H1, I1, r1, q1⟩ => ?_
  obtain ⟨i, rfl, q⟩ := q1
  obtain ⟨t, rfl⟩ := r1
  exact ⟨some i, H1, I1, .int i t, q⟩
/-- what a slice of a value is, by values: the slice object stands at sl -/
def SlR (X : Cx) (r : V → Option Int → Option Int → Hp → VK → Prop) : Prop :=
  ∀ (pins : List (Addr × Obj)) (s : Shared) (σ : St) (H : Hp) (x : V) (v vl vu : Value) (lo hi : Option Int) (sl : Addr) (Q : VK), Inv X pins σ H s → RelV x v → s.heap.IsSliceOf sl vl vu .none → IsPart vl lo → IsPart vu hi → r x lo hi H Q →
    ∃ T id, typeLookup (.type T) "__getitem__" = pure (some (.builtin id)) ∧ s.TypeIs v T ∧ wpAny (model X.prog X.w) X.A (getItem v (.ref sl)) (EP X pins σ Q) X.xe s
theorem SlR.or {r r' : V → Option Int → Option Int → Hp → VK → Prop} (h : SlR X r) (h' : SlR X r') : SlR X (fun x lo hi H Q => r x lo hi H Q ∨ r' x lo hi H Q) := by
  intro pins s σ H x v vl vu lo hi sl Q I rx hs pl pu q
  rcases q with q | q
  · exact h pins s σ H x v vl vu lo hi sl Q I rx hs pl pu q
  · exact h' pins s σ H x v vl vu lo hi sl Q I rx hs pl pu q
def tSl (r : V → Option Int → Option Int → Hp → VK → Prop) (te : TE) (tl th : TO) : TE := fun σ H Q => te σ H fun x H1 => tl σ H1 fun l H2 => th σ H2 fun u H3 => r x l u H3 Q
/-- a[lo:hi], any a -/
theorem pe_slice {r : V → Option Int → Option Int → Hp → VK → Prop} (hr : SlR X r) (he : PE X e te) (hl : PO X lo tl) (hu : PO X hi th) : PE X (.Subscript e (.Slice lo hi none p2) pos) (tSl r te tl th) := by
  intro pins s σ H Q I h
  refine Subscript_ (thn (he pins s σ H _ I h) fun v s1 ⟨x, H1, I1, r1, q1⟩ => ?_)
  refine wpAny_Slice (thn (hl pins s1 σ H1 _ I1 q1) fun vl s2 ⟨l, H2, I2, pl, q2⟩ => thn (hu pins s2 σ H2 _ I2 q2) fun vu s3 ⟨u, H3, I3, pu, q3⟩ => ?_)
  rw [evalPart_none]
  refine wpAny_pure ?_
  have I4 : Inv X pins σ H3 { s3 with heap := s3.heap.push { cls := .type "slice", data := .fields #[vl, vu, .none] } } := I3.kept (t' := s3.toks) fun b ob q => Heap.get?_push_of_some _ q
  obtain ⟨T, id, hT, ht, hg⟩ := hr pins { s3 with heap := s3.heap.push { cls := .type "slice", data := .fields #[vl, vu, .none] } } σ H3 x v vl vu l u s3.heap.objs.size Q I4 r1 (Heap.IsSliceOf.new ..) pl pu q3
  show wpAny (model X.prog X.w) X.A (subscriptTail e (.Slice lo hi none p2) v (.ref s3.heap.objs.size)) (EP X pins σ Q) X.xe { s3 with heap := s3.heap.push { cls := .type "slice", data := .fields #[vl, vu, .none] } }
  exact tail_any (ops := [.ref s3.heap.objs.size, v]) ht hT hg (by with_unfolding_all rfl)
/-- the items of xs[lo:hi] -/
def cutV (xs : List V) (lo hi : Option Int) : List V := (xs.drop (HT.sIx xs.length 0 lo)).take (HT.sIx xs.length xs.length hi - HT.sIx xs.length 0 lo)
theorem cutV_length (xs : List V) (lo hi : Option Int) : (cutV xs lo hi).length ≤ xs.length := by
  unfold cutV
  rw [List.length_take, List.length_drop]
  omega
/-! ### t < u, t + u -/
end
end L2
namespace L2
open PySem PySem.Spec PyProof.Rows
/-! ### places -/
/-- the place that an index of any sign means -/
def ixN (n : Nat) (i : Int) : Option Nat := if 0 ≤ i then (if i < n then some i.toNat else none) else if -(n : Int) ≤ i then some (i + n).toNat else none
def atI {α : Type} (xs : List α) (i : Int) : Option α := (ixN xs.length i).bind fun j => xs[j]?
theorem ixN_seq {n : Nat} {i : Int} {j : Nat} (h : ixN n i = some j) : seqIndex? i n = some j ∧ j < n ∧ -(n : Int) ≤ i ∧ i < n := by
  unfold ixN at h
  by_cases h0 : 0 ≤ i
  · rw [if_pos h0] at h
    by_cases h1 : i < n
    · rw [if_pos h1] at h
      have e : i.toNat = j := Option.some.inj h
      exact ⟨by rw [seqIndex_of h0 h1, e], by omega, by omega, h1⟩
    · rw [if_neg h1] at h; cases h
  · rw [if_neg h0] at h
    by_cases h1 : -(n : Int) ≤ i
    · rw [if_pos h1] at h
      have e : (i + n).toNat = j := Option.some.inj h
      exact ⟨by rw [seqIndex_neg (by omega) h1, e], by omega, h1, by omega⟩
    · rw [if_neg h1] at h; cases h
theorem atI_get {α : Type} {xs : List α} {i : Int} {v : α} (h : atI xs i = some v) : ∃ j, seqIndex? i xs.length = some j ∧ xs[j]? = some v ∧ j < xs.length ∧ -(xs.length : Int) ≤ i ∧ i < xs.length := by
  unfold atI at h
  cases e : ixN xs.length i with
  | none => rw [e] at h; cases h
  | some j =>
    rw [e] at h
    obtain ⟨h1, h2, h3, h4⟩ := ixN_seq e
    exact ⟨j, h1, h, h2, h3, h4⟩
theorem atI_nat {α : Type} {xs : List α} {j : Nat} {v : α} (h : xs[j]? = some v) : atI xs (j : Int) = some v := by
  have hj : j < xs.length := (List.getElem?_eq_some_iff.mp h).1
  have e : ixN xs.length (j : Int) = some j := by
    unfold ixN
    rw [if_pos (by omega), if_pos (by omega)]; simp
  unfold atI; rw [e]; exact h
/-! ### what may be subscripted -/
/-- what stands as an index of a plain subscript -/
def PlainIx (b : Expr) : Prop := ∀ o i, subscripted b false o i = operate [o, i] (getItem o i)
/-- a subscript by values -/
def IxR (X : Cx) (r : R2) : Prop :=
  ∀ (value slice : Expr) (pins : List (Addr × Obj)) (s : Shared) (σ : St) (H : Hp) (x y : V) (v u : Value) (Q : VK), Inv X pins σ H s → RelV x v → RelV y u → r x y H Q →
    subscripted slice false v u = operate [v, u] (getItem v u) → wpAny (model X.prog X.w) X.A (subscriptTail value slice v u) (EP X pins σ Q) X.xe s
/-- a call of a builtin's method by values: the receiver, the arguments -/
def MtR (X : Cx) (id : String) (r : V → List V → Hp → VK → Prop) : Prop :=
  ∀ (pins : List (Addr × Obj)) (s : Shared) (σ : St) (H : Hp) (x : V) (xs : List V) (v : Value) (us : List Value) (Q : VK), Inv X pins σ H s → RelV x v → Vals xs us → r x xs H Q →
    wpAny (model X.prog X.w) X.A (call (.builtin id) (v :: us)) (EP X pins σ Q) X.xe s
section
variable {X : Cx} {a b : Expr} {ta tb : TE} {pos : Pos}
theorem IxR.or {r r' : R2} (h : IxR X r) (h' : IxR X r') : IxR X (fun x y H Q => r x y H Q ∨ r' x y H Q) := by
  intro value slice pins s σ H x y v u Q I rx ry q hs
  rcases q with q | q
  · exact h value slice pins s σ H x y v u Q I rx ry q hs
  · exact h' value slice pins s σ H x y v u Q I rx ry q hs
theorem MtR.or {id : String} {r r' : V → List V → Hp → VK → Prop} (h : MtR X id r) (h' : MtR X id r') : MtR X id (fun x xs H Q => r x xs H Q ∨ r' x xs H Q) := by
  intro pins s σ H x xs v us Q I rx rs q
  rcases q with q | q
  · exact h pins s σ H x xs v us Q I rx rs q
  · exact h' pins s σ H x xs v us Q I rx rs q
/-- a[b] -/
theorem pe_ix {r : R2} (hr : IxR X r) (ha : PE X a ta) (hb : PE X b tb) (hs : PlainIx b) : PE X (.Subscript a b pos) (tOp r ta tb) := by
  intro pins s σ H Q I h
  exact Subscript_ (binT ha hb I h fun v u s2 x y H2 I2 rx ry q => hr a b pins s2 σ H2 x y v u Q I2 rx ry q (hs _ _))
def rIxL (K : PySem.W.Frag) : R2 := fun x y H Q => ∃ p xs i v, x = .ref p ∧ y = .int i ∧ SqL K H p xs ∧ atI xs i = some v ∧ Q v H
def rIxS : R2 := fun x y H Q => ∃ z i c, x = .str z ∧ y = .int i ∧ z.length ≤ sizeLine ∧ atI z.cps.toList i = some c ∧ Q (.str ⟨#[c]⟩) H
theorem ix_list : IxR X (rIxL X.K) := by
  intro value slice pins s σ H x y v u Q I rx ry h hs
  obtain ⟨p, xs, i, z, rfl, rfl, hq, he, q⟩ := h
  cases rx
  obtain ⟨t, rfl⟩ := ry
  obtain ⟨its, r, pl, hz⟩ := I.list hq
  obtain ⟨j, h1, h2, h3, h4, h5⟩ := atI_get he
  obtain ⟨w, ew, rw'⟩ := r.get h2
  have hl := r.length
  have hn := line63
  have fin : EP X pins σ Q w s := ⟨z, H, I, rw', q⟩
  by_cases h0 : 0 ≤ i
  · have hj : i.toNat = j := by
      rw [seqIndex_of h0 h5] at h1
      exact Option.some.inj h1
    exact item_listR pl.isList h0 (by omega) (by rw [hj]; simpa using ew) fin hs
  · have hj : (i + (its.toArray.size : Int)).toNat = j := by
      rw [seqIndex_neg (by omega) h4] at h1
      rw [List.size_toArray, ← hl]
      exact Option.some.inj h1
    exact subscriptTail_builtinR (x := w) pl.isList.typeIs slot_list_getitem.lookup
      (wpAny_getItem_list_neg (Q := fun r s' => r = w ∧ EP X pins σ Q r s') pl.isList (by omega) (by rw [List.size_toArray] <;> omega) (by omega) (by rw [hj]; simpa using ew) ⟨rfl, fin⟩) hs
theorem ix_str : IxR X rIxS := by
  intro value slice pins s σ H x y v u Q I rx ry h hs
  obtain ⟨z, i, c, rfl, rfl, hz, he, q⟩ := h
  obtain ⟨t, rfl⟩ := rx
  obtain ⟨t', rfl⟩ := ry
  obtain ⟨j, h1, h2, h3, h4, h5⟩ := atI_get he
  have hl : z.cps.toList.length = z.length := by simp [Str.length]
  rw [hl] at h1 h4 h5
  have hn := line63
  exact tail_any (typeIs_str s z t) slot_str_getitem.lookup (getItem_str (c := c) (by
    have e1 : decide (i < -(2 ^ 63 : Int)) = false := decide_eq_false (by omega)
    have e2 : decide (i ≥ 2 ^ 63) = false := decide_eq_false (by omega)
    rw [e1, e2, Bool.or_false]) (by rw [h1]; simpa using h2) ⟨.str ⟨#[c]⟩, H, I.tok _, ⟨_, rfl⟩, q⟩) hs
/-! ### xs[i] = v, any sign -/
/-- the list's object behind a store -/
theorem mapSeq_set (its : List Value) (n j : Nat) (u : Value) : Obj.mapSeq (·.setIfInBounds j u) { cls := .type "list", data := .seq its.toArray n } = { cls := .type "list", data := .seq (its.set j u).toArray n } := by
  simp [Obj.mapSeq]
theorem Inv.lst {pins : List (Addr × Obj)} {σ : St} {H : Hp} {s : Shared} {p : Addr} {xs : List V} (I : Inv X pins σ H s) (h : H p = some (.lst xs)) :
    ∃ (its : List Value) (n : Nat), Vals xs its ∧ s.heap.get? p = some { cls := .type "list", data := .seq its.toArray n } ∧ xs.length ≤ sizeLine := by
  obtain ⟨z, its, n, r, e⟩ := I.hok p _ h
  exact ⟨its, n, r, e, z⟩
/-- the list at p is written by an update of its object -/
theorem Inv.lstUpd {pins : List (Addr × Obj)} {σ : St} {H : Hp} {s : Shared} {p : Addr} {xs ys : List V} {its its' : List Value} {n n' : Nat} {f : Obj → Obj} (I : Inv X pins σ H s) (h : H p = some (.lst xs))
    (ho : s.heap.get? p = some { cls := .type "list", data := .seq its.toArray n }) (hf : f { cls := .type "list", data := .seq its.toArray n } = { cls := .type "list", data := .seq its'.toArray n' }) (r : Vals ys its') (hz : ys.length ≤ sizeLine) (t : Nat) :
    Inv X pins σ (upd H p (.lst ys)) { s with heap := s.heap.update p f, toks := t } := by
  have e : (s.heap.update p f).get? p = some { cls := .type "list", data := .seq its'.toArray n' } := by
    rw [Heap.get?_update_self f ho (by rw [hf] <;> rfl), hf]
  refine I.write (x := p) (e := p) (by rw [h]; trivial) (.inl rfl) (fun b u hb q => (Heap.get?_update_other _ _ (Ne.symm hb)).trans q) ⟨_, e⟩ ?_
  exact ⟨hz, its', n', r, e⟩
def rSetL : V → V → V → Hp → (Hp → Prop) → Prop := fun o i v H Q => ∃ p xs k j, o = .ref p ∧ i = .int k ∧ H p = some (.lst xs) ∧ ixN xs.length k = some j ∧ Q (upd H p (.lst (xs.set j v)))
theorem set_list : PSet X rSetL := by
  intro pins s σ H o i v ov iv u Q I ro ri rv h
  obtain ⟨p, xs, k, j, rfl, rfl, hp, hj, q⟩ := h
  cases ro
  obtain ⟨t, rfl⟩ := ri
  obtain ⟨its, n, r, ho, hz⟩ := I.lst hp
  obtain ⟨h1, h2, h3, h4⟩ := ixN_seq hj
  have hl := r.length
  have hn := line63
  have I' : Inv X pins σ (upd H p (.lst (xs.set j v))) { s with heap := s.heap.update p (Obj.mapSeq (·.setIfInBounds j u)) } :=
    I.lstUpd hp ho (mapSeq_set its n j u) (r.set rv j) (by rw [List.length_set]; exact hz) s.toks
  by_cases h0 : 0 ≤ k
  · have hk : k.toNat = j := by
      rw [seqIndex_of h0 h4] at h1
      exact Option.some.inj h1
    exact PySem.W.ki_setAt ho h0 (by omega) (by rw [List.size_toArray, ← hl]; exact h4) (by rw [hk]; exact ⟨_, I', q⟩)
  · have hk : (k + (its.toArray.size : Int)).toNat = j := by
      rw [seqIndex_neg (by omega) h3] at h1
      rw [List.size_toArray, ← hl]
      exact Option.some.inj h1
    exact PySem.W.ki_setBack ho (by omega) (by rw [List.size_toArray, ← hl]; exact h3) (by omega) (by rw [hk]; exact ⟨_, I', q⟩)
/-! ### slices -/
theorem slice_bounds (lo hi : Option Int) (n : Nat) : (sliceBounds lo hi none n).1 = ((HT.sIx n 0 lo : Nat) : Int) ∧ (sliceBounds lo hi none n).2.1 = ((HT.sIx n n hi : Nat) : Int) ∧ (sliceBounds lo hi none n).2.2 = 1 := by
  refine ⟨?_, ?_, rfl⟩
  · cases lo with
    | none => simp [sliceBounds, HT.sIx]
    | some i =>
      simp only [sliceBounds, HT.sIx, Option.getD_none, show (1 : Int) > 0 by decide, if_true]
      by_cases h : i < 0
      · simp only [h, if_true] <;> omega
      · simp only [h, if_false] <;> omega
  · cases hi with
    | none => simp [sliceBounds, HT.sIx]
    | some i =>
      simp only [sliceBounds, HT.sIx, Option.getD_none, show (1 : Int) > 0 by decide, if_true]
      by_cases h : i < 0
      · simp only [h, if_true] <;> omega
      · simp only [h, if_false] <;> omega
theorem slicePick_cut (its : List Value) (lo hi : Option Int) : slicePick its.toArray lo hi none = ((its.drop (HT.sIx its.length 0 lo)).take (HT.sIx its.length its.length hi - HT.sIx its.length 0 lo)).toArray := by
  obtain ⟨h1, h2, h3⟩ := slice_bounds lo hi its.toArray.size
  unfold slicePick
  rw [h1, h2, h3]
  simp only [sliceRange_one, pick_run, List.size_toArray] <;> rfl
/-- xs[lo:hi] of a list: a new list -/
def rSlL (K : PySem.W.Frag) : V → Option Int → Option Int → Hp → VK → Prop := fun x lo hi H Q => ∃ a xs, x = .ref a ∧ SqL K H a xs ∧ ∀ p, H p = none → Q (.ref p) (upd H p (.lst (cutV xs lo hi)))
theorem sl_list : SlR X (rSlL X.K) := by
  intro pins s σ H x v vl vu lo hi sl Q I rx hs pl pu h
  obtain ⟨a, xs, rfl, hx, q⟩ := h
  cases rx
  obtain ⟨its, r, ht, hz⟩ := I.list hx
  have hlen := r.length
  refine ⟨"list", _, slot_list_getitem.lookup, ht.isList.typeIs, ?_⟩
  refine wpAny_getItem_list_slice ht.isList hs pl pu .none (by simp) ?_ (by rw [List.size_toArray] <;> omega)
  rw [slicePick_cut, ← hlen]
  refine ⟨.ref s.heap.objs.size, _, I.laid (t' := s.toks) (o := .lst (cutV xs lo hi)) (fun b ob q => Heap.get?_push_of_some _ q) (Nat.le_refl _) ?_, rfl, q _ (I.hok.fresh (Nat.le_refl _))⟩
  exact ⟨Nat.le_trans (cutV_length xs lo hi) hz, _, 0, (r.drop (HT.sIx xs.length 0 lo)).take (HT.sIx xs.length xs.length hi - HT.sIx xs.length 0 lo), Heap.get?_push_size _ rfl⟩
/-! ### in, not in: flat items -/
def flatV : V → Bool
  | .non => true
  | .bl _ => true
  | .int _ => true
  | .str _ => true
  | _ => false
/-- == of flat values -/
def eqV : V → V → Bool
  | .non, .non => true
  | .bl a, .bl b => a == b
  | .bl a, .int b => (if a then 1 else 0) == b
  | .int a, .bl b => a == (if b then 1 else 0)
  | .int a, .int b => a == b
  | .str a, .str b => a == b
  | _, _ => false
theorem eqAt_V {A : Around} {s : Shared} {y x : V} {u v : Value} (ry : RelV y u) (rx : RelV x v) (fy : flatV y = true) (fx : flatV x = true) : SeqAt.EqAt A s u v (eqV y x) := by
  cases y with
  | non =>
    cases ry
    cases x with
    | non => cases rx; exact SeqAt.EqAt.same _
    | bl b => cases rx; exact SeqAt.EqAt.none_bool b
    | int b => obtain ⟨t, rfl⟩ := rx; exact SeqAt.EqAt.none_int b t
    | str b => obtain ⟨t, rfl⟩ := rx; exact SeqAt.EqAt.none_str b t
    | _ => exact absurd (show false = true from fx) Bool.false_ne_true
  | bl a =>
    cases ry
    cases x with
    | non => cases rx; exact SeqAt.EqAt.bool_none a
    | bl b => cases rx; exact SeqAt.EqAt.bool_bool a b
    | int b => obtain ⟨t, rfl⟩ := rx; exact SeqAt.EqAt.bool_int a b t
    | str b => obtain ⟨t, rfl⟩ := rx; exact SeqAt.EqAt.bool_str a b t
    | _ => exact absurd (show false = true from fx) Bool.false_ne_true
  | int a =>
    obtain ⟨t', rfl⟩ := ry
    cases x with
    | non => cases rx; exact SeqAt.EqAt.int_none a t'
    | bl b => cases rx; exact SeqAt.EqAt.int_bool a t' b
    | int b => obtain ⟨t, rfl⟩ := rx; exact SeqAt.EqAt.int_int a t' b t
    | str b => obtain ⟨t, rfl⟩ := rx; exact SeqAt.EqAt.int_str a t' b t
    | _ => exact absurd (show false = true from fx) Bool.false_ne_true
  | str a =>
    obtain ⟨t', rfl⟩ := ry
    cases x with
    | non => cases rx; exact SeqAt.EqAt.str_none a t'
    | bl b => cases rx; exact SeqAt.EqAt.str_bool a t' b
    | int b => obtain ⟨t, rfl⟩ := rx; exact SeqAt.EqAt.str_int a t' b t
    | str b => obtain ⟨t, rfl⟩ := rx; exact SeqAt.EqAt.str_str a t' b t
    | _ => exact absurd (show false = true from fx) Bool.false_ne_true
  | _ => exact absurd (show false = true from fy) Bool.false_ne_true
/-- the items' answers, read off the values (a value's own answer does not lean on its token) -/
def eqU (x : V) (u : Value) : Bool := match u with
  | .none => eqV .non x
  | .bool b => eqV (.bl b) x
  | .int i _ => eqV (.int i) x
  | .str z _ => eqV (.str z) x
  | _ => false
theorem eqU_of {x y : V} {u : Value} (r : RelV y u) (f : flatV y = true) : eqU x u = eqV y x := by
  cases y with
  | non => cases r; rfl
  | bl b => cases r; rfl
  | int i => obtain ⟨t, rfl⟩ := r; rfl
  | str z => obtain ⟨t, rfl⟩ := r; rfl
  | _ => exact absurd (show false = true from f) Bool.false_ne_true
theorem any_eqU {x : V} : ∀ {xs : List V} {us : List Value}, Vals xs us → xs.all flatV = true → us.any (eqU x) = xs.any fun y => eqV y x
  | _, _, .nil, _ => rfl
  | y :: xs, u :: us, .cons r t, f => by
    rw [List.all_cons, Bool.and_eq_true] at f
    rw [List.any_cons, List.any_cons, eqU_of r f.1, any_eqU t f.2]
theorem mem_eqAt {A : Around} {s : Shared} {x : V} {v : Value} (rx : RelV x v) (fx : flatV x = true) : ∀ {xs : List V} {us : List Value}, Vals xs us → xs.all flatV = true → ∀ u ∈ us, SeqAt.EqAt A s u v (eqU x u)
  | _, _, .nil, _ => fun u hu => by cases hu
  | y :: xs, u :: us, .cons r t, f => fun u' hu => by
    rw [List.all_cons, Bool.and_eq_true] at f
    rcases List.mem_cons.mp hu with rfl | hu
    · rw [eqU_of r f.1]; exact eqAt_V r rx f.1 fx
    · exact mem_eqAt rx fx t f.2 u' hu
def inV (x : V) (xs : List V) : Bool := xs.any fun y => eqV y x
/-- x in a list or tuple of flat items -/
def rIn (K : PySem.W.Frag) (neg : Bool) : R2 := fun x y H Q => ∃ p xs, y = .ref p ∧ (SqL K H p xs ∨ SqT K H p xs) ∧ flatV x = true ∧ xs.all flatV = true ∧ Q (.bl (if neg then !inV x xs else inV x xs)) H
theorem op_notIn_seq : OpR X (compareOp .NotIn) (rIn X.K true) := by
  intro pins s σ H x y v u Q I rx ry h
  obtain ⟨p, xs, rfl, hq, fx, fs, q⟩ := h
  cases ry
  rcases hq with hq | hq
  · obtain ⟨its, r, pl, hz⟩ := I.list hq
    refine SeqAt.notIn_listAt (eqU x) pl.isList (fun w hw => mem_eqAt rx fx r fs w (by simpa using hw)) ⟨.bl _, H, I, rfl, ?_⟩
    rw [show its.toArray.any (eqU x) = its.any (eqU x) by simp, any_eqU r fs]
    exact q
  · obtain ⟨its, r, pl, hz⟩ := I.tuple hq
    refine SeqAt.notIn_tupleAt (eqU x) pl (fun w hw => mem_eqAt rx fx r fs w (by simpa using hw)) ⟨.bl _, H, I, rfl, ?_⟩
    rw [show its.toArray.any (eqU x) = its.any (eqU x) by simp, any_eqU r fs]
    exact q
/-! ### len, list(x), tuple(x) of any list or tuple that is read -/
theorem call_len_seq : CallR X (.builtin "len") (fun xs H Q => ∃ p ys, xs = [.ref p] ∧ (SqL X.K H p ys ∨ SqT X.K H p ys) ∧ Q (.int ys.length) H) := by
  intro pins s σ H xs us Q I r h
  obtain ⟨p, ys, rfl, hq, q⟩ := h
  obtain ⟨u, rfl, rx⟩ := vals1 r
  cases rx
  have hn := line63
  rcases hq with hq | hq
  · obtain ⟨its, r', pl, hz⟩ := I.list hq
    have hlen := r'.length
    exact Calls.call_len_list pl.isList (by simp only [List.size_toArray] <;> omega) ⟨.int ys.length, H, I.tok _, ⟨s.toks + 1, by rw [List.size_toArray, hlen]⟩, q⟩
  · obtain ⟨its, r', pl, hz⟩ := I.tuple hq
    have hlen := r'.length
    exact len_tuple pl (by simp only [List.size_toArray] <;> omega) ⟨.int ys.length, H, I.tok _, ⟨s.toks + 1, by rw [List.size_toArray, hlen]⟩, q⟩
theorem call_len_str : CallR X (.builtin "len") (fun xs H Q => ∃ z, xs = [.str z] ∧ z.length ≤ sizeLine ∧ Q (.int z.length) H) := by
  intro pins s σ H xs us Q I r h
  obtain ⟨z, rfl, hz, q⟩ := h
  obtain ⟨u, rfl, t, rfl⟩ := vals1 r
  have hn := line63
  exact len_str (by omega) ⟨.int z.length, H, I.tok _, ⟨_, rfl⟩, q⟩
theorem CallR.or {f : Value} {r r' : List V → Hp → VK → Prop} (h : CallR X f r) (h' : CallR X f r') : CallR X f (fun xs H Q => r xs H Q ∨ r' xs H Q) := by
  intro pins s σ H xs us Q I rs q
  rcases q with q | q
  · exact h pins s σ H xs us Q I rs q
  · exact h' pins s σ H xs us Q I rs q
theorem call_list_of : CallR X (.type "list") (fun xs H Q => ∃ p ys, xs = [.ref p] ∧ (SqL X.K H p ys ∨ SqT X.K H p ys) ∧ ∀ l, H l = none → Q (.ref l) (upd H l (.lst ys))) := by
  intro pins s σ H xs us Q I r h
  obtain ⟨p, ys, rfl, hq, q⟩ := h
  obtain ⟨u, rfl, rx⟩ := vals1 r
  cases rx
  have fin : ∀ (its : List Value), Vals ys its → ys.length ≤ sizeLine → ∀ (h' : Heap) (c' : Nat), (∀ b o', s.heap.get? b = some o' → h'.get? b = some o') →
      h'.get? s.heap.objs.size = some { cls := .type "list", dict := none, data := .seq its.toArray c', slots := #[] } → EP X pins σ Q (.ref s.heap.objs.size) { s with heap := h' } := fun its r' hz h' c' kp e =>
    ⟨.ref s.heap.objs.size, _, I.laid (t' := s.toks) kp (Nat.le_refl _) (show ObjOk X.prog X.w _ h' _ (.lst ys) from ⟨hz, its, c', r', e⟩), rfl, q _ (I.hok.fresh (Nat.le_refl _))⟩
  rcases hq with hq | hq
  · obtain ⟨its, r', pl, hz⟩ := I.list hq
    have hlen := r'.length
    obtain ⟨o, ho, hc, n, hd⟩ := pl.isList
    exact call_list_seq p (.inl rfl) ho hc hd (fun h' c' kp e => fin its r' hz h' c' kp e) (by simp only [List.size_toArray] <;> omega)
  · obtain ⟨its, r', pl, hz⟩ := I.tuple hq
    have hlen := r'.length
    obtain ⟨o, ho, hc, n, hd⟩ := pl
    exact call_list_seq p (.inr rfl) ho hc hd (fun h' c' kp e => fin its r' hz h' c' kp e) (by simp only [List.size_toArray] <;> omega)
theorem call_tuple_of : CallR X (.type "tuple") (fun xs H Q => ∃ p ys, xs = [.ref p] ∧ ((SqL X.K H p ys ∧ ∀ l, H l = none → Q (.ref l) (upd H l (.tup ys))) ∨ (SqT X.K H p ys ∧ Q (.ref p) H))) := by
  intro pins s σ H xs us Q I r h
  obtain ⟨p, ys, rfl, h⟩ := h
  obtain ⟨u, rfl, rx⟩ := vals1 r
  cases rx
  rcases h with ⟨hq, q⟩ | ⟨hq, q⟩
  · obtain ⟨its, r', pl, hz⟩ := I.list hq
    have hlen := r'.length
    refine call_tuple_list pl.isList (fun h' kp => ?_) (by simp only [List.size_toArray] <;> omega)
    have I1 : Inv X pins σ H { s with heap := h' } := I.kept (t' := s.toks) kp
    have I2 : Inv X pins σ (upd H h'.objs.size (.tup ys)) { s with heap := h'.push { cls := .type "tuple", data := .seq its.toArray } } :=
      I1.laid (t' := s.toks) (fun b o e => Heap.get?_push_of_some _ e) (Nat.le_refl _) (show ObjOk X.prog X.w _ _ _ (.tup ys) from ⟨hz, its, r', IsTup.new _ _⟩)
    exact ⟨.ref h'.objs.size, _, I2, rfl, q _ (I1.hok.fresh (Nat.le_refl _))⟩
  · obtain ⟨its, r', pl, hz⟩ := I.tuple hq
    exact call_tuple_same pl ⟨.ref p, H, I, rfl, q⟩
/-! ### the call of a builtin's method: o.m(..) -/
/-- the value is of that builtin type -/
def tyV (K : PySem.W.Frag) (T : String) (x : V) (H : Hp) : Prop := match x with
  | .str _ => T = "str"
  | .int _ => T = "int"
  | .ref p => (T = "list" ∧ ∃ xs, SqL K H p xs) ∨ (T = "tuple" ∧ ∃ o, K.lookup p = some o ∧ o.cls = .type "tuple" ∧ o.dict = none) ∨
      (T = "dict" ∧ ((∃ kvs, H p = some (.dK kvs)) ∨ ∃ kvs, H p = some (.dT kvs))) ∨ (T = "set" ∧ ∃ S n, H p = some (.set S n))
  | _ => False
theorem tyV_is {pins : List (Addr × Obj)} {σ : St} {H : Hp} {s : Shared} {T : String} {x : V} {v : Value} (I : Inv X pins σ H s) (r : RelV x v) (ty : tyV X.K T x H) :
    s.TypeIs v T ∧ ∀ a, v = .ref a → ∃ ob, s.heap.get? a = some ob ∧ ob.dict = none := by
  cases x with
  | str z =>
    obtain ⟨t, rfl⟩ := r
    cases (show T = "str" from ty)
    exact ⟨typeIs_str s z t, fun _ e => nomatch e⟩
  | int i =>
    obtain ⟨t, rfl⟩ := r
    cases (show T = "int" from ty)
    exact ⟨typeIs_int s i t, fun _ e => nomatch e⟩
  | ref p =>
    cases r
    rcases ty with ⟨rfl, xs, hq⟩ | ⟨rfl, o, hk, hc, hd⟩ | ⟨rfl, hk⟩ | ⟨rfl, S, n, hk⟩
    · obtain ⟨its, _, pl, _⟩ := I.list hq
      refine ⟨pl.isList.typeIs, fun a e => ?_⟩
      cases e
      obtain ⟨o, n, e, c, hd, _⟩ := pl
      exact ⟨o, e, hd⟩
    · refine ⟨⟨o, I.kIn p o hk, hc⟩, fun a e => ?_⟩
      cases e
      exact ⟨o, I.kIn _ o hk, hd⟩
    · have z : ∃ o, s.heap.get? p = some o ∧ o.ExactDict := by
        rcases hk with ⟨kvs, hk⟩ | ⟨kvs, hk⟩
        · obtain ⟨_, _, _, _, o, _, _, e, ex, _⟩ := I.hok p _ hk
          exact ⟨o, e, ex⟩
        · obtain ⟨_, _, _, _, o, _, _, e, ex, _⟩ := I.hok p _ hk
          exact ⟨o, e, ex⟩
      obtain ⟨o, e, ex⟩ := z
      refine ⟨⟨o, e, ex.1⟩, fun a e2 => ?_⟩
      cases e2
      exact ⟨o, e, ex.2.1⟩
    · obtain ⟨o, _, _, _, e, ex, _⟩ := I.hok p _ hk
      refine ⟨⟨o, e, ex.1⟩, fun a e2 => ?_⟩
      cases e2
      exact ⟨o, e, ex.2.1⟩
  | _ => exact False.elim ty
def tBM0 (K : PySem.W.Frag) (T : String) (r : V → List V → Hp → VK → Prop) (to : TE) : TE := fun σ H Q => to σ H fun x H1 => tyV K T x H1 ∧ r x [] H1 Q
def tBM (K : PySem.W.Frag) (T : String) (r : V → List V → Hp → VK → Prop) (to : TE) (t : TA) : TE := fun σ H Q => to σ H fun x H1 => tyV K T x H1 ∧ t σ H1 fun xs H2 => r x xs H2 Q
variable {o e : Expr} {es : List Expr} {to : TE} {t : TA} {name : Str} {apos cpos : Pos} {T id : String} {r : V → List V → Hp → VK → Prop}
theorem pe_bm (pa : PlainAttrs T) (slot : Slot T name id) (hty : typeOf (.builtin id) = pure (.type "method_descriptor")) (hm : MtR X id r) (ho : PE X o to) (ha : PA X (e :: es) t)
    (hbase : attributeBase o name X.env (eval o X.env) = eval o X.env := by rfl)
    (hfew : ((backTo cpos (starEach (e :: es) X.env)).all (fun x => !x.1) && (backToKw cpos (keywordEach [] X.env)).all (fun x => x.1.isSome)
      && decide ((e :: es).length + ([] : List Keyword).length + (if ([] : List Keyword).isEmpty then 0 else 1) < 30)) = true := by rfl)
    (hline : (apos.endLine == cpos.line) = true := by rfl) (hs : starEach (e :: es) X.env = (false, eval e X.env) :: starEach es X.env := by rfl) (hplain : (backTo cpos (starEach es X.env)).any (·.1) = false := by rfl) :
    PE X (.Call (.Attribute o name apos) (e :: es) [] cpos) (tBM X.K T r to t) := by
  intro pins s σ H Q I h
  refine wpAny_Call_method_late hbase hfew hline rfl (thn (ho pins s σ H _ I h) fun v s1 ⟨x, H1, I1, r1, ty, q1⟩ => ?_)
  obtain ⟨h1, h2⟩ := tyV_is I1 r1 ty
  refine ⟨T, id, pa, slot, hty, h1, h2, ?_⟩
  have hA := ha cpos pins s1 σ H1 _ I1 q1
  rw [hs] at hA ⊢
  refine Calls.callWith_builtin (by show (false || (backTo cpos (starEach es X.env)).any (·.1)) = false; rw [hplain] <;> rfl) (Calls.evalArgs_plain ?_)
  exact thn hA fun us s2 ⟨vs, H2, I2, r2, q2⟩ => hm pins s2 σ H2 x vs v us Q I2 r1 r2 q2
/- xs.append(e), list.index on a module's tuple .. are MtR facts of 06m -/
end
end L2
namespace L2
open PySem PySem.Spec PyProof.Rows
def MtM (X : Cx) (id : String) (r : V → List V → Hp → VK → Prop) : Prop :=
  ∀ (pins : List (Addr × Obj)) (s : Shared) (σ : St) (H : Hp) (x : V) (xs : List V) (v : Value) (us : List Value) (Q : VK), Inv X pins σ H s → RelV x v → Vals xs us → r x xs H Q →
    wpAny (model X.prog X.w) X.A (call (.builtin id) (v :: us)) (EP X pins σ Q) X.xe s
/-! ### lists of values -/
theorem Vals.one : ∀ {x : V} {us : List Value}, Vals [x] us → ∃ u, us = [u] ∧ RelV x u
  | _, _, .cons r .nil => ⟨_, rfl, r⟩
theorem Vals.two : ∀ {x y : V} {us : List Value}, Vals [x, y] us → ∃ u v, us = [u, v] ∧ RelV x u ∧ RelV y v
  | _, _, _, .cons r (.cons q .nil) => ⟨_, _, rfl, r, q⟩
theorem Vals.zero : ∀ {us : List Value}, Vals [] us → us = []
  | _, .nil => rfl
theorem Vals.reverse {xs : List V} {us : List Value} (h : Vals xs us) : Vals xs.reverse us.reverse := by
  induction h with
  | nil => exact .nil
  | cons r t ih => rw [List.reverse_cons, List.reverse_cons]; exact Vals.append ih (.cons r .nil)
section
variable {X : Cx} {pins : List (Addr × Obj)} {σ : St} {H : Hp} {s : Shared} {l b : Addr} {xs ys zs : List V}
/-! ### the two steps: a tracked list is rewritten, a new list is laid -/
theorem Inv.lset {its its' : List Value} {n : Nat} {f : Array Value → Array Value} {t' : Nat} (I : Inv X pins σ H s) (hH : H l = some (.lst xs))
    (e : s.heap.get? l = some { cls := .type "list", data := .seq its.toArray n }) (hf : f its.toArray = its'.toArray) (hv : Vals ys its') (hz : ys.length ≤ sizeLine) :
    Inv X pins σ (upd H l (.lst ys)) { s with heap := s.heap.update l (Obj.mapSeq f), toks := t' } := by
  have q := PySem.IsL.update e f
  rw [hf] at q
  refine I.write (x := l) (e := l) (by rw [hH]; exact trivial) (.inl rfl) (fun b' u hb hu => (Heap.get?_update_other s.heap (Obj.mapSeq f) (Ne.symm hb)).trans hu) ⟨_, q⟩ ?_
  exact ⟨hz, its', _, hv, q⟩
theorem Inv.lnew {its : List Value} {t' : Nat} (I : Inv X pins σ H s) (hv : Vals ys its) (hz : ys.length ≤ sizeLine) :
    Inv X pins σ (upd H s.heap.objs.size (.lst ys)) { s with heap := s.heap.push { cls := .type "list", data := .seq its.toArray }, toks := t' } :=
  I.laid (fun _ _ q => Heap.get?_push_of_some _ q) (Nat.le_refl _) ⟨hz, its, 0, hv, Heap.get?_push_size _ rfl⟩
theorem Inv.fresh (I : Inv X pins σ H s) : H s.heap.objs.size = none := I.hok.fresh (Nat.le_refl _)
theorem Inv.lstM (I : Inv X pins σ H s) (hH : H l = some (.lst xs)) : xs.length ≤ sizeLine ∧ ∃ (its : List Value) (n : Nat), Vals xs its ∧ xs.length = its.length ∧ s.heap.get? l = some { cls := .type "list", data := .seq its.toArray n } := by
  obtain ⟨z, its, n, r, e⟩ := I.hok l _ hH
  exact ⟨z, its, n, r, r.length, e⟩
end
section
variable {X : Cx}
/-! ### methods -/
def rAppend : V → List V → Hp → VK → Prop := fun x vs H Q => ∃ l xs y, x = .ref l ∧ vs = [y] ∧ H l = some (.lst xs) ∧ xs.length < sizeLine ∧ Q .non (upd H l (.lst (xs ++ [y])))
theorem mt_append : MtM X "list.append" rAppend := by
  intro pins s σ H x vs v us Q I rx rv h
  obtain ⟨l, xs, y, rfl, rfl, hH, hz, q⟩ := h
  cases rx
  obtain ⟨u, rfl, ru⟩ := rv.one
  obtain ⟨z, its, n, r, hl, e⟩ := I.lstM hH
  refine call_meets F.slot_list_append ⟨_, e, rfl⟩ F.entry_list_append (F.args_list_append_2 _ _) (PySem.list_append l its.toArray n u (by rw [List.size_toArray]; omega)) ⟨e, ?_⟩
  refine ⟨.non, _, I.lset (its' := its ++ [u]) hH e (by simp) (r.append (.cons ru .nil)) ?_, rfl, q⟩
  rw [List.length_append, List.length_singleton]
  omega
/-! ### list + list, list += list, list * int -/
def rCat : R2 := fun x y H Q => ∃ l b xs zs, x = .ref l ∧ y = .ref b ∧ H l = some (.lst xs) ∧ H b = some (.lst zs) ∧ xs.length + zs.length ≤ sizeLine ∧ ∀ p, H p = none → Q (.ref p) (upd H p (.lst (xs ++ zs)))
theorem op_cat : OpR X (binaryOp .Add) rCat := by
  intro pins s σ H x y v u Q I rx ry h
  obtain ⟨l, b, xs, zs, rfl, rfl, hH, hB, hz, q⟩ := h
  cases rx
  cases ry
  obtain ⟨z, its, n, r, hl, e⟩ := I.lstM hH
  obtain ⟨z2, its2, n2, r2, hl2, e2⟩ := I.lstM hB
  refine PySem.P.add_list e e2 ?_ (by rw [List.size_toArray, List.size_toArray]; omega)
  have ea : its.toArray ++ its2.toArray = (its ++ its2).toArray := by simp
  rw [ea]
  exact ⟨.ref _, _, I.lnew (t' := s.toks) (r.append r2) (by rw [List.length_append]; omega), rfl, q _ I.fresh⟩
/-! ### del xs[i] -/
end
/-! ### xs[a:b] = ys -/
section
variable {prog : Program} {w : World} {A : Around} {E : Value → Shared → Prop} {s : Shared}
end
section
variable {X : Cx}
end
end L2
namespace Att
open PySem PySem.W PySem.Calls PyProof.Rows
/-! ### the script -/
theorem ints_of_wellAll {P : Params} {h : Heap} : ∀ (ns : List Int) (vs : List Value), WellAll P h vs (ns.map WData.int) → IntsAre vs ns := by
  intro ns
  induction ns with
  | nil =>
    intro vs w
    rw [List.map_nil] at w
    cases w
    exact .nil
  | cons n ns ih =>
    intro vs w
    rw [List.map_cons] at w
    cases w with
    | cons a b =>
      cases a
      exact .cons _ _ (ih _ b)
theorem script_of {l : OpenLaw} {n : Nat} (hn : l.most = some n) {P : Params} {h : Heap} {args : List WData} {vals : List Value}
    (hpre : l.row.toRowW.claim.pre args = true) (hwl : WellAll P h vals args) :
    ∃ a vs ns, vals = [Value.ref a] ∧ args = [WData.list (ns.map WData.int)] ∧ h.get? a = some { cls := .type "list", data := .seq vs.toArray } ∧ IntsAre vs ns ∧ ns.length ≤ n := by
  have hsh : WShape.hasAll [] args [.list .int] = true := (pre_splitW hpre).1
  have hc : l.pre.holds [] { args := args } = true := (pre_splitW hpre).2
  obtain ⟨d, r, rfl, h1, h2⟩ := hasAllW_cons hsh
  obtain rfl := hasAllW_nil h2
  obtain ⟨xs, rfl, h3⟩ := hasW_list h1
  obtain ⟨ns, rfl⟩ := items_int h3
  have hlen : ns.length ≤ n := by
    unfold OpenLaw.pre at hc
    have h4 : (WTm.not (.lt (.lit (.int (n : Int))) (.len (.arg 0)))).holds [] { args := [.list (ns.map .int)] } = true := by
      have h4 := (holds_andW hc).1
      rw [hn] at h4
      exact h4
    have h5 := condW_of h4 (w_not (w_lt w_lit (w_len_list (w_arg rfl))))
    rw [List.length_map] at h5
    refine Nat.le_of_not_lt fun q => ?_
    have q' : (n : Int) < ((ns.length : Nat) : Int) := by omega
    first
      | (rw [decide_eq_true q'] at h5; exact absurd h5 (by decide))
      | (simp at h5; omega)
  cases hwl with
  | cons w1 w2 =>
    cases w2
    cases w1 with
    | list ho hall => exact ⟨_, _, ns, rfl, rfl, ho, ints_of_wellAll ns _ hall, hlen⟩
theorem post_true (l : OpenLaw) (args : List WData) : l.row.toRowW.claim.post args (.bool true) args = true :=
  postW_of (r := l.row.toRowW) (X := (true == true))
    (show WShape.has [] (.bool true) .bool = true by first | rfl | decide | simp [WShape.has, WShape.arms, WShape.armsAll])
    (show (WTm.eq .res (.lit (.bool true))).value [] { args := args, res := some (.bool true), after := args } = some (.bool (true == true)) from w_eq_bool (w_res rfl) w_lit) rfl
/-! ### the attachment: holds_open's last premise (the goal 'hc' behind k_head) from a wpAny of the law's body -/
/-- the same from a codeAny of the CALL (for a layer whose function contracts speak of calls) -/
theorem attach_call {l : OpenLaw} {n : Nat} {q : Program} {loose : List Str} {XP : (Str → Option Value) → Heap → Prop} {YP : World → Heap → Prop} {d : DefRec}
    (hn : l.most = some n) (hdf : d.params.defaults = [])
    (call : ∀ (w : World) (s₀ s₁ : Shared) (mg mb : Str → Option Value) (fa : Addr) (o : Obj) (pm cd doc : Value) (a : Addr) (vs : List Value) (ns : List Int),
      Ground q loose [] XP w s₀ mg mb s₁.heap → YP w s₁.heap →
      s₁.heap.get? fa = some o → o.data = .func (docDef d.name d.params d.body d.scope pm cd doc) → s₁.heap.CodeRec cd d.name → mg d.name = some (.ref fa) →
      s₁.heap.get? a = some { cls := .type "list", data := .seq vs.toArray } → IntsAre vs ns → ns.length ≤ n → s₁.gens = #[] →
      codeAny (model l.prog w) callerA (.call (.ref fa) ⟨[.ref a], []⟩) (fun r s' => r = .ok (.ret (.bool true)) ∧ OldK s₁.heap s'.heap ∧ s'.os = s₁.os ∧ AllBare s'.gens) s₁) :
    WalkO q loose XP YP l.row.toRowW d [] (fun f vs => PySem.call f vs) := by
  intro w s₀ s₁ mg mb G Y fa o pm cd doc dV kV ho hd hcd hD hmg hg args vals as hpre hlay hrd hwl hlo
  obtain rfl : dV = .none := Dflts.none hD hdf
  obtain rfl : kV = .none := Dflts.noKw hD
  obtain ⟨a, vs, ns, rfl, rfl, hobj, hints, hlen⟩ := script_of hn hpre hwl
  refine enter_call (codeAny_mono (call w s₀ s₁ mg mb fa o pm cd doc a vs ns G Y ho (fd_plain hd) hcd hmg hobj hints hlen hg) fun r s' hq => ?_)
  obtain ⟨rfl, h2, h3, h4⟩ := hq
  exact ⟨.inl ⟨.bool true, .bool true, [], rfl, fun _ => rfl, .bool true, post_true l _, fun _ => ⟨List.Pairwise.nil, fun _ hm => (nomatch hm)⟩⟩, h2, h3, h4⟩
/-! ### rules over ANY heap (no ledger) from facts about the written part K: the library's own take a ledger (News) for what they write -/
section
variable {prog : Program} {w : World} {A : Around} {E : Value → Shared → Prop} {s : Shared} {K : Frag}
/-! the whole heap as the ledger: makes every rule that writes through a ledger a rule over any heap -/
def ledger (h : Heap) (L d : Addr) : List (Addr × Obj) := (List.range h.objs.size).filterMap fun a => if a = L ∨ a = d then none else (h.get? a).map fun o => (a, o)
end
end Att
namespace L2
open PySem PySem.Spec PyProof.Rows
theorem vals_ints : ∀ {vs : List Value} {ns : List Int}, IntsAre vs ns → Vals (ns.map V.int) vs
  | _, _, .nil => .nil
  | _, _, .cons n t h => .cons ⟨t, rfl⟩ (vals_ints h)
/-- nothing is tracked but the script, known to the object (or it is an object of the module) -/
def Only (H : Hp) : Prop := ∀ b, H b = none ∨ ∃ o xs, H b = some (.frz o (.lst xs))
/-- THE HEAD: the law's promise, at the heap behind the top. F, the promise of the law's def, may use that base is part of the heap (so K.In base, base.Ns mainGlobals mg stand in Mod) -/
theorem law_call {P : Program} {w : World} {K : PySem.W.Frag} {mg mb : Str → Option Value} {CX : CXT} {k : Nat} {fa a : Addr} {fd : FuncData} {x : Str} {sp : Sp} {s₁ : Shared} {vs : List Value} {ns : List Int}
    (KX : K.In s₁.heap) (hns : s₁.heap.Ns mainGlobals mg) (hb : s₁.heap.Ns builtinsNs mb) (hbb : ∀ x : Str, x ≠ "__name__" → mb x = bootBuiltins x) (hlim : s₁.heap.NoLimit) (hg : s₁.gens = #[])
    (ha : s₁.heap.get? a = some { cls := .type "list", data := .seq vs.toArray }) (hi : IntsAre vs ns) (hl : ns.length ≤ sizeLine) (hr : Room k callerA)
    (F : ∀ base : Heap, K.In base → base.Ns mainGlobals mg → FnOk P w K mg base CX k fa fd [x] sp) (hbind : ∀ (s : Shared) (u : Value), BindsTo s fd ⟨[u], []⟩ [(x, u)])
    (hsp : ∀ H : Hp, Only H → SqL K H a (ns.map V.int) → sp [.ref a] H (fun v _ => v = .bl true) fun _ _ _ => False)
    (hCX : ∀ H e s', CX [] H s₁ (fun _ _ _ => False) e s' → False) :
    codeAny (model P w) callerA (.call (.ref fa) ⟨[.ref a], []⟩) (fun r s' => r = .ok (.ret (.bool true)) ∧ OldK s₁.heap s'.heap ∧ s'.os = s₁.os ∧ AllBare s'.gens) s₁ := by
  have rv := vals_ints hi
  have lenV := hi.length
  -- from an abstract heap in which nothing but the script may be tracked
  have core : ∀ H : Hp, Only H → SqL K H a (ns.map V.int) → HOk P w H s₁.heap → (∀ b, H b ≠ none → b = a) → (H a ≠ none → K.lookup a = none) →
      codeAny (model P w) callerA (.call (.ref fa) ⟨[.ref a], []⟩) (fun r s' => r = .ok (.ret (.bool true)) ∧ OldK s₁.heap s'.heap ∧ s'.os = s₁.os ∧ AllBare s'.gens) s₁ := by
    intro H hO hS hok hA hK
    have base_of : ∀ {b : Addr} {o : Obj}, s₁.heap.get? b = some o → H b = none → (hidT s₁.heap H).get? b = some o := fun e n => hidT_get e n
    have noA : ∀ {b : Addr} {o : Obj} {es : Array DictEntry} {ep : Nat}, s₁.heap.get? b = some o → o.data = .dict es ep → H b = none := fun {b o es ep} e d => by
      cases q : H b with
      | none => rfl
      | some u =>
        have e' : b = a := hA b (by rw [q]; simp)
        subst e'
        rw [ha] at e; cases e
        have d' : Data.seq vs.toArray _ = Data.dict es ep := d
        cases d'
    have nsK : ∀ {b : Addr} {m : Str → Option Value}, s₁.heap.Ns b m → (hidT s₁.heap H).Ns b m := fun {b m} ⟨o, es, ep, e, d, r⟩ => ⟨o, es, ep, base_of e (noA e d), d, r⟩
    have hKb : K.In (hidT s₁.heap H) := fun b o e => base_of (KX b o e) (by
      cases q : H b with
      | none => rfl
      | some u =>
        have e' : b = a := hA b (by rw [q]; simp)
        subst e'
        rw [hK (by rw [q]; simp)] at e; cases e)
    have hM : Mod K mg (hidT s₁.heap H) := ⟨hKb, nsK hns, ⟨mb, nsK hb, hbb⟩, let ⟨mc, h1, h2⟩ := hlim; ⟨mc, nsK h1, h2⟩⟩
    have e0 : Env0 P w K mg (hidT s₁.heap H) callerA [] s₁ H := ⟨rfl, hM, fun b o e => of_hidT e, Nat.le_of_eq (hidT_size _ _), trivial, fun b hb => absurd (show b ∈ ([] : List Addr) from hb) (by simp), hok, .of_eq hg⟩
    refine codeAny_mono ((F _ hKb (nsK hns)).run callerA [] s₁ H ⟨[.ref a], []⟩ [.ref a] [.ref a] _ _ hr e0 (hbind s₁ (.ref a)) (.cons rfl .nil) (hsp H hO hS)) fun r s' h => ?_
    cases r with
    | error e => exact (hCX H e s' h).elim
    | ok fl =>
      cases fl with
      | next => exact False.elim h
      | brk => exact False.elim h
      | cont => exact False.elim h
      | ret u =>
        obtain ⟨v, H', os, bare, un, hok', r', q⟩ := h
        have q' : v = .bl true := q
        subst q'
        obtain rfl : u = Value.bool true := r'
        refine ⟨rfl, OldK.of_keep fun b o e => ?_, os, bare⟩
        cases q : H b with
        | none => exact un.keep b o e q (by intro z; exact absurd (show b ∈ ([] : List Addr) from z) (by simp)) (by simp)
        | some u =>
          rcases hO b with z | ⟨ob, xs, z⟩
          · rw [q] at z; cases z
          · have z2 := un.frzs b ob _ z
            obtain ⟨e1, _⟩ := hok b _ z
            obtain ⟨e2, _⟩ := hok' b _ z2
            rw [e] at e1; cases e1
            exact e2
  cases hk : K.lookup a with
  | some o =>
    -- the script is one of the module's own objects
    have e := KX a o hk
    rw [ha] at e
    cases e
    refine core (fun _ => none) (fun _ => .inl rfl) (.inr ⟨_, vs.toArray, _, hk, rfl, rfl, rfl, by rw [List.size_toArray, lenV]; exact hl, by simpa using rv⟩) (fun b u z => by have z' : (none : Option HO) = some u := z; cases z') (fun b z => absurd rfl z) fun z => absurd rfl z
  | none =>
    refine core (fun b => if b = a then some (.frz { cls := .type "list", data := .seq vs.toArray } (.lst (ns.map V.int))) else none) (fun b => ?_) (.inl (.inr ⟨{ cls := .type "list", data := .seq vs.toArray }, if_pos rfl⟩)) (fun b u z => ?_) (fun b z => ?_) fun _ => hk
    · by_cases hb : b = a
      · exact .inr ⟨_, _, if_pos hb⟩
      · exact .inl (if_neg hb)
    · by_cases hb : b = a
      · have z' := (if_pos hb).symm.trans z
        cases z'
        subst hb
        exact ⟨ha, by rw [List.length_map]; exact hl, vs, _, rv, ha⟩
      · have z' := (if_neg hb).symm.trans z
        cases z'
    · by_cases hb : b = a
      · exact hb
      · exact absurd (if_neg hb) z
end L2
namespace L2
open PySem PySem.Spec PyProof.Rows
/-- the goal that k_head leaves (case hc), from the law's promise. F gives the function object fd (K's own) once, then the promise over every base -/
theorem walk_of {l : PySem.W.OpenLaw} {n k : Nat} {q : Program} {loose : List Str} {XP : (Str → Option Value) → Heap → Prop} {YP : World → Heap → Prop} {d : DefRec} {K : Params → PySem.W.Frag} {CX : World → CXT} {sp : World → Sp} {x : Str}
    (hn : l.most = some n) (hn2 : n ≤ sizeLine) (hdf : d.params.defaults = []) (hr : Room k callerA)
    (hY : ∀ (w : World) (h : Heap), YP w h → (K w.params).In h)
    (F : ∀ (w : World) (mg : Str → Option Value) (fa : Addr) (h : Heap), (K w.params).In h → h.Ns mainGlobals mg → mg d.name = some (.ref fa) →
      ∃ fd : FuncData, (∀ (s : Shared) (u : Value), BindsTo s fd ⟨[u], []⟩ [(x, u)]) ∧
        ∀ base : Heap, (K w.params).In base → base.Ns mainGlobals mg → FnOk l.prog w (K w.params) mg base (CX w) k fa fd [x] (sp w))
    (hsp : ∀ (w : World) (H : Hp) (a : Addr) (ns : List Int), ns.length ≤ n → Only H → SqL (K w.params) H a (ns.map V.int) → sp w [.ref a] H (fun v _ => v = .bl true) fun _ _ _ => False)
    (hCX : ∀ (w : World) (H : Hp) (s : Shared) (e : Value) (s' : Shared), CX w [] H s (fun _ _ _ => False) e s' → False) :
    PySem.W.WalkO q loose XP YP l.row.toRowW d [] (fun f vs => PySem.call f vs) := by
  refine Att.attach_call hn hdf fun w s₀ s₁ mg mb fa o pm cd doc a vs ns G Y ho hd hcd hmg hobj hints hlen hg => ?_
  have KX := hY w _ Y
  obtain ⟨fd, hb, hF⟩ := F w mg fa _ KX G.T.g hmg
  exact law_call KX G.T.g G.T.b G.T.builtins G.T.nolimit hg hobj hints (Nat.le_trans hlen hn2) hr hF hb (fun H hO hS => hsp w H a ns hlen hO hS) fun H e s' => hCX w H s₁ e s'
end L2
/-! SHORT WORDS over the layer: a def of the text, its body, what a loop and a test want. -/
namespace L2
open PySem PySem.Spec PyProof.Rows
/-! ### the text by places -/
/-- the j-th statement of a class's body -/
def inClass (s : Stmt) (j : Nat) : Stmt := match s with
  | .ClassDef _ _ _ body _ _ _ _ _ _ _ => body.getD j (.Pass ⟨0, 0, 0, 0⟩)
  | _ => .Pass ⟨0, 0, 0, 0⟩
def defArgs (s : Stmt) : Arguments := match s with
  | .FunctionDef _ a _ _ _ _ _ _ _ _ => a
  | _ => { posonlyargs := [], args := [], vararg := none, kwonlyargs := [], kw_defaults := [], kwarg := none, defaults := [] }
def defBody (s : Stmt) : List Stmt := match s with
  | .FunctionDef _ _ b _ _ _ _ _ _ _ => b
  | _ => []
def defScope (s : Stmt) : Scope := match s with
  | .FunctionDef _ _ _ _ _ _ sc _ _ _ => sc
  | _ => { kind := .function, names := [], isGenerator := false, isCoroutine := false }
/-! ### no exception leaves a def -/
abbrev CX0 : CXT := fun _ _ _ _ _ _ => False
abbrev E0 : XK := fun _ _ _ => False
/-! ### a def (or method) of the text as it stands behind the top -/
structure Fun (K : PySem.W.Frag) (x qual : Str) (st : Stmt) (f : Addr) (fd : FuncData) : Prop where
  ex : ∃ (oc : Value) (od : Option Addr) (kV doc pm : Value) (an : Option Addr) (cdv ct : Value) (osl : Array (Option Value)),
    fd = PySem.W.fnOf x qual (defArgs st) (defBody st) (defScope st) .none kV doc pm an cdv ct ∧ K.lookup f = some ⟨oc, od, .func fd, osl⟩ ∧ PySem.W.codeIn K cdv qual = true
  kp : PySem.W.keepIn K (.ref f) = true
section
variable {P : Program} {w : World} {K : PySem.W.Frag} {mg : Str → Option Value} {base : Heap}
/-- THE RULE for a def: its body as a term of rules, and the reading of that term -/
theorem Fun.ok {x qual : Str} {st : Stmt} {f : Addr} {fd : FuncData} {N ps : List Str} {k : Nat} {sp : Sp} (F : Fun K x qual st f fd) (S : FnScope N ps (defScope st)) (len : ∀ vs H Q E, sp vs H Q E → vs.length = ps.length)
    (hbody : ∀ (cdv : Value) (A : Around) (outer : List Env) (s : Shared) (H : Hp) (vs : List V) (Q : VK) (E : XK), Room k (A.deeper (envOfC qual (defScope st) s.heap.objs.size f cdv)) → sp vs H Q E →
      ∃ t, PSs (cxOf CX0 P w K mg base N qual (defScope st) f cdv A outer s H E).nox (defBody st) t ∧ t { nx := fun _ H' => Q .non H', rt := Q } (start N vs) H) : FnOk P w K mg base CX0 (k + 1) f fd ps sp := by
  obtain ⟨oc, od, kV, doc, pm, an, cdv, ct, osl, rfl, lk, hcd⟩ := F.ex
  refine fn_of lk hcd S len fun A outer s H vs Q E hr hsp => ?_
  obtain ⟨t, h, q⟩ := hbody cdv A outer s H vs Q E hr hsp
  exact ⟨t, h.nox, q⟩
/-- how its arguments bind (no defaults): h is «fun _ _ _ _ _ _ us hl => match us, hl with | [_, _], _ => rfl», one _ a parameter -/
theorem Fun.binds {x qual : Str} {st : Stmt} {f : Addr} {fd : FuncData} {ps : List Str} (F : Fun K x qual st f fd)
    (h : ∀ (kV doc pm : Value) (an : Option Addr) (cdv ct : Value) (us : List Value), us.length = ps.length → bindArgs (PySem.W.fnOf x qual (defArgs st) (defBody st) (defScope st) .none kV doc pm an cdv ct) ⟨us, []⟩ = pure (ps.zip us)) : Binds K fd ps [] := by
  obtain ⟨oc, od, kV, doc, pm, an, cdv, ct, osl, rfl, lk, hcd⟩ := F.ex
  exact .all (h kV doc pm an cdv ct)
theorem fun_mk {x qual : Str} {st : Stmt} {f : Addr} {oc : Value} {od an : Option Addr} {osl : Array (Option Value)} {kV doc pm cdv ct : Value} (l : K.lookup f = some ⟨oc, od, .func (PySem.W.fnOf x qual (defArgs st) (defBody st) (defScope st) .none kV doc pm an cdv ct), osl⟩)
    (c : PySem.W.codeIn K cdv qual = true) (k : PySem.W.keepIn K (.ref f) = true) : Fun K x qual st f (PySem.W.fnOf x qual (defArgs st) (defBody st) (defScope st) .none kV doc pm an cdv ct) := ⟨⟨oc, od, kV, doc, pm, an, cdv, ct, osl, rfl, l, c⟩, k⟩
end
theorem small1000 {n : Nat} (h : n ≤ 1000) : n < sizeLine := Nat.lt_of_le_of_lt h (by decide)
/-! ### expressions in short: the name that stands in the i-th slot -/
section
variable {X : Cx}
theorem pv (i : Nat) {x : Str} {pos : Pos} (hN : X.N[i]? = some x := by rfl) (hv : Vis X.env.scope x := by first | exact Or.inl rfl | exact Or.inr (Or.inl rfl) | exact Or.inr (Or.inr rfl)) (hd : (x == ("__debug__" : Str)) = false := by decide)
    (hcd : (x == ("__classdict__" : Str)) = false := by decide) : PE X (.Name x pos) (tVar i) := pe_var hN hv hd hcd
end
/-! ### tests -/
/-! ### heaps -/
/-- all that was tracked is as it was -/
def Same (H H' : Hp) : Prop := ∀ b o, H b = some o → H' b = some o
theorem Same.refl (H : Hp) : Same H H := fun _ _ h => h
theorem Same.trans {H H1 H2 : Hp} (a : Same H H1) (b : Same H1 H2) : Same H H2 := fun c o h => b c o (a c o h)
theorem Same.free {H H' : Hp} (e : Same H H') {l : Addr} (h : H' l = Option.none) : H l = Option.none := by
  cases q : H l with
  | none => rfl
  | some o =>
    rw [e l o q] at h
    cases h
theorem Same.seq {K : PySem.W.Frag} {H H' : Hp} {a : Addr} {xs : List V} (e : Same H H') (h : SqL K H a xs) : SqL K H' a xs := by
  rcases h with (h | ⟨o, h⟩) | h
  · exact .inl (.inl (e _ _ h))
  · exact .inl (.inr ⟨o, e _ _ h⟩)
  · exact .inr h
end L2
set_option Elab.async false
set_option linter.all false
set_option maxRecDepth 100000
namespace Bw
open PySem PySem.Spec PyProof.Rows L2
/-! ### more rules -/
section
variable {X : Cx}
def CDivL (i j : Int) : Prop := 0 < j ∧ j < 2 ^ 62
theorem op_fdivL : OpR X (binaryOp .FloorDiv) (rI CDivL fun i j => .int (i / j)) := opI fun i j _ _ _ _ _ hc q => by
  have h1 : (0 : Int) < j := hc.1
  have h2 : j < 2 ^ 62 := hc.2
  refine floordiv_int (by omega) (by rw [Int.fdiv_eq_ediv_of_nonneg i (by omega)]; exact q) (.inl (PyProof.noPylong_of_log2 ?_))
  have h0 : j.natAbs ≠ 0 := by omega
  have : j.natAbs.log2 < 62 := (Nat.log2_lt h0).mpr (by omega)
  omega
/-- what isinstance may be asked of here -/
def okV (H : Hp) : V → Prop
  | .non => True
  | .bl _ => True
  | .int _ => True
  | .str _ => True
  | .ref a => (∃ xs, H a = some (.lst xs)) ∨ ∃ xs, H a = some (.tup xs)
  | _ => False
def isIntV : V → Bool
  | .int _ => true
  | .bl _ => true
  | _ => false
def isBoolV : V → Bool
  | .bl _ => true
  | _ => false
def isTupV (H : Hp) : V → Bool
  | .ref a => match H a with
    | some (.tup _) => true
    | _ => false
  | _ => false
theorem okV.ty {K : PySem.W.Frag} {H : Hp} {x : V} (h : okV H x) : ∃ T, TyOf K H x (.type T) ∧ PySem.W.kitOne K (.type T) (.type "int") = some (isIntV x) ∧ PySem.W.kitOne K (.type T) (.type "bool") = some (isBoolV x) ∧ PySem.W.kitOne K (.type T) (.type "tuple") = some (isTupV H x) := by
  cases x with
  | non => exact ⟨_, .non, by kernel_rfl, by kernel_rfl, by kernel_rfl⟩
  | bl b => exact ⟨_, .bl b, by kernel_rfl, by kernel_rfl, by kernel_rfl⟩
  | int i => exact ⟨_, .int i, by kernel_rfl, by kernel_rfl, by kernel_rfl⟩
  | str i => exact ⟨_, .str i, by kernel_rfl, by kernel_rfl, by kernel_rfl⟩
  | ref a =>
    rcases h with ⟨xs, e⟩ | ⟨xs, e⟩
    · have q : isTupV H (.ref a) = false := by simp [isTupV, e]
      rw [q]
      exact ⟨_, .lst e, by kernel_rfl, by kernel_rfl, by kernel_rfl⟩
    · have q : isTupV H (.ref a) = true := by simp [isTupV, e]
      rw [q]
      exact ⟨_, .tup e, by kernel_rfl, by kernel_rfl, by kernel_rfl⟩
  | _ => exact h.elim
theorem isi_gen {pins : List (Addr × Obj)} {σ : L2.St} {H : Hp} {s : Shared} {x : V} {c T : String} {b : Bool} {us : List Value} {Q : VK} (I : Inv X pins σ H s) (r : Vals [x, .ty c] us) (ty : TyOf X.K H x (.type T)) (e : PySem.W.kitOne X.K (.type T) (.type c) = some b) (q : Q (.bl b) H) :
    wpAny (model X.prog X.w) X.A (call (.builtin "isinstance") us) (EP X pins σ Q) X.xe s := by
  obtain ⟨u, w', rfl, rx, rc⟩ := vals2 r
  cases (show w' = Value.type c from rc)
  exact isinst_ok I rx ty e fun tk => ⟨.bl b, H, I.tok _, rfl, q⟩
/-! ### == of two tuples of ints -/
end
/-! ### a def that may be called -/
structure Cal (P : Program) (w : World) (K : PySem.W.Frag) (mg : Str → Option Value) (base : Heap) (x : Str) (ps : List Str) (k : Nat) (sp : Sp) : Prop where
  ex : ∃ f fd, FnOk P w K mg base CX0 k f fd ps sp ∧ Binds K fd ps [] ∧ PySem.W.keepIn K (.ref f) = true ∧ mg x = some (.ref f)
/-! ### heaps -/
theorem same_new {H : Hp} {p : Addr} (h : H p = none) (o : HO) : Same H (upd H p o) := fun b u q => by rw [upd_ne (ne_of_none q h)]; exact q
/-- all but w is as it was -/
def But (w : Addr) (H H' : Hp) : Prop := ∀ b o, b ≠ w → H b = some o → H' b = some o
theorem But.refl (w : Addr) (H : Hp) : But w H H := fun _ _ _ h => h
theorem But.trans {w : Addr} {H H1 H2 : Hp} (a : But w H H1) (b : But w H1 H2) : But w H H2 := fun c o n h => b c o n (a c o n h)
theorem But.upd {w : Addr} {H : Hp} (o : HO) : But w H (upd H w o) := fun b u n h => by rw [upd_ne n]; exact h
theorem Same.but {w : Addr} {H H' : Hp} (h : Same H H') : But w H H' := fun b o _ e => h b o e
/-- a well: four whole numbers in a list -/
def Well (H : Hp) (w : Addr) : Prop := ∃ a b c d : Int, H w = some (.lst [.int a, .int b, .int c, .int d])
theorem Well.same {H H' : Hp} {w : Addr} (W : Well H w) (s : Same H H') : Well H' w := by
  obtain ⟨a, b, c, d, h⟩ := W
  exact ⟨a, b, c, d, s _ _ h⟩
theorem Well.ne {H : Hp} {w p : Addr} (W : Well H w) (h : H p = none) : p ≠ w := by
  obtain ⟨a, b, c, d, e⟩ := W
  exact (ne_of_none e h).symm
theorem Well.neL {H : Hp} {w p : Addr} {xs : List V} (W : Well H w) (h : H p = some (.tup xs)) : p ≠ w := by
  obtain ⟨a, b, c, d, e⟩ := W
  exact (ne_of e h (by intro z; cases z)).symm
theorem int_at {ns : List Int} {i : Nat} {x : V} (h : (ns.map V.int)[i]? = some x) : ∃ c, x = .int c := by
  rw [List.getElem?_map] at h
  cases e : ns[i]? with
  | none => rw [e] at h; cases h
  | some c => rw [e] at h; exact ⟨c, (Option.some.inj h).symm⟩
theorem sz8 {n : Nat} (h : n ≤ 1000) : n ≤ sizeLine := Nat.le_of_lt (small1000 h)
/-! ### the readings, one step at a time (each lemma speaks of a fully applied reading) -/
section
variable {K : PySem.W.Frag} {ta tb tc te : TE} {tA tB' : TT} {t u : TS} {tr : TA} {D : Ends} {σ : L2.St} {H : Hp} {Q : VK} {QB : Bool → Hp → Prop} {QA : List V → Hp → Prop} {v x y z : V} {i j : Nat} {g : TG} {QS : L2.St → Hp → Prop}
theorem w_seq : tSeq t u D σ H = t { D with nx := u D } σ H := rfl
theorem w_next : tNext D σ H = D.nx σ H := rfl
theorem w_ifS : tIfS tA t u D σ H = tA σ H (fun b H1 => if b = true then t D σ H1 else u D σ H1) := rfl
theorem w_ret : tRet te D σ H = te σ H D.rt := rfl
theorem w_retN : tRetN D σ H = D.rt .non H := rfl
theorem w_drop : tDrop te D σ H = te σ H (fun _ H1 => D.nx σ H1) := rfl
theorem w_asg : tAsg te g D σ H = te σ H (fun x H1 => g x σ H1 D.nx) := rfl
theorem w_gName : gName i v σ H QS = QS (σ.set i (some v)) H := rfl
theorem w_gSub {ts : TSet} : gSub ta tb ts v σ H QS = ta σ H (fun o H1 => tb σ H1 (fun i H2 => ts o i v H2 (fun H3 => QS σ H3))) := rfl
theorem w_var : tVar i σ H Q = ∃ v, σ[i]? = some (some v) ∧ Q v H := rfl
theorem w_c : tC v σ H Q = Q v H := rfl
theorem w_op {r : R2} : tOp r ta tb σ H Q = ta σ H (fun x H1 => tb σ H1 (fun y H2 => r x y H2 Q)) := rfl
theorem w_un {r : V → Hp → VK → Prop} : tUn r ta σ H Q = ta σ H (fun x H1 => r x H1 Q) := rfl
theorem w_rU {f : Int → V} : rU f x H Q = ∃ i, x = .int i ∧ Q (f i) H := rfl
theorem w_rI0 {f : Int → Int → V} : rI0 f x y H Q = ∃ i j, x = .int i ∧ y = .int j ∧ Q (f i j) H := rfl
theorem w_rI {C : Int → Int → Prop} {f : Int → Int → V} : rI C f x y H Q = ∃ i j, x = .int i ∧ y = .int j ∧ C i j ∧ Q (f i j) H := rfl
theorem w_test : tTest te σ H QB = te σ H (fun x H' => ∃ k, x = .bl k ∧ QB k H') := rfl
theorem w_b : L2.tB te σ H QB = te σ H (fun x H1 => ∃ c, x = .bl c ∧ QB c H1) := rfl
theorem w_and : tAnd tA tB' σ H QB = tA σ H (fun c H1 => if c = true then tB' σ H1 QB else QB false H1) := rfl
theorem w_or : tOr tA tB' σ H QB = tA σ H (fun c H1 => if c = true then QB true H1 else tB' σ H1 QB) := rfl
theorem w_not : tNot tA σ H QB = tA σ H (fun c H1 => QB (!c) H1) := rfl
theorem w_andV : tAndV ta tb σ H Q = ta σ H (fun x H1 => ∃ c, x = .bl c ∧ if c = true then tb σ H1 Q else Q (.bl false) H1) := rfl
theorem w_orV : tOrV ta tb σ H Q = ta σ H (fun x H1 => ∃ c, x = .bl c ∧ if c = true then Q (.bl true) H1 else tb σ H1 Q) := rfl
theorem w_notV : tNotV ta σ H Q = ta σ H (fun x H1 => ∃ c, x = .bl c ∧ Q (.bl (!c)) H1) := rfl
theorem w_if : tIf tA ta tb σ H Q = tA σ H (fun c H1 => if c = true then ta σ H1 Q else tb σ H1 Q) := rfl
theorem w_cons : tCons ta tr σ H QA = ta σ H (fun x H1 => tr σ H1 (fun xs H2 => QA (x :: xs) H2)) := rfl
theorem w_nil : tNil σ H QA = QA [] H := rfl
theorem w_tup : tTup tr σ H Q = tr σ H (fun xs H1 => xs.length ≤ sizeLine ∧ ∀ p, H1 p = none → Q (.ref p) (L2.upd H1 p (.tup xs))) := rfl
theorem w_lst : tLst tr σ H Q = tr σ H (fun xs H1 => xs.length ≤ sizeLine ∧ ∀ p, H1 p = none → Q (.ref p) (L2.upd H1 p (.lst xs))) := rfl
theorem w_call {sp : Sp} {dvs : List V} {E : XK} : tCall sp dvs E tr σ H Q = tr σ H (fun vs H1 => sp (vs ++ dvs) H1 Q E) := rfl
theorem w_cB {r : List V → Hp → VK → Prop} : tCB r tr σ H Q = tr σ H (fun vs H1 => r vs H1 Q) := rfl
theorem w_eq : rEq x y H Q = (scal x y = true ∧ Q (.bl (decide (x = y))) H) := rfl
theorem w_ne : rNe x y H Q = (scal x y = true ∧ Q (.bl (!decide (x = y))) H) := rfl
theorem w_s1 {a b : Int} : scal (.int a) (.int b) = true := rfl
theorem w_s2 {a b : Bool} : scal (.bl a) (.bl b) = true := rfl
theorem w_s3 {a b : Str} : scal (.str a) (.str b) = true := rfl
theorem w_s4 {a : Int} : scal (.int a) .non = true := rfl
theorem w_s5 {a : Bool} : scal (.bl a) .non = true := rfl
theorem w_isN : tIsN ta σ H Q = ta σ H (fun x H1 => Q (.bl (decide (x = .non))) H1) := rfl
theorem w_notN : tNotN ta σ H Q = ta σ H (fun x H1 => Q (.bl (!decide (x = .non))) H1) := rfl
theorem w_chain {r r' : R2} : tChain r r' ta tb tc σ H Q = ta σ H (fun x H1 => tb σ H1 (fun y H2 => r x y H2 (fun z H3 => ∃ k, z = .bl k ∧ (if k = true then tc σ H3 (fun w' H4 => r' y w' H4 Q) else Q (.bl false) H3)))) := rfl
theorem w_sl {r : V → Option Int → Option Int → Hp → VK → Prop} {tl th : TO} : tSl r te tl th σ H Q = te σ H (fun x H1 => tl σ H1 (fun l H2 => th σ H2 (fun u H3 => r x l u H3 Q))) := rfl
theorem w_part {QO : Option Int → Hp → Prop} : tPart te σ H QO = te σ H (fun x H1 => ∃ i, x = .int i ∧ QO (some i) H1) := rfl
theorem w_noPart {QO : Option Int → Hp → Prop} : tNoPart σ H QO = QO none H := rfl
theorem w_K {CX : CXT} {P : Program} {w : World} {mg : Str → Option Value} {base : Heap} {N : List Str} {qual : Str} {sc : Scope} {f : Addr} {cd : Value} {A : Around} {outer : List Env} {s : Shared} {H : Hp} {E : XK} : (cxOf CX P w K mg base N qual sc f cd A outer s H E).K = K := rfl
/-- the loops, closed -/
def ForL (K : PySem.W.Frag) (a : Addr) (g : TG) (tb : TS) (D : Ends) (σ : L2.St) (H : Hp) : Prop := ∃ W : Nat → Nat → L2.St → Hp → Prop, (∃ m, W 0 m σ H) ∧ ∀ i m σ H, W i m σ H →
  ((Itl K a).stop i H ∧ D.nx σ H) ∨ ((Itl K a).go i H ∧ ∃ N : L2.St → Hp → Prop, (∀ σ' H', N σ' H' → ∃ m', m' < m ∧ W (i + 1) m' σ' H') ∧ ∀ x H', (Itl K a).yld i H x H' → g x σ H' fun σ2 H2 => tb { D with nx := N, ct := N, bk := D.nx } σ2 H2)
def ForR (lo : Int) (n : Nat) (g : TG) (tb : TS) (D : Ends) (σ : L2.St) (H : Hp) : Prop := ∃ W : Nat → Nat → L2.St → Hp → Prop, (∃ m, W 0 m σ H) ∧ ∀ i m σ H, W i m σ H →
  ((Itr lo n).stop i H ∧ D.nx σ H) ∨ ((Itr lo n).go i H ∧ ∃ N : L2.St → Hp → Prop, (∀ σ' H', N σ' H' → ∃ m', m' < m ∧ W (i + 1) m' σ' H') ∧ ∀ x H', (Itr lo n).yld i H x H' → g x σ H' fun σ2 H2 => tb { D with nx := N, ct := N, bk := D.nx } σ2 H2)
theorem w_forL : tFor (iList K ta) g t D σ H = ta σ H (fun x H1 => ∃ a, x = .ref a ∧ (∃ xs, SqL K H1 a xs) ∧ ForL K a g t D σ H1) := rfl
theorem w_for1 : tFor (iRng1 tr) g t D σ H = tr σ H (fun vs H1 => ∃ j : Int, vs = [.int j] ∧ -(2 ^ 62) ≤ j ∧ j < 2 ^ 62 ∧ ForR 0 j.toNat g t D σ H1) := rfl
theorem w_for2 : tFor (iRng2 tr) g t D σ H = tr σ H (fun vs H1 => ∃ i j : Int, vs = [.int i, .int j] ∧ (-(2 ^ 62) ≤ i ∧ i < 2 ^ 62 ∧ -(2 ^ 62) ≤ j ∧ j < 2 ^ 62) ∧ ForR i (j - i).toNat g t D σ H1) := rfl
theorem ForL.by {a : Addr} {xs : List V} (Pv : Nat → L2.St → Hp → Prop) (h0 : Pv 0 σ H) (hl : ∀ i σ H, i ≤ xs.length → Pv i σ H → SqL K H a xs)
    (hs : ∀ i x σ H, xs[i]? = some x → Pv i σ H → g x σ H fun σ2 H2 => t { D with nx := Pv (i + 1), ct := Pv (i + 1), bk := D.nx } σ2 H2) (hd : ∀ σ H, Pv xs.length σ H → D.nx σ H) : ForL K a g t D σ H := for_list Pv h0 hl hs hd
theorem ForR.by {lo : Int} {n : Nat} (Pv : Nat → L2.St → Hp → Prop) (h0 : Pv 0 σ H)
    (hs : ∀ i σ H, i < n → Pv i σ H → g (.int (lo + i)) σ H fun σ2 H2 => t { D with nx := Pv (i + 1), ct := Pv (i + 1), bk := D.nx } σ2 H2) (hd : ∀ σ H, Pv n σ H → D.nx σ H) : ForR lo n g t D σ H := for_range Pv h0 hs hd
theorem ixl {p : Addr} {xs : List V} {k : Int} (hS : SqL K H p xs) (hv : atI xs k = some v) (q : Q v H) : rIxL K (.ref p) (.int k) H Q := ⟨p, xs, k, v, rfl, rfl, hS, hv, q⟩
theorem setl {p : Addr} {xs : List V} {k : Int} {QH : Hp → Prop} (h : H p = some (.lst xs)) (hj : ixN xs.length k = some j) (q : QH (L2.upd H p (.lst (xs.set j v)))) : rSetL (.ref p) (.int k) v H QH := ⟨p, xs, k, j, rfl, rfl, h, hj, q⟩
end
end Bw
set_option Elab.async false
set_option linter.all false
set_option maxRecDepth 100000
namespace Bw
open PySem PySem.Spec PyProof.Rows L2
/-! ### is not, of two truths -/
def rIsNotB : R2 := fun x y H Q => ∃ c d : Bool, x = .bl c ∧ y = .bl d ∧ Q (.bl (c != d)) H
theorem w_isnotB {x y : V} {H : Hp} {Q : VK} : rIsNotB x y H Q = ∃ c d : Bool, x = .bl c ∧ y = .bl d ∧ Q (.bl (c != d)) H := rfl
/-! ### range with a step -/
def Itr3 (lo c : Int) (n : Nat) : It := ⟨fun i _ => i < n, fun i H x H' => H' = H ∧ x = .int (lo + i * c), fun i _ => n ≤ i⟩
/-- how many turns -/
def rngN (i j c : Int) : Nat := if i < j then ((j - i - 1) / c + 1).toNat else 0
def iRng3 (ta : TA) : TI := fun σ H R => ta σ H fun vs H1 => ∃ i j c : Int, vs = [.int i, .int j, .int c] ∧ (-(2 ^ 60) ≤ i ∧ i < 2 ^ 60 ∧ -(2 ^ 60) ≤ j ∧ j < 2 ^ 60 ∧ 0 < c ∧ c < 2 ^ 30) ∧ R (Itr3 i c (rngN i j c)) H1
def ForR3 (lo c : Int) (n : Nat) (g : TG) (tb : TS) (D : Ends) (σ : L2.St) (H : Hp) : Prop := ∃ W : Nat → Nat → L2.St → Hp → Prop, (∃ m, W 0 m σ H) ∧ ∀ i m σ H, W i m σ H →
  ((Itr3 lo c n).stop i H ∧ D.nx σ H) ∨ ((Itr3 lo c n).go i H ∧ ∃ N : L2.St → Hp → Prop, (∀ σ' H', N σ' H' → ∃ m', m' < m ∧ W (i + 1) m' σ' H') ∧ ∀ x H', (Itr3 lo c n).yld i H x H' → g x σ H' fun σ2 H2 => tb { D with nx := N, ct := N, bk := D.nx } σ2 H2)
theorem w_for3 {tr : TA} {g : TG} {t : TS} {D : Ends} {σ : L2.St} {H : Hp} : tFor (iRng3 tr) g t D σ H = tr σ H (fun vs H1 => ∃ i j c : Int, vs = [.int i, .int j, .int c] ∧ (-(2 ^ 60) ≤ i ∧ i < 2 ^ 60 ∧ -(2 ^ 60) ≤ j ∧ j < 2 ^ 60 ∧ 0 < c ∧ c < 2 ^ 30) ∧ ForR3 i c (rngN i j c) g t D σ H1) := rfl
theorem ForR3.by {lo c : Int} {n : Nat} {g : TG} {t : TS} {D : Ends} {σ : L2.St} {H : Hp} (Pv : Nat → L2.St → Hp → Prop) (h0 : Pv 0 σ H)
    (hs : ∀ i σ H, i < n → Pv i σ H → g (.int (lo + i * c)) σ H fun σ2 H2 => t { D with nx := Pv (i + 1), ct := Pv (i + 1), bk := D.nx } σ2 H2) (hd : ∀ σ H, Pv n σ H → D.nx σ H) : ForR3 lo c n g t D σ H := by
  refine ⟨fun i m σ H => m = n - i ∧ i ≤ n ∧ Pv i σ H, ⟨n, by simp, Nat.zero_le _, h0⟩, ?_⟩
  rintro i m σ H ⟨rfl, hi, p⟩
  by_cases hlt : i < n
  · refine .inr ⟨hlt, Pv (i + 1), fun σ' H' p' => ⟨n - (i + 1), by omega, rfl, hlt, p'⟩, fun x H' y => ?_⟩
    obtain ⟨e, y⟩ := y
    subst e y
    exact hs i σ _ hlt p
  · have e : i = n := by omega
    subst e
    exact .inl ⟨Nat.le_refl _, hd σ H p⟩
/-! ### quiet hours -/
structure QOk (H : Hp) (p : Addr) (s e : Int) : Prop where
  at_ : H p = some (.tup [.int s, .int e])
  s0 : 0 ≤ s
  s1 : s ≤ 1439
  e0 : 0 ≤ e
  e1 : e ≤ 1439
  ne : s ≠ e
theorem QOk.same {H H' : Hp} {p : Addr} {s e : Int} (q : QOk H p s e) (h : Same H H') : QOk H' p s e := ⟨h _ _ q.at_, q.s0, q.s1, q.e0, q.e1, q.ne⟩
theorem QOk.but {H H' : Hp} {w p : Addr} {s e : Int} (q : QOk H p s e) (W : Well H w) (h : But w H H') : QOk H' p s e := ⟨h _ _ (W.neL q.at_) q.at_, q.s0, q.s1, q.e0, q.e1, q.ne⟩
end Bw
set_option Elab.async false
set_option linter.all false
set_option maxRecDepth 100000
namespace Bw
open PySem PySem.Spec PyProof.Rows L2
/-! ### refusals: how one flies -/
abbrev vbm : List Value := [.type "ValueError", .type "Exception", .type "BaseException", .type "object"]
theorem obj_at {P : Program} {w : World} {H : Hp} {h : Heap} {a : Addr} {o : HO} (x : ObjOk P w H h a o) : ∃ ob, h.get? a = some ob := by
  cases o with
  | lst xs => exact ⟨_, x.2.choose_spec.choose_spec.2⟩
  | tup xs => exact let ⟨_, _, _, ob, e, _⟩ := x; ⟨ob, e⟩
  | dK kvs => exact let ⟨_, _, _, _, ob, _, _, e, _⟩ := x; ⟨ob, e⟩
  | dT kvs => exact let ⟨_, _, _, _, ob, _, _, e, _⟩ := x; ⟨ob, e⟩
  | set S n => exact let ⟨ob, _, _, _, e, _⟩ := x; ⟨ob, e⟩
  | ins C dx fs => exact let ⟨_, _, _, e, _⟩ := x; ⟨_, e⟩
  | own y => exact x
  | xd fs => exact let ⟨_, ⟨ob, _, _, e, _⟩, _⟩ := x; ⟨ob, e⟩
  | rng lo hi => exact let ⟨_, _, _, e⟩ := x; ⟨_, e⟩
  | frz ob u => exact ⟨ob, x.1⟩
  | tbl ps => exact ⟨_, show h.get? a = some _ from x⟩
  | met f y => exact ⟨_, show h.get? a = some _ from x⟩
  | ext φ => exact x.2.1
/-- behind a call a refusal flies: its class, the abstract heap; all that matters stands in B and stays -/
def CXF (P : Program) (w : World) : CXT := fun outer H s E e s' =>
  ∃ (x : Addr) (cls a0 : Value) (H' : Hp) (B : Heap), e = .ref x ∧ s'.os = s.os ∧ AllBare s'.gens ∧ Un (frs outer) [] H H' s.heap s'.heap ∧ HOk P w H' s'.heap ∧ Heap.FlyingW B outer x cls a0 s'.heap ∧
    (∀ b u, H' b = some u → ∃ o, B.get? b = some o) ∧ (∀ b o, s.heap.get? b = some o → H b = none → b ∉ frs outer → B.get? b = some o) ∧ (∀ b o, s.heap.get? b = some o → b ∉ frs outer → ∃ o', B.get? b = some o') ∧ E cls none H'
/-- a step of the flight: what stands in B stays, the frames but for their slots -/
theorem ride {P : Program} {w : World} {outer : List Env} {H H' : Hp} {h0 g h2 B : Heap} (un : Un (frs outer) [] H H' h0 g) (hok : HOk P w H' g) (sg : B.StaysIn g) (fr : g.FunFrames B outer)
    (cT : ∀ b u, H' b = some u → ∃ o, B.get? b = some o) (cO : ∀ b o, h0.get? b = some o → H b = none → b ∉ frs outer → B.get? b = some o) (cA : ∀ b o, h0.get? b = some o → b ∉ frs outer → ∃ o', B.get? b = some o')
    (sh : B.StaysIn h2) (up : g.UpToSlots h2) : Un (frs outer) [] H H' h0 h2 ∧ HOk P w H' h2 := by
  have nf : ∀ b ∈ frs outer, ∀ o, g.get? b = some o → ∀ vs, o.data ≠ .fields vs := fun b hb o ho vs hd => by
    obtain ⟨_, o', ho', hn⟩ := fr.mem hb
    rw [ho] at ho'
    cases ho'
    exact hn vs hd
  refine ⟨⟨fun b o q n hb _ => sh b o (cO b o q n hb), fun b o q n hb hx => ?_, un.free, fun b o q hx => ?_, un.tups, un.frzs, un.tbls⟩, fun b u e => ?_⟩
  · obtain ⟨sl, e1⟩ := un.slot b o q n hb hx
    obtain ⟨sl2, e2⟩ := up b _ e1 (nf b hb _ e1)
    exact ⟨sl2, e2⟩
  · by_cases hb : b ∈ frs outer
    · obtain ⟨o', e1⟩ := un.there b o q hx
      obtain ⟨sl2, e2⟩ := up b _ e1 (nf b hb _ e1)
      exact ⟨_, e2⟩
    · obtain ⟨o', e1⟩ := cA b o q hb
      exact ⟨o', sh _ _ e1⟩
  · refine (hok b u e).stay (fun c v hc r => ?_) (fun _ q => q) fun _ _ q => q
    have tr : ∃ u', H' c = some u' := by
      rcases hc with rfl | hc
      · exact ⟨_, e⟩
      · exact ⟨_, hc⟩
    obtain ⟨u', hu⟩ := tr
    obtain ⟨o', e1⟩ := cT c u' hu
    have e2 := sg _ _ e1
    rw [r] at e2
    cases e2
    exact sh _ _ e1
section
variable {X : Cx} {pins : List (Addr × Obj)} {σ : L2.St} {H H' : Hp} {s : Shared} {h2 B : Heap}
/-- out of a body -/
theorem out_of (I : Inv X pins σ H s) (hex : X.ex = []) (un : Un (frs X.stack) [] H H' s.heap h2)
    (cO : ∀ b o, s.heap.get? b = some o → H b = none → b ∉ frs X.stack → B.get? b = some o) (cA : ∀ b o, s.heap.get? b = some o → b ∉ frs X.stack → ∃ o', B.get? b = some o') :
    Un (frs X.outer) [] X.H₀ H' X.s₀.heap h2 ∧ (∀ b o, X.s₀.heap.get? b = some o → X.H₀ b = none → b ∉ frs X.outer → B.get? b = some o) ∧ ∀ b o, X.s₀.heap.get? b = some o → b ∉ frs X.outer → ∃ o', B.get? b = some o' := by
  have nx : ∀ b : Addr, b ∉ X.ex := fun b z => by rw [hex] at z; cases z
  have nl : ∀ b o, X.s₀.heap.get? b = some o → b ∉ frs X.outer → b ∉ frs X.stack := fun b o q hb z => by
    rcases List.mem_cons.mp (I.stkSub b z) with e | e
    · exact absurd (Nat.lt_of_lt_of_le (Heap.lt_size q) I.ok.above) (by rw [e]; exact Nat.lt_irrefl _)
    · exact hb e
  have ne : ∀ b : Addr, b ∉ ([] : List Addr) := fun b => by simp
  refine ⟨⟨fun b o q n hb _ => ?_, fun b o q n hb _ => ?_, fun b o q n _ => ?_, fun b o q _ => ?_, fun b xs q => un.tups b xs (I.base.tups b xs q), fun b o u q => un.frzs b o u (I.base.frzs b o u q), fun b ps q => ?_⟩, fun b o q n hb => ?_, fun b o q hb => ?_⟩
  · exact un.keep b o (I.base.keep b o q n hb (nx b)) (I.base.free b o q n (nx b)) (nl b o q hb) (ne b)
  · obtain ⟨sl, e1⟩ := I.base.slot b o q n hb (nx b)
    obtain ⟨sl2, e2⟩ := un.any e1 (I.base.free b o q n (nx b)) (ne b)
    exact ⟨sl2, e2⟩
  · obtain ⟨o', e1⟩ := I.base.there b o q (nx b)
    exact un.free b o' e1 (I.base.free b o q n (nx b)) (ne b)
  · obtain ⟨o', e1⟩ := I.base.there b o q (nx b)
    exact un.there b o' e1 (ne b)
  · obtain ⟨m1, e1⟩ := I.base.tbls b ps q
    obtain ⟨m2, e2⟩ := un.tbls b _ e1
    exact ⟨m1 ++ m2, by rw [e2, Array.append_assoc]⟩
  · exact cO b o (I.base.keep b o q n hb (nx b)) (I.base.free b o q n (nx b)) (nl b o q hb)
  · obtain ⟨o', e1⟩ := I.base.there b o q (nx b)
    exact cA b o' e1 (nl b o q hb)
/-- a refusal made in a body leaves it -/
theorem raised_out {h' : Heap} {e : Addr} {cls : Value} {args : List Value} {E : XK} {F : Value → Shared → Prop} (I : Inv X pins σ H s) (hst : X.stack = X.env :: X.outer) (hf : X.env.frame = some X.env.locals) (hex : X.ex = [])
    (hx : Heap.MadeExcOf s.heap h' e cls args) (hE : E cls none H) :
    wpAny (model X.prog X.w) X.A (leaving X.env (.ref e)) (fun _ s'' => CXF X.prog X.w X.outer X.H₀ X.s₀ E (.ref e) s'') F { s with heap := h' } := by
  have hin : ∀ env ∈ X.stack, ∀ a, env.frame = some a → a ∈ frs X.stack := fun env he a ha => List.mem_filterMap.mpr ⟨env, he, ha⟩
  have hl : s.heap.FunFrames (PySem.W.hideAll s.heap (frs X.stack)) X.stack := PySem.W.funFrames_hide I.stack hin
  have hkb : (PySem.W.hideAll s.heap (frs X.stack)).StaysIn s.heap := fun b o q => PySem.W.of_hideAll _ q
  refine wpAny_leaves_madeW (base := PySem.W.hideAll s.heap (frs X.stack)) (h := s.heap) (outer := X.outer) (L := X.env.locals) (by rw [← hst]; exact I.ok.frames) hf hkb (by rw [← hst]; exact hl) hx fun h2 t fl tup tn up => ?_
  have cT : ∀ b u, H b = some u → ∃ o, (PySem.W.hideAll s.heap (frs X.stack)).get? b = some o := fun b u q => by
    obtain ⟨o, ho⟩ := obj_at (I.hok b u q)
    exact ⟨o, PySem.W.hideAll_get _ ho fun z => by rw [I.stkFree b z] at q; cases q⟩
  have cO : ∀ b o, s.heap.get? b = some o → H b = none → b ∉ frs X.stack → (PySem.W.hideAll s.heap (frs X.stack)).get? b = some o := fun b o q _ hb => PySem.W.hideAll_get _ q hb
  have cA : ∀ b o, s.heap.get? b = some o → b ∉ frs X.stack → ∃ o', (PySem.W.hideAll s.heap (frs X.stack)).get? b = some o' := fun b o q hb => ⟨o, PySem.W.hideAll_get _ q hb⟩
  obtain ⟨un, hok⟩ := ride (P := X.prog) (w := X.w) (H := H) (H' := H) (h0 := s.heap) (g := s.heap) Un.refl I.hok hkb hl cT cO cA fl.1 ((Heap.UpToSlots.of_keeps hx.keeps).trans up)
  obtain ⟨un2, cO2, cA2⟩ := out_of I hex un cO cA
  exact ⟨e, cls, _, H, _, rfl, I.os, I.bare, un2, hok, fl, cT, cO2, cA2, hE⟩
/-- a refusal of a callee leaves the body, too -/
theorem passed_out {s' : Shared} {e : Value} {E : XK} {F : Value → Shared → Prop} (I : Inv X pins σ H s) (hst : X.stack = X.env :: X.outer) (hf : X.env.frame = some X.env.locals) (hex : X.ex = [])
    (hx : CXF X.prog X.w X.stack H s E e s') :
    wpAny (model X.prog X.w) X.A (leaving X.env e) (fun _ s'' => CXF X.prog X.w X.outer X.H₀ X.s₀ E e s'') F s' := by
  obtain ⟨x, cls, a0, H', B, rfl, os, bare, un, hok, fl, cT, cO, cA, hE⟩ := hx
  have fl' := fl
  rw [hst] at fl'
  refine wpAny_leaves_onW (base := B) (outer := X.outer) (by rw [← hst]; exact I.ok.frames) hf fl' fun h2 fl2 up => ?_
  obtain ⟨un1, hok1⟩ := ride (P := X.prog) (w := X.w) un hok fl.1 fl.2.2.1 cT cO cA fl2.1 up
  obtain ⟨un2, cO2, cA2⟩ := out_of I hex un1 cO cA
  exact ⟨x, cls, a0, H', B, rfl, os.trans I.os, bare, un2, hok1, fl2, cT, cO2, cA2, hE⟩
end
/-- the context of a body that may refuse -/
abbrev cxX (P : Program) (w : World) (K : PySem.W.Frag) (mg : Str → Option Value) (base : Heap) (N : List Str) (qual : Str) (sc : Scope) (f : Addr) (cdv : Value) (A : Around) (outer : List Env) (s : Shared) (H : Hp) (E : XK) : Cx :=
  cxOf (CXF P w) P w K mg base N qual sc f cdv A outer s H E
section
variable {P : Program} {w : World} {K : PySem.W.Frag} {mg : Str → Option Value} {base : Heap} {N : List Str} {qual : Str} {sc : Scope} {f : Addr} {cdv : Value} {A : Around} {outer : List Env} {s : Shared} {H : Hp} {E : XK}
theorem passX : Passes (CXF P w) (cxX P w K mg base N qual sc f cdv A outer s H E) E := fun pins σ H1 s1 e s' I hx => passed_out I rfl rfl rfl hx
theorem raiseX {pins : List (Addr × Obj)} {σ : L2.St} {H1 : Hp} {s1 : Shared} {h' : Heap} {e : Addr} {cls : Value} {args : List Value} (I : Inv (cxX P w K mg base N qual sc f cdv A outer s H E) pins σ H1 s1)
    (hx : Heap.MadeExcOf s1.heap h' e cls args) (hE : E cls none H1) : (cxX P w K mg base N qual sc f cdv A outer s H E).xe (.ref e) { s1 with heap := h' } := raised_out I rfl rfl rfl hx hE
theorem pass00 {X : Cx} : Passes (CXF P w) X E0 := fun pins σ H1 s1 e s' I hx => by
  obtain ⟨_, _, _, _, _, _, _, _, _, _, _, _, _, _, hE⟩ := hx
  exact hE.elim
theorem FnOk.up {k : Nat} {fd : FuncData} {ps : List Str} {sp : Sp} {CX : CXT} (F : FnOk P w K mg base CX0 k f fd ps sp) : FnOk P w K mg base CX k f fd ps sp :=
  ⟨F.len, fun A outer s H args us vs Q E hr he hb hv hs => codeAny_mono (F.run A outer s H args us vs Q E hr he hb hv hs) fun r s' q => by
    cases r with
    | ok fl => cases fl <;> exact q
    | error e => exact (show False from q).elim⟩
theorem Fun.okX {x qual : Str} {st : Stmt} {fd : FuncData} {ps : List Str} {k : Nat} {sp : Sp} (F : Fun K x qual st f fd) (S : FnScope N ps (defScope st)) (len : ∀ vs H Q E, sp vs H Q E → vs.length = ps.length)
    (hbody : ∀ (cdv : Value) (A : Around) (outer : List Env) (s : Shared) (H : Hp) (vs : List V) (Q : VK) (E : XK), Room k (A.deeper (envOfC qual (defScope st) s.heap.objs.size f cdv)) → sp vs H Q E →
      ∃ t, PSs (cxX P w K mg base N qual (defScope st) f cdv A outer s H E) (defBody st) t ∧ t { nx := fun _ H' => Q .non H', rt := Q } (L2.start N vs) H) : FnOk P w K mg base (CXF P w) (k + 1) f fd ps sp := by
  obtain ⟨oc, od, kV, doc, pm, an, cdv, ct, osl, rfl, lk, hcd⟩ := F.ex
  exact fn_of lk hcd S len fun A outer s H vs Q E hr hsp => hbody cdv A outer s H vs Q E hr hsp
end
/-! ### raise C("..") -/
theorem own_obj {K : PySem.W.Frag} {h : Heap} {C : Addr} {bmB : List Value} {nw : String} (Z : K.In h) (q : PySem.W.excIn K C bmB nw = true) :
    ∃ bm N nm qn bs hd sn sub ab col dd k0 k1 k2 k3 k5 mN, h.get? C = some (excClassObj nm qn C N bs bm hd sn sub ab col dd k0 k1 k2 k3 k5 nw) ∧ h.Ns N mN ∧ mN "__init__" = none ∧ OwnTail h bmB bm := by
  unfold PySem.W.excIn at q
  split at q
  · rename_i dd cd sl lk
    split at q
    · rename_i C' bm k0 k1 k2 k3 n k5 hm hs
      simp only [Bool.and_eq_true, beq_iff_eq, Bool.not_eq_true'] at q
      obtain ⟨⟨⟨⟨⟨z1, z2⟩, z3⟩, z4⟩, z5⟩, z6⟩ := q
      subst z1 z2
      obtain ⟨nm, bs, mro, ns, qn, hd, sn, sub, ab, col, del⟩ := cd
      dsimp only at hm z3 z5 z6
      subst hm z3
      obtain ⟨l⟩ := sl
      dsimp only at hs
      subst hs
      exact ⟨bm, ns, nm, qn, bs, hd, sn, sub, ab, col, dd, k0, k1, k2, k3, k5, h.nsMap ns, Z _ _ lk, .of_isNs (PySem.W.isNs_of_in Z z5), PySem.W.nsMap_none_of_in Z z5 z6, PySem.W.tail_of_in Z z4⟩
    · exact absurd q Bool.false_ne_true
  · exact absurd q Bool.false_ne_true
def tRaise (R : Hp → Prop) : TS := fun _ _ H => R H
theorem ps_raise {X : Cx} {x : Str} {C : Addr} {m : Str} {j : Nat} {np ap cpos pos : Pos} {R : Hp → Prop} (hc : X.calm = true) (hg : Gl X x) (hm : X.mg x = some (.ref C)) (q : PySem.W.excIn X.K C vbm "ValueError.__new__" = true)
    (hxe : ∀ pins σ H s h' e args, Inv X pins σ H s → Heap.MadeExcOf s.heap h' e (.ref C) args → R H → X.xe (.ref e) { s with heap := h' }) (hd : (x == ("__debug__" : Str)) = false := by decide) :
    PS X (.Raise (some (.Call (.Name x np) [.Constant (.str m) j ap] [] cpos)) none pos) (tRaise R) := by
  intro pins s σ H D I h
  obtain ⟨bm, N, nm, qn, bs, hd', sn, sub, ab, col, dd, k0, k1, k2, k3, k5, mN, hC, hN, hni, T⟩ := own_obj I.kIn q
  refine wpAny_Raise_call_subT (C := C) (nm := nm) (q := qn) (N := N) (bs := bs) (bm := bm) (hdct := hd') (sn := sn) (sub := sub) (ab := ab) (col := col) (dd := dd) (k0 := k0) (k1 := k1) (k2 := k2) (k3 := k3) (k5 := k5) PySem.F.excBase_ValueError (mN := mN) (T.hasType PySem.F.excBase_ValueError.hasBase) (I.ok.hd hc) rfl hni (ld_glob I hg hm ⟨rfl, ?_⟩ hd)
  refine Calls.evalArgs_plain (Calls.spliced_cons (Calls.Constant_str (k := j) (pos := ap) (Calls.spliced_nil ?_)))
  exact ⟨rfl, sz8 (show 1 ≤ 1000 by decide), hC, hN, T, fun h' e hm => hxe pins σ H _ h' e _ (I.tok _) hm h⟩
/-! ### try: f(..) except C as n: .. -/
section
variable {X : Cx} {pins : List (Addr × Obj)} {σ : L2.St} {H H' : Hp} {s : Shared}
/-- the context of an except suite -/
abbrev cxE (X : Cx) (v : Value) : Cx := { X with A := X.A.mark (some v), calm := false }
theorem inv_mark (I : Inv X pins σ H s) (v : Value) : Inv (cxE X v) pins σ H s :=
  ⟨⟨I.ok.mod, I.ok.kind, I.ok.glob, I.ok.blt, I.ok.above, I.ok.inj, I.ok.has, I.ok.cab, (fun z => nomatch z), I.ok.frames, I.ok.stk, I.ok.exf, I.ok.bs, I.ok.bsz, I.ok.noex, I.ok.exfs, I.ok.funs, I.ok.frf⟩, I.os, I.bare, I.base, I.loc, I.cell, I.free, I.freeC, I.pin, I.hok, I.len⟩
theorem inv_unmark {v : Value} (ok : X.Ok) (I : Inv (cxE X v) pins σ H s) : Inv X pins σ H s :=
  ⟨ok, I.os, I.bare, I.base, I.loc, I.cell, I.free, I.freeC, I.pin, I.hok, I.len⟩
/-- the name behind `as` goes -/
theorem goes {M : Model} {A : Around} {E : Value → Shared → Prop} {n : Str} {i : Nat} {pos : Pos} {Q : Unit → Shared → Prop} (I : Inv X pins σ H s) (hN : X.N.Nodup) (hi : X.N[i]? = some n) (hl : X.env.kindOf n = some .local)
    (h : ∀ s', Inv X pins (σ.set i none) H s' → Q () s') : wpAny M A (do bindName X.env n .none; unbindBehindTheSuite X.env n pos) Q E s := by
  obtain ⟨m, hn, hl'⟩ := id I.loc
  have hiσ : i < σ.length := by rw [I.len]; exact (List.getElem?_eq_some_iff.mp hi).1
  refine wpAny_nameGoes_keeps hl hn (by rw [I.ok.kind]; rfl) fun h' v hn' hs => h _ ?_
  have ltL : ∀ b o, X.s₀.heap.get? b = some o → b ≠ X.env.locals := fun b o e => Nat.ne_of_lt (Nat.lt_of_lt_of_le (Heap.lt_size e) I.ok.above)
  have hok : HOk X.prog X.w H h' := fun b ob e => by
    refine (I.hok b ob e).stay (fun c w' hc q => (hs.2 c ?_).trans q) (fun _ q => q) fun _ _ q => q
    intro z
    rcases hc with y | y
    · rw [← y, z, I.free] at e; cases e
    · rw [z, I.free] at y; cases y
  refine ⟨I.ok, I.os, I.bare, ⟨fun b o e k hb hx => ?_, fun b o e k hb hx => ?_, I.base.free, fun b o e hx => ?_, I.base.tups, I.base.frzs, I.base.tbls⟩, ⟨_, hn', fun j y v' e1 e2 e3 => ?_⟩, fun y c e => ?_, I.free, I.freeC, fun p hp => ?_, hok, ?_⟩
  · exact (hs.2 b (ltL b o e)).trans (I.base.keep b o e k hb hx)
  · obtain ⟨sl, q⟩ := I.base.slot b o e k hb hx
    exact ⟨sl, (hs.2 b (ltL b o e)).trans q⟩
  · obtain ⟨o', q⟩ := I.base.there b o e hx
    exact ⟨o', (hs.2 b (ltL b o e)).trans q⟩
  · by_cases hj : j = i
    · rw [hj, List.getElem?_set_self hiσ] at e2
      cases e2
    · rw [List.getElem?_set_ne (Ne.symm hj)] at e2
      obtain ⟨u, r, q⟩ := hl' j y v' e1 e2 e3
      refine ⟨u, r, ?_⟩
      rcases q with ⟨k, e⟩ | ⟨k, c, e, z⟩
      · have ny : y ≠ n := fun z => hj (nodup_ix hN e1 (z ▸ hi))
        exact .inl ⟨k, by show (if y = n then v else m y) = some u; rw [if_neg ny]; exact e⟩
      · exact .inr ⟨k, c, e, z.sameBut hs (I.cne y c e)⟩
  · obtain ⟨w', z⟩ := I.cell y c e
    exact ⟨w', z.sameBut hs (I.cne y c e)⟩
  · obtain ⟨e, k, ne, nf, d⟩ := I.pin p hp
    exact ⟨(hs.2 p.1 ne).trans e, k, ne, nf, d⟩
  · rw [List.length_set]; exact I.len
/-- a refusal that was caught: its class -/
def excAt (x : Addr) (cls : Value) (h : Heap) : Prop := ∃ ob, h.get? x = some ob ∧ ob.cls = cls
def hoExc (x : Addr) (cls : Value) : HO := .ext (excAt x cls)
def tTry (K : PySem.W.Frag) (CB : Addr) (i : Nat) (sp : Sp) (t : TA) (ts : TS) : TS := fun D σ H => t σ H fun vs H1 => sp vs H1 (fun _ H2 => D.nx σ H2) fun cls _ H2 => PySem.W.exmOne K cls (.ref CB) = some true ∧
  ∀ x, H2 x = none → ts { nx := fun σ' H3 => D.nx (σ'.set i none) H3, rt := D.rt, bk := fun σ' H3 => D.bk (σ'.set i none) H3, ct := fun σ' H3 => D.ct (σ'.set i none) H3 } (σ.set i (some (.ref x))) (L2.upd H2 x (hoExc x cls))
theorem ps_tryCall {x cn n : Str} {i k : Nat} {f CB : Addr} {fd : FuncData} {ps : List Str} {sp : Sp} {e : Expr} {es : List Expr} {t : TA} {b₀ : Stmt} {suite : List Stmt} {ts : TS} {p pos pos' cp hpos tpos : Pos}
    (hst : X.stack = X.env :: X.outer) (hf : X.env.frame = some X.env.locals) (hnx : ∀ v s, ¬ X.xe v s)
    (F : FnOk X.prog X.w X.K X.mg X.base (CXF X.prog X.w) k f fd ps sp) (hr : Room k X.A) (hg : Gl X x) (hm : X.mg x = some (.ref f)) (hk : PySem.W.keepIn X.K (.ref f) = true) (hb : Binds X.K fd ps []) (ha : PA X (e :: es) t)
    (hgC : Gl X cn) (hmC : X.mg cn = some (.ref CB)) (hN : X.N.Nodup) (hi : X.N[i]? = some n) (hl : X.env.scope.names.lookup n = some .local) (hs : ∀ v : Value, PSs (cxE X v) (b₀ :: suite) ts)
    (hdb : (x == ("__debug__" : Str)) = false := by decide) (hdc : (cn == ("__debug__" : Str)) = false := by decide) (he : starEach (e :: es) X.env = (false, eval e X.env) :: starEach es X.env := by rfl) (hpl : (backTo pos (starEach es X.env)).any (·.1) = false := by rfl)
    (hsw : swapsWith (.Call (.Name x p) (e :: es) [] pos) none pos'.line X.env = pure false := by rfl) :
    PS X (.Try [.Expr (.Call (.Name x p) (e :: es) [] pos) pos'] [.ExceptHandler (some (.Name cn cp)) (some n) (b₀ :: suite) hpos] [] [] tpos) (tTry X.K CB i sp t ts) := by
  intro pins s σ H D I h
  refine wpAny_Try_except (wpAny_execs_cons (wpAny_Expr_any ?_ I.quiet hsw))
  refine wpAny_Call_Name_kw (ld_glob I hg hm ?_ hdb)
  refine PySem.W.callWith_K (h₀ := X.base) I.ok.mod.kin hk (wpAny_mono (ha pos pins s σ H _ I h) (fun us s1 q1 => ?_) fun _ _ z => (hnx _ _ z).elim) he hpl
  obtain ⟨vs, H1, I1, r, q⟩ := q1
  refine ⟨I1.kIn, ?_⟩
  have hlen : us.length = ps.length := by rw [← r.length]; exact F.len _ _ _ _ q
  have hbind := hb s1 us I1.kIn (by rw [List.append_nil]; exact hlen)
  rw [List.append_nil] at hbind
  refine wpAny_call (codeAny_mono (F.run X.A X.stack s1 H1 ⟨us, []⟩ us vs _ _ hr I1.env0 hbind r q) fun res s' hq => ?_)
  cases res with
  | ok fl =>
    cases fl with
    | ret u =>
      obtain ⟨v, H2, I2, _, q2⟩ := I1.after hq
      exact wpAny_execs_nil (wpAny_execs_nil ⟨σ, H2, I2, q2⟩)
    | next => exact False.elim hq
    | brk => exact False.elim hq
    | cont => exact False.elim hq
  | error ev =>
    obtain ⟨x', cls, a0, H2, B, rfl, os, bare, un, hok, fl, cT, cO, cA, hm1, hE⟩ := hq
    have fl' := fl
    rw [hst] at fl'
    refine wpAny_looks_onW (base := B) (outer := X.outer) (L := X.env.locals) (by rw [← hst]; exact I1.ok.frames) hf fl' fun h4 held4 up4 => ?_
    refine wpAny_landsW held4 fun h5 fl5 up5 => ?_
    rw [← hst] at fl5
    obtain ⟨un5, hok5⟩ := ride (P := X.prog) (w := X.w) un hok fl.1 fl.2.2.1 cT cO cA fl5.1 (up4.trans up5)
    have I5 : Inv X pins σ H2 { s' with heap := h5 } := I1.call' (s' := { s' with heap := h5 }) (ch := []) os un5 hok5 bare (fun b z => absurd z (by simp))
    have X5 := inv_mark I5 (.ref x')
    have ty5 : PySem.W.Looks (model X.prog X.w) h5 (typeOf (.ref x')) cls := by
      obtain ⟨ob, hob, hc⟩ := fl5.there
      subst hc
      exact (PySem.W.Looks.ld hob).andThen .now
    refine wpAny_handleBy_cons (codeAny_handlers_test (ld_glob X5 hgC hmC ((PySem.W.exm_one I5.kIn ty5 hm1).here ?_) hdc)) (by intro z; cases z)
    refine codeAny_handlers_suite_as ?_
    refine lands_againW fl5 fun h6 fl6 up6 => ?_
    obtain ⟨un6, hok6⟩ := ride (P := X.prog) (w := X.w) un5 hok5 fl5.1 fl5.2.2.1 cT cO cA fl6.1 up6
    obtain ⟨ob, hob, hcl⟩ := fl6.there
    have nH : H2 x' = none := by
      cases z : H2 x' with
      | none => rfl
      | some u =>
        obtain ⟨o, ho⟩ := cT x' u z
        rw [fl.2.1] at ho
        cases ho
    have nS : ∀ o, s1.heap.get? x' ≠ some o := fun o ho => by
      by_cases hx' : x' ∈ frs X.stack
      · obtain ⟨_, o', ho', hn'⟩ := fl6.2.2.1.mem hx'
        obtain ⟨oe, ws, hoe, _, hoed, _⟩ := fl6.first
        rw [hoe] at ho'
        cases ho'
        exact hn' _ hoed
      · obtain ⟨o', ho'⟩ := cA x' o ho hx'
        rw [fl.2.1] at ho'
        cases ho'
    have hT : ∀ b u, H2 b = some u → L2.upd H2 x' (hoExc x' cls) b = some u := fun b u z => by rw [upd_ne (ne_of_none z nH)]; exact z
    have un7 : Un (frs X.stack) [] H1 (L2.upd H2 x' (hoExc x' cls)) s1.heap h6 :=
      ⟨un6.keep, un6.slot, fun b o q n hx => by
        have nb : b ≠ x' := fun z => nS o (by rw [← z]; exact q)
        rw [upd_ne nb]
        exact un6.free b o q n hx, un6.there, fun b xs z => hT _ _ (un6.tups b xs z), fun b o u z => hT _ _ (un6.frzs b o u z), fun b ps z => by
        obtain ⟨m1, e1⟩ := un6.tbls b ps z
        exact ⟨m1, hT _ _ e1⟩⟩
    have hok7 : HOk X.prog X.w (L2.upd H2 x' (hoExc x' cls)) h6 := fun b u z => by
      by_cases hbx : b = x'
      · subst hbx
        rw [upd_same] at z
        cases z
        exact ⟨⟨ob, hob, hcl⟩, ⟨ob, hob⟩, fun h1 h2 ⟨o1, q1, q2⟩ k => ⟨o1, k _ q1, q2⟩⟩
      · rw [upd_ne hbx] at z
        exact (hok6 b u z).stay (fun _ _ _ q => q) (fun c q => hT _ _ q) fun c xs q => hT _ _ q
    have I6 : Inv X pins σ (L2.upd H2 x' (hoExc x' cls)) { s' with heap := h6 } := I1.call' (s' := { s' with heap := h6 }) (ch := []) os un7 hok7 bare (fun b z => absurd z (by simp))
    refine store_ok (X := cxE X (.ref x')) (inv_mark I6 (.ref x')) hN hi (.inl hl) (v := .ref x') rfl (fun s7 I7 => ?_) (.inr hl)
    refine wpAny_mono (hs (.ref x') pins s7 _ _ _ I7 (hE x' nH)) (fun f8 s8 q8 => ?_) fun _ _ z => (hnx _ _ z).elim
    cases f8 with
    | next =>
      obtain ⟨σ8, H8, I8, q8⟩ := q8
      exact goes (inv_unmark I1.ok I8) hN hi hl fun s9 I9 => ⟨_, H8, I9, q8⟩
    | brk =>
      obtain ⟨σ8, H8, I8, q8⟩ := q8
      exact goes (inv_unmark I1.ok I8) hN hi hl fun s9 I9 => ⟨_, H8, I9, q8⟩
    | cont =>
      obtain ⟨σ8, H8, I8, q8⟩ := q8
      exact goes (inv_unmark I1.ok I8) hN hi hl fun s9 I9 => ⟨_, H8, I9, q8⟩
    | ret u =>
      obtain ⟨v, σ8, H8, I8, r8, q8⟩ := q8
      exact goes (inv_unmark I1.ok I8) hN hi hl fun s9 I9 => ⟨v, _, H8, I9, r8, q8⟩
end
end Bw
set_option Elab.async false
set_option linter.all false
set_option maxRecDepth 100000
set_option maxHeartbeats 400000
namespace Bw
open PySem PySem.Spec PyProof.Rows L2
/-! ### the class of a refusal that was caught, as isinstance asks it -/
section
variable {prog : Program} {w : World} {A : Around} {E : Value → Shared → Prop} {K : PySem.W.Frag} {h : Heap} {g : Array GenState} {d : Drawn} {t : Nat} {os : OsState} {x C : Addr}
structure ExcK (K : PySem.W.Frag) (C : Addr) : Prop where
  ga : PySem.W.findIn K (.ref C) "__getattribute__" = some (some (.builtin "BaseException.__getattribute__"))
  gt : PySem.W.findIn K (.ref C) "__getattr__" = some none
  cl : PySem.W.findIn K (.ref C) "__class__" = some (some (.builtin "object.__class__"))
  mB : PySem.W.mroIn K C (.type "BaseException") = some true
  mO : PySem.W.mroIn K C (.type "object") = some true
  cls : (PySem.W.clsIn K C).isSome = true
theorem exc_ty {cls : Value} (p : excAt x cls h) (M : Model) : PySem.W.Looks M h (typeOf (.ref x)) cls := by
  obtain ⟨ob, h1, h2⟩ := p
  exact h2 ▸ (PySem.W.Looks.ld h1).andThen .now
theorem exc_get {tp : Value} {R : Result → Shared → Prop} (Z : K.In h) (F : ExcK K C) (p : excAt x (.ref C) h) (hq : R (.ok (.ret (.ref C))) ⟨h, g, d, t, os⟩) :
    codeAny (model prog w) A (.call (.builtin "getset_descriptor.__get__") ⟨[.builtin "object.__class__", .ref x, tp], []⟩) R ⟨h, g, d, t, os⟩ := by
  have L0 := exc_ty p (model prog w)
  have L1 := PySem.W.looks_mroIn (M := model prog w) Z F.mO
  refine codeAny_call_builtin PySem.W.KF.slot_gs.plain PySem.W.KF.entry_gs (PySem.W.KF.slot_gs.check _ _ _ _ _ _ _ _ PySem.W.KF.type_class (PySem.W.KF.args_gs _ _ _) ?_)
  unfold Builtin.«getset_descriptor.__get__» Builtin.Getset_descriptor.descrGet
  rw [PySem.W.dga_obj]
  refine wpAny_bind (wpAny_pure ?_)
  unfold Builtin.Getset_descriptor.descrGetter Builtin.Getset_descriptor.descrCheckInstance Builtin.Getset_descriptor.descrNameAndClass isInstance
  simp only [PySem.W.KF.owner_class]
  repeat lk
  refine ⟨Code.quiet_builtin _ (by decide +kernel), codeAny_builtin PySem.W.KF.entry_class ?_⟩
  unfold Builtin.«object.__class__» shownTypeOf
  repeat lk
  exact hq
theorem exc_entry {tk : Tok} {Q : Fin → Shared → Prop} (Z : K.In h) (F : ExcK K C) (p : excAt x (.ref C) h) (hq : Q (.done (.ret (.ref C))) ⟨h, g, d, t, os⟩) :
    wpAny (model prog w) A (Builtin.«object.__getattribute__» ⟨[.ref x, .str "__class__" tk], []⟩) Q E ⟨h, g, d, t, os⟩ := by
  have L0 := exc_ty p (model prog w)
  have L1 := PySem.W.looks_findIn (M := model prog w) Z F.cl
  have hT5 : (⟨h, g, d, t, os⟩ : Shared).TypeIs (.builtin "object.__class__") "getset_descriptor" := PySem.F.typeOf_object_class
  have f5 := PySem.F.typeOf_object_class
  have f6 := PySem.F.slot_gs_get.lookup
  have f7 := PySem.F.slot_gs_set.lookup
  repeat (any_goals (first | assumption | (with_reducible refine PySem.W.Looks.at (by assumption) ?_) | wp_step))
  refine exc_get Z F p ?_
  repeat (any_goals (first | assumption | wp_step))
theorem exc_isB {M : Model} (Z : K.In h) (F : ExcK K C) (p : excAt x (.ref C) h) : PySem.W.Looks M h (isInstance (.ref x) (.type "BaseException")) true := (exc_ty p M).andThen (PySem.W.looks_mroIn Z F.mB)
theorem ga_kind : builtinKind "BaseException.__getattribute__" = some .slot := by decide +kernel
theorem ga_split : splitId "BaseException.__getattribute__" = some ("BaseException", "__getattribute__") := by decide +kernel
theorem exc_check {M : Model} {nameV : Value} {Q : Unit → Shared → Prop} (Z : K.In h) (F : ExcK K C) (p : excAt x (.ref C) h) (hq : Q () ⟨h, g, d, t, os⟩) :
    wpAny M A (checkBuiltinCall "BaseException.__getattribute__" ⟨[.ref x, nameV], []⟩) Q E ⟨h, g, d, t, os⟩ := by
  have ha := PySem.F.args_bexc_ga (.ref x) nameV
  simp only [checkBuiltinCall, ga_kind, ga_split]
  refine wpAny_bind ((exc_isB (M := M) Z F p).here (s := ⟨h, g, d, t, os⟩) ?_)
  repeat wp_step
  exact hq
theorem exc_call {tk : Tok} {R : Result → Shared → Prop} (Z : K.In h) (F : ExcK K C) (p : excAt x (.ref C) h) (hq : R (.ok (.ret (.ref C))) ⟨h, g, d, t, os⟩) :
    codeAny (model prog w) A (.call (.builtin "BaseException.__getattribute__") ⟨[.ref x, .str "__class__" tk], []⟩) R ⟨h, g, d, t, os⟩ :=
  codeAny_call_builtin PySem.F.excAttr_ValueError.ga.plain PySem.F.entry_bexc_ga (exc_check Z F p (exc_entry Z F p hq))
theorem exc_by {tk : Tok} {Q : Value → Shared → Prop} (Z : K.In h) (F : ExcK K C) (p : excAt x (.ref C) h) (hq : Q (.ref C) ⟨h, g, d, t, os⟩) :
    wpAny (model prog w) A (getAttrBy (.ref x) (.str "__class__" tk) false) Q E ⟨h, g, d, t, os⟩ := by
  have L0 := exc_ty p (model prog w)
  have L1 := PySem.W.looks_findIn (M := model prog w) Z F.ga
  have L2 := PySem.W.looks_findIn (M := model prog w) Z F.gt
  have f3 := PySem.F.excAttr_ValueError.ga.bind (.ref x)
  have hx2 : (Value.builtin "BaseException.__getattribute__" == Value.builtin "object.__getattribute__") = false := by decide +kernel
  have hx1 : (onTheHeap (Value.ref C) && Value.builtin "BaseException.__getattribute__" == Value.builtin "object.__getattribute__") = false := by rw [hx2]; rfl
  repeat (any_goals (first | assumption | (with_reducible refine PySem.W.Looks.at (by assumption) ?_) | wp_step))
  refine exc_call Z F p ?_
  repeat (any_goals (first | assumption | wp_step))
theorem exc_attr {Q : Option Value → Shared → Prop} (Z : K.In h) (F : ExcK K C) (p : excAt x (.ref C) h) (hq : Q (some (.ref C)) ⟨h, g, d, t + 1, os⟩) :
    wpAny (model prog w) A (getAttr? (.ref x) "__class__") Q E ⟨h, g, d, t, os⟩ := by
  unfold getAttr? getAttrBy?
  repeat (any_goals (first | assumption | with_reducible apply exc_by Z F p | wp_step))
theorem kitx_exc (F : ExcK K C) : PySem.W.KitX K (.ref x) (.ref C) (excAt x (.ref C)) where
  ty := fun M _ _ p => exc_ty p M
  it := fun M h' Z _ => by
    obtain ⟨cd, hcd⟩ := Option.isSome_iff_exists.mp F.cls
    unfold PySem.W.clsIn at hcd
    split at hcd
    · rename_i lk
      intro A' Q' E' s' k q
      unfold isType loadHead
      exact wpAny_bind (wpAny_loadPart (k _ _ (Z _ _ lk)) (wpAny_pure q))
    · cases hcd
  ne := fun h' tp dd its n sl Z htp => by
    obtain ⟨cd, hcd⟩ := Option.isSome_iff_exists.mp F.cls
    refine Bool.eq_false_iff.mpr fun q => ?_
    have e : C = tp := Value.ref.inj (beq_iff_eq.mp q)
    subst e
    unfold PySem.W.clsIn at hcd
    split at hcd
    · rename_i lk
      have z := (Z _ _ lk).symm.trans htp
      cases z
    · cases hcd
  ca := fun {prog w A E Q s} Z p k => by
    obtain ⟨h1, g1, d1, t1, os1⟩ := s
    exact exc_attr Z F p k
end
/-! isinstance of a caught refusal: one class; a tuple of classes -/
section
variable {X : Cx}
def rIsiE (K : PySem.W.Frag) (C : Addr) : List V → Hp → VK → Prop := fun xs H Q => ∃ (x : Addr) (c : V) (cv : Value) (b : Bool), xs = [.ref x, c] ∧ RelV c cv ∧ H x = some (hoExc x (.ref C)) ∧ PySem.W.kitOne K (.ref C) cv = some b ∧ Q (.bl b) H
theorem call_isiE {C : Addr} (F : ExcK X.K C) : CallR X (.builtin "isinstance") (rIsiE X.K C) := by
  intro pins s σ H xs us Q I r h
  obtain ⟨x, c, cv, b, rfl, rc, hx, e, q⟩ := h
  obtain ⟨u, w', rfl, rx, rc'⟩ := vals2 r
  cases (show u = Value.ref x from rx)
  have hw : w' = cv := by
    cases c with
    | ref a => exact (show w' = Value.ref a from rc').trans (show cv = Value.ref a from rc).symm
    | ty n => exact (show w' = Value.type n from rc').trans (show cv = Value.type n from rc).symm
    | non => exact (show w' = Value.none from rc').trans (show cv = Value.none from rc).symm
    | bl z => exact (show w' = Value.bool z from rc').trans (show cv = Value.bool z from rc).symm
    | int i =>
      obtain ⟨t, rfl⟩ := rc
      exact absurd e (by unfold PySem.W.kitOne PySem.W.kitCls; simp)
    | str i =>
      obtain ⟨t, rfl⟩ := rc
      exact absurd e (by unfold PySem.W.kitOne PySem.W.kitCls; simp)
    | byt i =>
      obtain ⟨t, rfl⟩ := rc
      exact absurd e (by unfold PySem.W.kitOne PySem.W.kitCls; simp)
    | flt i =>
      obtain ⟨t, rfl⟩ := rc
      exact absurd e (by unfold PySem.W.kitOne PySem.W.kitCls; simp)
  subst hw
  have hp : excAt x (.ref C) s.heap := (I.hok x _ hx).1
  exact PySem.W.kia_one (kitx_exc F) I.kIn hp e (fun z => nomatch z) fun tk => ⟨.bl b, H, I.tok _, rfl, q⟩
def rIsiT (K : PySem.W.Frag) (C : Addr) : List V → Hp → VK → Prop := fun xs H Q => ∃ (x tp : Addr) (cs : List Addr) (b : Bool), xs = [.ref x, .ref tp] ∧ H x = some (hoExc x (.ref C)) ∧ H tp = some (.tup (cs.map V.ref)) ∧ PySem.W.kitAny K (.ref C) (cs.map Value.ref) = some b ∧ Q (.bl b) H
theorem vals_refs : ∀ {cs : List Addr} {us : List Value}, Vals (cs.map V.ref) us → us = cs.map Value.ref
  | [], _, .nil => rfl
  | a :: cs, _, .cons r t => by
    cases (show _ = Value.ref a from r)
    rw [vals_refs t]
    rfl
theorem call_isiT {C : Addr} (F : ExcK X.K C) : CallR X (.builtin "isinstance") (rIsiT X.K C) := by
  intro pins s σ H xs us Q I r h
  obtain ⟨x, tp, cs, b, rfl, hx, ht, e, q⟩ := h
  obtain ⟨u, w', rfl, rx, rc'⟩ := vals2 r
  cases (show u = Value.ref x from rx)
  cases (show w' = Value.ref tp from rc')
  have hp : excAt x (.ref C) s.heap := (I.hok x _ hx).1
  obtain ⟨_, its, rv, o, ho, hc, n, hd⟩ := (show ObjOk X.prog X.w H s.heap tp (.tup (cs.map V.ref)) from I.hok tp _ ht)
  have hv := vals_refs rv
  subst hv
  obtain ⟨oc, dd, dt, sl⟩ := o
  dsimp only at hc hd
  subst hc hd
  exact PySem.W.kia_tup (kitx_exc F) I.kIn hp ho e (fun z => nomatch z) fun tk => ⟨.bl b, H, I.tok _, rfl, q⟩
end
/-! ### calls where refusals may fly -/
structure CalX (P : Program) (w : World) (K : PySem.W.Frag) (mg : Str → Option Value) (base : Heap) (x : Str) (ps : List Str) (k : Nat) (sp : Sp) : Prop where
  ex : ∃ f fd, FnOk P w K mg base (CXF P w) k f fd ps sp ∧ Binds K fd ps [] ∧ PySem.W.keepIn K (.ref f) = true ∧ mg x = some (.ref f)
/-- in a body that no refusal leaves -/
theorem pe_calN {X : Cx} {x : Str} {ps : List Str} {k : Nat} {sp : Sp} {e : Expr} {es : List Expr} {t : TA} {p pos : Pos} (C : CalX X.prog X.w X.K X.mg X.base x ps k sp) (hr : Room k X.A) (hg : Gl X x) (ha : PA X (e :: es) t)
    (hdb : (x == ("__debug__" : Str)) = false := by decide) (he : starEach (e :: es) X.env = (false, eval e X.env) :: starEach es X.env := by rfl) (hpl : (backTo pos (starEach es X.env)).any (·.1) = false := by rfl) :
    PE X (.Call (.Name x p) (e :: es) [] pos) (tCall sp [] E0 t) := by
  obtain ⟨f, fd, F, b, kp, m⟩ := C.ex
  exact pe_call F hr hg m kp b .nil pass00 ha hdb he hpl
/-- in a body that hands refusals on -/
theorem pe_calX {P : Program} {w : World} {K : PySem.W.Frag} {mg : Str → Option Value} {base : Heap} {N : List Str} {qual : Str} {sc : Scope} {f : Addr} {cdv : Value} {A : Around} {outer : List Env} {s : Shared} {H : Hp} {E : XK}
    {x : Str} {ps : List Str} {k : Nat} {sp : Sp} {e : Expr} {es : List Expr} {t : TA} {p pos : Pos} (C : CalX P w K mg base x ps k sp) (hr : Room k (cxX P w K mg base N qual sc f cdv A outer s H E).A) (hg : Gl (cxX P w K mg base N qual sc f cdv A outer s H E) x)
    (ha : PA (cxX P w K mg base N qual sc f cdv A outer s H E) (e :: es) t)
    (hdb : (x == ("__debug__" : Str)) = false := by decide) (he : starEach (e :: es) (cxX P w K mg base N qual sc f cdv A outer s H E).env = (false, eval e (cxX P w K mg base N qual sc f cdv A outer s H E).env) :: starEach es (cxX P w K mg base N qual sc f cdv A outer s H E).env := by rfl)
    (hpl : (backTo pos (starEach es (cxX P w K mg base N qual sc f cdv A outer s H E).env)).any (·.1) = false := by rfl) :
    PE (cxX P w K mg base N qual sc f cdv A outer s H E) (.Call (.Name x p) (e :: es) [] pos) (tCall sp [] E t) := by
  obtain ⟨f', fd, F, b, kp, m⟩ := C.ex
  exact pe_call F hr hg m kp b .nil passX ha hdb he hpl
theorem ps_tryC {X : Cx} {x cn n : Str} {i k : Nat} {CB : Addr} {ps : List Str} {sp : Sp} {e : Expr} {es : List Expr} {t : TA} {b₀ : Stmt} {suite : List Stmt} {ts : TS} {p pos pos' cp hpos tpos : Pos}
    (hst : X.stack = X.env :: X.outer) (hf : X.env.frame = some X.env.locals) (hnx : ∀ v s, ¬ X.xe v s) (C : CalX X.prog X.w X.K X.mg X.base x ps k sp) (hr : Room k X.A) (hg : Gl X x) (ha : PA X (e :: es) t)
    (hgC : Gl X cn) (hmC : X.mg cn = some (.ref CB)) (hN : X.N.Nodup) (hi : X.N[i]? = some n) (hl : X.env.scope.names.lookup n = some .local) (hs : ∀ v : Value, PSs (cxE X v) (b₀ :: suite) ts)
    (hdb : (x == ("__debug__" : Str)) = false := by decide) (hdc : (cn == ("__debug__" : Str)) = false := by decide) (he : starEach (e :: es) X.env = (false, eval e X.env) :: starEach es X.env := by rfl) (hpl : (backTo pos (starEach es X.env)).any (·.1) = false := by rfl)
    (hsw : swapsWith (.Call (.Name x p) (e :: es) [] pos) none pos'.line X.env = pure false := by rfl) :
    PS X (.Try [.Expr (.Call (.Name x p) (e :: es) [] pos) pos'] [.ExceptHandler (some (.Name cn cp)) (some n) (b₀ :: suite) hpos] [] [] tpos) (tTry X.K CB i sp t ts) := by
  obtain ⟨f, fd, F, b, kp, m⟩ := C.ex
  exact ps_tryCall hst hf hnx F hr hg m kp b ha hgC hmC hN hi hl hs hdb hdc he hpl hsw
theorem w_raise {R : Hp → Prop} {D : Ends} {σ : L2.St} {H : Hp} : tRaise R D σ H = R H := rfl
theorem w_try {K : PySem.W.Frag} {CB : Addr} {i : Nat} {sp : Sp} {t : TA} {ts : TS} {D : Ends} {σ : L2.St} {H : Hp} : tTry K CB i sp t ts D σ H = t σ H (fun vs H1 => sp vs H1 (fun _ H2 => D.nx σ H2) fun cls _ H2 => PySem.W.exmOne K cls (.ref CB) = some true ∧
  ∀ x, H2 x = none → ts { nx := fun σ' H3 => D.nx (σ'.set i none) H3, rt := D.rt, bk := fun σ' H3 => D.bk (σ'.set i none) H3, ct := fun σ' H3 => D.ct (σ'.set i none) H3 } (σ.set i (some (.ref x))) (L2.upd H2 x (hoExc x cls))) := rfl
theorem w_KX {K : PySem.W.Frag} {P : Program} {w : World} {mg : Str → Option Value} {base : Heap} {N : List Str} {qual : Str} {sc : Scope} {f : Addr} {cd : Value} {A : Around} {outer : List Env} {s : Shared} {H : Hp} {E : XK} : (cxX P w K mg base N qual sc f cd A outer s H E).K = K := rfl
theorem at_memV {xs : List V} {i : Int} (h0 : 0 ≤ i) (h : i < xs.length) : ∃ z ∈ xs, atI xs i = some z := by
  have hk : i.toNat < xs.length := by omega
  have ek : i = ((i.toNat : Nat) : Int) := by omega
  refine ⟨xs[i.toNat], List.getElem_mem hk, ?_⟩
  have q : atI xs ((i.toNat : Nat) : Int) = some xs[i.toNat] := atI_nat (List.getElem?_eq_getElem hk)
  rwa [← ek] at q
theorem boot_ValueError : bootBuiltins "ValueError" = some (.type "ValueError") := by decide +kernel
end Bw
set_option Elab.async false
set_option linter.all false
set_option maxRecDepth 100000
set_option maxHeartbeats 1000000
namespace Bw
open PySem PySem.Spec PyProof.Rows L2
/-! ### try: one statement, a call or a making in it; except C as n -/
section
variable {X : Cx}
def tBMake (C : Addr) (sp : Sp) (dvs : List V) (t : TA) : XK → TE := fun E σ H Q => t σ H fun vs H1 => ∀ x dx, H1 x = none → H1 dx = none → dx ≠ x →
  sp (.ref x :: (vs ++ dvs)) (upd (upd H1 dx (.own x)) x (.ins C dx [])) (fun v H2 => v = .non ∧ Q (.ref x) H2) E
def tTryB (K : PySem.W.Frag) (CB : Addr) (i : Nat) (tb : XK → TS) (ts : TS) : TS := fun D σ H => tb (fun cls _ H2 => PySem.W.exmOne K cls (.ref CB) = some true ∧
  ∀ x, H2 x = none → ts { nx := fun σ' H3 => D.nx (σ'.set i none) H3, rt := D.rt, bk := fun σ' H3 => D.bk (σ'.set i none) H3, ct := fun σ' H3 => D.ct (σ'.set i none) H3 } (σ.set i (some (.ref x))) (L2.upd H2 x (hoExc x cls))) D σ H
end
end Bw
set_option Elab.async false
set_option linter.all false
set_option maxRecDepth 100000
set_option maxHeartbeats 1000000
namespace Bw
open PySem PySem.Spec PyProof.Rows L2
/-! ### list comprehensions: one clause, at most one test, no refusal within -/
theorem lookup_mem {α : Type} {x : Str} {c : α} : ∀ {l : List (Str × α)}, l.lookup x = some c → (x, c) ∈ l
  | [], h => by simp at h
  | (n, k) :: r, h => by
    rw [List.lookup_cons] at h
    cases hx : x == n with
    | true =>
      rw [hx] at h
      have e : x = n := by simpa using hx
      have e2 : k = c := by simpa using h
      subst e e2
      exact List.mem_cons_self
    | false =>
      rw [hx] at h
      exact List.mem_cons_of_mem _ (lookup_mem h)
theorem mem_lookup {α : Type} {x : Str} {c : α} : ∀ {l : List (Str × α)}, (x, c) ∈ l → ∃ c', l.lookup x = some c'
  | [], h => by cases h
  | (n, k) :: r, h => by
    rw [List.lookup_cons]
    cases hx : x == n with
    | true => exact ⟨k, rfl⟩
    | false =>
      rcases List.mem_cons.mp h with e | e
      · cases e
        simp at hx
      · exact mem_lookup e
theorem closure_run {env : Env} : ∀ (names : List (Str × NameKind)) (acc : List (Str × Addr)), (∀ y ∈ names, y.2 = .free → ∃ c, env.cells.lookup y.1 = some c) →
    ∃ cl : List (Str × Addr), (forIn (m := Sem) names acc fun (x : Str × NameKind) r =>
        if (x.2 == NameKind.free) = true then do let a ← cellOf env x.1; pure (ForInStep.yield ((x.1, a) :: r)) else pure (ForInStep.yield r)) = pure cl ∧
      (∀ p ∈ cl, p ∈ acc ∨ env.cells.lookup p.1 = some p.2) ∧ (∀ p ∈ acc, p ∈ cl) ∧ ∀ x, (x, NameKind.free) ∈ names → ∃ c, (x, c) ∈ cl
  | [], acc, _ => ⟨acc, rfl, fun p hp => .inl hp, fun p hp => hp, fun x hx => by cases hx⟩
  | (n, k) :: r, acc, h => by
    by_cases hk : k = .free
    · subst hk
      obtain ⟨c, hc⟩ := h (n, .free) List.mem_cons_self rfl
      obtain ⟨cl, e, h1, h2, h3⟩ := closure_run r ((n, c) :: acc) fun y hy => h y (List.mem_cons_of_mem _ hy)
      have hc' : cellOf env n = pure c := by unfold cellOf; rw [hc]
      refine ⟨cl, ?_, fun p hp => ?_, fun p hp => h2 p (List.mem_cons_of_mem _ hp), fun x hx => ?_⟩
      · rw [List.forIn_cons]
        simp only [beq_self_eq_true, if_true, hc', pure_bind]
        exact e
      · rcases h1 p hp with z | z
        · rcases List.mem_cons.mp z with rfl | z
          · exact .inr hc
          · exact .inl z
        · exact .inr z
      · rcases List.mem_cons.mp hx with z | z
        · cases z
          exact ⟨c, h2 _ List.mem_cons_self⟩
        · exact h3 x z
    · obtain ⟨cl, e, h1, h2, h3⟩ := closure_run r acc fun y hy => h y (List.mem_cons_of_mem _ hy)
      have hb : (k == NameKind.free) = false := by simpa using hk
      refine ⟨cl, ?_, h1, h2, fun x hx => ?_⟩
      · rw [List.forIn_cons]
        simp only [hb, Bool.false_eq_true, if_false, pure_bind]
        exact e
      · rcases List.mem_cons.mp hx with z | z
        · cases z
          exact absurd rfl hk
        · exact h3 x z
theorem closure_of {env : Env} {scope : Scope} (h : ∀ y ∈ scope.names, y.2 = .free → ∃ c, env.cells.lookup y.1 = some c) :
    ∃ cl, closureFor scope env = pure cl ∧ (∀ x c, cl.lookup x = some c → env.cells.lookup x = some c) ∧ ∀ x, (x, NameKind.free) ∈ scope.names → ∃ c, cl.lookup x = some c := by
  obtain ⟨cl, e, h1, h2, h3⟩ := closure_run (env := env) scope.names [] h
  refine ⟨cl, ?_, fun x c hx => ?_, fun x hx => ?_⟩
  · unfold closureFor
    simp only [bind_pure]
    exact e
  · rcases h1 _ (lookup_mem hx) with z | z
    · cases z
    · exact z
  · obtain ⟨c, hc⟩ := h3 x hx
    exact mem_lookup hc
/-- what the names are within -/
theorem relabel_mem {scope : Scope} {env : Env} {x : Str} {k : NameKind} (h : (relabel scope env).names.lookup x = some k) : (x, k) ∈ scope.names ∨ (k = .cell ∧ (x, NameKind.free) ∈ scope.names) := by
  obtain ⟨⟨n, k'⟩, hm, e⟩ := List.mem_map.mp (lookup_mem h)
  dsimp only at e
  split at e
  · rename_i hc
    simp only [Bool.and_eq_true, beq_iff_eq] at hc
    obtain ⟨⟨rfl, _⟩, _⟩ := hc
    cases e
    exact .inr ⟨rfl, hm⟩
  · cases e
    exact .inl hm
/-- the block's context -/
abbrev blk (X : Cx) (N : List Str) (scope : Scope) (cl : List (Str × Addr)) (C : Addr) (s : Shared) (H : Hp) (fp : List Addr) : Cx :=
  { prog := X.prog, w := X.w, K := X.K, mg := X.mg, base := X.base, A := X.A, N := N, s₀ := s, H₀ := H, env := compEnvC scope cl C X.env, outer := X.stack, stack := X.stack, ex := fp, fn := fun _ => false, calm := X.calm, pn := [], xe := fun _ _ => False }
def pick (ix : List (Option Nat)) (σ : L2.St) : L2.St := ix.map fun o => o.bind fun j => (σ[j]?).getD none
def PTs (X : Cx) (ifs : List Expr) (t : TT) : Prop :=
  ∀ (pins : List (Addr × Obj)) (s : Shared) (σ : L2.St) (H : Hp) (Q : Bool → Hp → Prop), Inv X pins σ H s → t σ H Q →
    wpAny (model X.prog X.w) X.A (forIn ifs true fun c r => if r = true then do let ok ← isTrue c X.env (eval c X.env); pure (ForInStep.yield ok) else pure (ForInStep.yield r)) (TP X pins σ Q) X.xe s
def tYes : TT := fun _ H Q => Q true H
theorem pts_nil {X : Cx} : PTs X [] tYes := fun pins s σ H Q I h => wpAny_tests_nil ⟨H, I, h⟩
theorem pts_one {X : Cx} {c : Expr} {t : TT} (h : PT X c t) : PTs X [c] t := fun pins s σ H Q I q => wpAny_tests_one (h pins s σ H Q I q)
def tComp (wi : TI) (ix : List (Option Nat)) (g : TG) (tt : TT) (te : TE) : TE := fun σ H Q => wi σ H fun J H1 => ∃ W : Nat → Nat → List V → L2.St → Hp → Prop, (∃ m, W 0 m [] (pick ix σ) H1) ∧ ∀ i m acc σ H, W i m acc σ H →
  (J.stop i H ∧ ∀ D, H D = none → Q (.ref D) (upd H D (.lst acc))) ∨
  (J.go i H ∧ acc.length < sizeLine ∧ ∃ N : List V → L2.St → Hp → Prop, (∀ acc' σ' H', N acc' σ' H' → ∃ m', m' < m ∧ W (i + 1) m' acc' σ' H') ∧
    ∀ x H', J.yld i H x H' → g x σ H' fun σ2 H2 => tt σ2 H2 fun b H3 => if b = true then te σ2 H3 fun y H4 => N (acc ++ [y]) σ2 H4 else N acc σ2 H3)
section
variable {prog : Program} {w : World} {A : Around} {R : Result → Shared → Prop} {s : Shared}
theorem codeAny_compLoopT {elt target iter : Expr} {ifs : List Expr} {scope : Scope} {pos : Pos} {it acc : Value} {env : Env} (I : Nat → Shared → Prop)
    (turn : ∀ n s, I n s → wpAny (model prog w) A (pyNext it) (fun r s₁ => match r with
      | none => R (.ok .next) s₁
      | some v => wpAny (model prog w) A (letOwnedTupleGo target it v) (fun _ s₁ => wpAny (model prog w) A (assign target env v) (fun _ s₂ =>
          wpAny (model prog w) A (forIn ifs true fun c r => if r = true then do let ok ← isTrue c env (eval c env); pure (ForInStep.yield ok) else pure (ForInStep.yield r)) (fun ok s₃ =>
            if ok = true then wpAny (model prog w) A (eval elt env) (fun x s₄ =>
              wpAny (model prog w) A (call (.builtin "list.append") [acc, x]) (fun _ s₅ => ∃ m, m < n ∧ I m s₅) (fun _ _ => False) s₄) (fun _ _ => False) s₃
            else ∃ m, m < n ∧ I m s₃) (fun _ _ => False) s₂) (fun _ _ => False) s₁) (fun _ _ => False) s₁) (fun _ _ => False) s)
    (n : Nat) (h : I n s) :
    codeAny (model prog w) A (.compLoop (.ListComp elt [⟨target, iter, ifs, 0⟩] scope pos) 0 it acc env) R s := by
  refine codeAny_loop rfl I (fun n s hI => ?_) n h
  show wpAny _ A ((compTurn (.ListComp elt [⟨target, iter, ifs, 0⟩] scope pos) 0 it acc env).onRaise (fun x => do noteFrame x env; theTreesLotGoes x)) _ _ s
  refine wpAny_noted ?_
  rw [compTurn_list]
  refine wpAny_bind (wpAny_standAt (wpAny_bind (wpAny_mono (turn n s hI) (fun r s₁ h₁ => ?_) fun _ _ h' => h'.elim)))
  cases r with
  | none => exact wpAny_pure h₁
  | some v =>
    refine wpAny_bind (wpAny_mono h₁ (fun _ s₁ h₁ => ?_) fun _ _ h' => h'.elim)
    refine wpAny_bind (wpAny_mono h₁ (fun _ s₂ h₂ => wpAny_bind (wpAny_mono h₂ (fun ok s₃ h₃ => ?_) fun _ _ h' => h'.elim)) fun _ _ h' => h'.elim)
    cases ok with
    | false => exact wpAny_pure ⟨rfl, h₃⟩
    | true =>
      exact wpAny_bind (wpAny_bind (wpAny_mono h₃ (fun x s₄ h₄ => wpAny_bind (wpAny_mono h₄ (fun _ s₅ h₅ => wpAny_pure (wpAny_pure ⟨rfl, h₅⟩)) fun _ _ h' => h'.elim)) fun _ _ h' => h'.elim))
end
section
variable {X : Cx} {pins : List (Addr × Obj)} {σ : L2.St} {H : Hp} {s : Shared} {N : List Str} {scope : Scope} {cl : List (Str × Addr)} {C : Addr} {fp : List Addr}
theorem blk_ok (I : Inv X pins σ H s) (hkind : scope.kind = .function) (hcell : ∀ y ∈ scope.names, y.2 ≠ .cell) (h1 : ∀ x c, cl.lookup x = some c → X.env.cells.lookup x = some c)
    (h2 : ∀ x, (x, NameKind.free) ∈ scope.names → ∃ c, cl.lookup x = some c) (hC : s.heap.objs.size ≤ C) (hf : ∀ b ∈ fp, FpOk X pins H b) (hb : ∀ b ∈ fp, b < s.heap.objs.size) : (blk X N scope cl C s H fp).Ok where
  mod := I.ok.mod
  kind := hkind
  glob := I.ok.glob
  blt := I.ok.blt
  above := hC
  inj := fun x y c a b => I.ok.inj x y c (h1 x c a) (h1 y c b)
  has := fun x hx => by
    have : (x, NameKind.free) ∈ scope.names := by
      rcases hx with z | z
      · rcases relabel_mem z with q | ⟨_, q⟩
        · exact absurd rfl (hcell _ q)
        · exact q
      · rcases relabel_mem z with q | ⟨e, q⟩
        · exact q
        · cases e
    exact h2 x this
  cab := fun x c hx => by cases hx
  hd := I.ok.hd
  frames := I.ok.frames
  stk := .inl rfl
  exf := fun b hm => ⟨Nat.ne_of_lt (Nat.lt_of_lt_of_le (hb b hm) hC), fun x c e => (hf b hm).2.2.2.2.1 x c (h1 x c e)⟩
  bs := I.bs
  bsz := Nat.le_trans I.ok.bsz I.sz
  noex := fun b o e hm => by
    rcases (hf b hm).2.2.2.1 with z | z
    · exact I.ok.noex b o e z
    · exact absurd (Nat.lt_of_lt_of_le (Heap.lt_size e) (Nat.le_trans I.ok.bsz z)) (Nat.lt_irrefl _)
  exfs := fun b hm hs => (List.mem_cons.mp (I.stkSub b hs)).elim (hf b hm).2.1 (hf b hm).2.2.1
  funs := I.stack
  frf := I.stkFree
end
theorem lookup_relabel_free {env : Env} : ∀ {names : List (Str × NameKind)} {x : Str}, names.lookup x = some .free →
    (names.map fun (n, k) => if (k == NameKind.free && env.scope.kind == .function && env.kindOf n == some .cell) then (n, NameKind.cell) else (n, k)).lookup x = some .cell ∨
    (names.map fun (n, k) => if (k == NameKind.free && env.scope.kind == .function && env.kindOf n == some .cell) then (n, NameKind.cell) else (n, k)).lookup x = some .free
  | [], _, h => by simp at h
  | (n, k) :: r, x, h => by
    have ih := @lookup_relabel_free env r x
    rw [List.map_cons]
    cases hx : x == n with
    | true =>
      simp only [List.lookup_cons, hx] at h
      cases h
      by_cases hc : (NameKind.free == NameKind.free && env.scope.kind == .function && env.kindOf n == some .cell) = true
      · left; simp only [hc, if_true, List.lookup_cons, hx]
      · right; simp only [Bool.not_eq_true] at hc; simp only [hc, Bool.false_eq_true, if_false, List.lookup_cons, hx]
    | false =>
      simp only [List.lookup_cons, hx] at h
      by_cases hc : (k == NameKind.free && env.scope.kind == .function && env.kindOf n == some .cell) = true
      · simp only [hc, if_true, List.lookup_cons, hx]; exact ih h
      · simp only [Bool.not_eq_true] at hc; simp only [hc, Bool.false_eq_true, if_false, List.lookup_cons, hx]; exact ih h
section
variable {X : Cx}
/-- the block's own frame behind it: nobody's -/
structure Gone (X : Cx) (pins : List (Addr × Obj)) (H : Hp) (C : Addr) : Prop where
  n : H C = none
  l : C ≠ X.env.locals
  y : X.s₀.heap.objs.size ≤ C
  c : ∀ x c, X.env.cells.lookup x = some c → c ≠ C
  p : ∀ p ∈ X.pn ++ pins, p.1 ≠ C
theorem Gone.inv {pins : List (Addr × Obj)} {σ : L2.St} {H : Hp} {s : Shared} {C : Addr} {h' : Heap} (G : Gone X pins H C) (I : Inv X pins σ H s) (hs : Heap.SameBut C s.heap h') : Inv X pins σ H { s with heap := h' } :=
  I.turned (t' := s.toks) (fun b o hb e => (hs.2 b hb).trans e) G.n G.l (.inr G.y) G.c G.p
theorem comp_run {elt iter tg : Expr} {ifs : List Expr} {scope : Scope} {pos ppos : Pos} {wi : TI} {g : TG} {tt : TT} {te : TE} {use : Option (Value → Sem Unit)} {Q' : Value → Shared → Prop} {pins : List (Addr × Obj)} {s : Shared} {σ : L2.St} {H : Hp} {Q : VK} (N : List Str) (ix : List (Option Nat)) (hc : X.calm = true) (hkind : scope.kind = .function) (hcell : ∀ y ∈ scope.names, y.2 ≠ .cell)
    (hnames : ∀ y ∈ scope.names, y.2 = .local → scope.names.lookup y.1 = some .local) (hfree : ∀ y ∈ scope.names, y.2 = .free → X.env.kindOf y.1 = some .cell ∨ X.env.kindOf y.1 = some .free)
    (hlen : ix.length = N.length) (hcap : ∀ (i j : Nat) (x : Str), ix[i]? = some (some j) → N[i]? = some x → X.N[j]? = some x ∧ scope.names.lookup x = some .free) (hi : PI X tg iter wi)
    (hb : ∀ cl C s H fp, PG (blk X N scope cl C s H fp) tg g ∧ PTs (blk X N scope cl C s H fp) ifs tt ∧ PE (blk X N scope cl C s H fp) elt te)
    (hs : ∀ x, foldedSetIterable iter X.env x = pure x) (I : Inv X pins σ H s) (h : tComp wi ix g tt te σ H Q)
    (hend : ∀ (D C : Addr) (H' : Hp) (s4 : Shared) (mC : Str → Option Value), Inv X pins σ H' s4 → s4.heap.Ns C mC → Gone X pins H' C → Q (.ref D) H' → compPost (model X.prog X.w) X.A X.xe use Q' (.ref D) C (.ok .next) s4) :
    wpAny (model X.prog X.w) X.A (comprehension (.ListComp elt [⟨tg, iter, ifs, 0⟩] scope pos) scope X.env ppos (newList []) false (eval iter X.env) use) Q' X.xe s := by
  obtain ⟨cl, hclos, hcl1, hcl2⟩ := closure_of (env := X.env) (scope := scope) fun y hy e => I.ok.has _ (hfree y hy e)
  refine wpAny_comprehension_free rfl hs hclos hkind hnames (thn (hi pins s σ H _ I h) fun v s1 h1 => thn h1 fun itv s2 h2 => ?_)
  obtain ⟨it, fp, tn, J, H2, e, I2, T, st2, f2, W, ⟨m0, w0⟩, turn⟩ := h2
  subst e
  refine wpAny_newObj_type (wpAny_newFunctionEnv hcell (by intro y hy; simp at hy) (fun h₁ hns₁ hsb₁ => ?_) hkind)
  dsimp only at hns₁ hsb₁ ⊢
  generalize hH2 : s2.heap.push { cls := .type "list", dict := none, data := .seq ([] : List Value).toArray } = HH at hns₁ hsb₁ ⊢
  have hC : HH.objs.size = s2.heap.objs.size + 1 := by rw [← hH2, Heap.size_push]
  have hDC : s2.heap.objs.size ≠ HH.objs.size := by rw [hC]; exact Nat.ne_of_lt (Nat.lt_succ_self _)
  have hCle : s2.heap.objs.size ≤ HH.objs.size := by rw [hC]; exact Nat.le_succ _
  have below : ∀ b, b < s2.heap.objs.size → b ≠ HH.objs.size ∧ b ≠ s2.heap.objs.size := fun b hb => ⟨by rw [hC]; exact Nat.ne_of_lt (Nat.lt_succ_of_lt hb), Nat.ne_of_lt hb⟩
  have hfp : ∀ b ∈ fp, b < s2.heap.objs.size := fun b hm => by
    obtain ⟨o, e, _⟩ := T.obj _ _ st2 b hm
    exact Heap.lt_size e
  have old : ∀ b o, s2.heap.get? b = some o → h₁.get? b = some o := fun b o e => hsb₁.extBut b o (below b (Heap.lt_size e)).1 (Heap.get?_push_of_some _ (hH2 ▸ Heap.get?_push_of_some _ e))
  have hacc : h₁.get? s2.heap.objs.size = some { cls := .type "list", data := .seq ([] : List Value).toArray } := hsb₁.extBut _ _ hDC (Heap.get?_push_of_some _ (hH2 ▸ Heap.get?_push_size _ rfl))
  generalize hD : s2.heap.objs.size = D at hDC hCle hacc ⊢
  generalize hCC : HH.objs.size = C at hns₁ hsb₁ hDC hCle ⊢
  have hDle : s2.heap.objs.size ≤ D := by rw [hD]; exact Nat.le_refl _
  have hCle' : s2.heap.objs.size ≤ C := by rw [hD]; exact hCle
  obtain ⟨bg, bt, be⟩ := hb cl C s2 H2 fp
  have ok := blk_ok (N := N) I2 hkind hcell hcl1 hcl2 hCle' f2 hfp
  have notY : ∀ b, s2.heap.objs.size ≤ b → b ∉ frs X.stack := fun b hle hm => by
    rcases List.mem_cons.mp (I2.stkSub b hm) with z | z
    · exact absurd (Nat.lt_of_lt_of_le I2.lt (z ▸ hle)) (Nat.lt_irrefl _)
    · exact I2.nofs hle z
  -- the block's invariant at its entry
  have I4 : Inv (blk X N scope cl C s2 H2 fp) [(D, { cls := .type "list", data := .seq ([] : List Value).toArray })] (pick ix σ) H2 { s2 with heap := h₁, toks := s2.toks + ([] : List (Str × Value)).length } := by
    refine ⟨ok, rfl, I2.bare, Un.kept old, ⟨_, hns₁, fun i x v e1 e2 e3 => ?_⟩, fun x c e => ?_, I2.hok.fresh hCle', fun x c e => I2.freeC x c (hcl1 x c e), fun p hp => ?_, I2.hok.kept old, ?_⟩
    · have q : ∃ j, ix[i]? = some (some j) ∧ σ[j]? = some (some v) := by
        unfold pick at e2
        rw [List.getElem?_map] at e2
        cases z : ix[i]? with
        | none => rw [z] at e2; cases e2
        | some o =>
          rw [z] at e2
          cases o with
          | none => cases e2
          | some j =>
            refine ⟨j, rfl, ?_⟩
            have e2' : (σ[j]?).getD none = some v := Option.some.inj e2
            cases z2 : σ[j]? with
            | none => rw [z2] at e2'; cases e2'
            | some w' => rw [z2] at e2'; exact congrArg some e2'
      obtain ⟨j, q1, q2⟩ := q
      obtain ⟨n1, n2⟩ := hcap i j x q1 e1
      obtain ⟨m, hn, hl⟩ := I2.loc
      have hmem := lookup_mem n2
      have hkx := hfree _ hmem rfl
      have hvis : Vis X.env.scope x := by
        rcases hkx with z | z
        · exact .inr (.inl z)
        · exact .inr (.inr z)
      obtain ⟨u, ru, lk⟩ := hl j x v n1 q2 hvis
      refine ⟨u, ru, .inr ⟨lookup_relabel_free n2, ?_⟩⟩
      obtain ⟨c, hcc⟩ := hcl2 x hmem
      rcases lk with ⟨k, _⟩ | ⟨_, c', e', z⟩
      · rcases hkx with z | z <;> · rw [k] at z; cases z
      · rw [hcl1 x c hcc] at e'
        cases e'
        obtain ⟨o, ho, hd⟩ := z
        exact ⟨c, hcc, o, old _ _ ho, hd⟩
    · obtain ⟨v, o, ho, hd⟩ := I2.cell x c (hcl1 x c e)
      exact ⟨v, o, old _ _ ho, hd⟩
    · have e : p = (D, { cls := .type "list", data := .seq ([] : List Value).toArray }) := by simpa using hp
      subst e
      exact ⟨hacc, I2.hok.fresh hDle, hDC, notY D hDle, fun v z => by cases z⟩
    · unfold pick
      rw [List.length_map]
      exact hlen
  have stat : ∀ {pl : List (Addr × Obj)} {H' : Hp}, (∀ p ∈ pl, p.1 ∉ fp) → (∀ b ∈ fp, H' b = none) → ∀ b ∈ fp, FpOk (blk X N scope cl C s2 H2 fp) pl H' b := fun {pl H'} hpl hn b hm =>
    ⟨hn b hm, (ok.exf b hm).1, ok.exfs b hm, .inl hm, (ok.exf b hm).2, fun p hp e => hpl p (by simpa using hp) (e ▸ hm)⟩
  have nfp : D ∉ fp := fun hm => absurd (Nat.lt_of_lt_of_le (hfp D hm) hDle) (Nat.lt_irrefl _)
  have nfpP : ∀ (o : Obj), ∀ p ∈ [(D, o)], p.1 ∉ fp := fun o p hp => by
    have e : p = (D, o) := by simpa using hp
    subst e
    exact nfp
  have loop : ∀ s3 : Shared, s3 = { s2 with heap := h₁, toks := s2.toks + ([] : List (Str × Value)).length } →
      codeAny (model X.prog X.w) X.A (.compLoop (.ListComp elt [⟨tg, iter, ifs, 0⟩] scope pos) 0 (.ref it) (.ref D) (compEnvC scope cl C X.env)) (compPost (model X.prog X.w) X.A X.xe use Q' (.ref D) C) s3 := by
    rintro s3 rfl
    refine codeAny_compLoopT (fun n s' => ∃ i σ' H' acc its nn, Inv (blk X N scope cl C s2 H2 fp) [(D, { cls := .type "list", data := .seq its nn })] σ' H' s' ∧ Vals acc its.toList ∧ tn i s'.heap ∧ (∀ b ∈ fp, H' b = none) ∧ acc.length ≤ sizeLine ∧ W i n acc σ' H') ?_ m0
      ⟨0, pick ix σ, H2, [], #[], 0, I4, .nil, T.keep _ _ _ st2 fun b _ o e => old b o e, fun b hm => (f2 b hm).1, Nat.zero_le _, w0⟩
    rintro n s3 ⟨i, σ3, H3, acc, its, nn, I3, rv, st3, fr3, hz, w3⟩
    rcases turn i n acc σ3 H3 w3 with ⟨stop, qn⟩ | ⟨go, hlt, NN, hN, step⟩
    · refine thn (T.done (blk X N scope cl C s2 H2 fp) rfl rfl rfl hc i _ s3 σ3 H3 (fun _ _ => False) I3 (stat (nfpP _) fr3) st3 stop) fun r s4 ⟨hr, I5⟩ => ?_
      subst hr
      obtain ⟨eD, nD, _⟩ := I5.pin (D, { cls := .type "list", data := .seq its nn }) (by simp)
      obtain ⟨mC, hnC, _⟩ := I5.loc
      -- back in the def's own frame
      have hne : ∀ b u, H3 b = some u → b ≠ D := fun b u q z => by rw [z, nD] at q; cases q
      have un : Un (frs X.stack) fp H2 (upd H3 D (.lst acc)) s2.heap s4.heap := by
        have b := I5.base
        have neD : ∀ b o, s2.heap.get? b = some o → b ≠ D := fun b o e => Nat.ne_of_lt (Nat.lt_of_lt_of_le (Heap.lt_size e) hDle)
        refine ⟨b.keep, b.slot, fun b' o q n' hx => ?_, b.there, fun b' xs q => ?_, fun b' o u q => ?_, fun b' ps q => ?_⟩
        · rw [upd_ne (neD b' o q)]
          exact b.free b' o q n' hx
        · have q' := b.tups b' xs q
          rw [upd_ne (hne _ _ q')]
          exact q'
        · have q' := b.frzs b' o u q
          rw [upd_ne (hne _ _ q')]
          exact q'
        · obtain ⟨more, q'⟩ := b.tbls b' ps q
          exact ⟨more, by rw [upd_ne (hne _ _ q')]; exact q'⟩
      have hokD : HOk X.prog X.w (upd H3 D (.lst acc)) s4.heap := fun b u e => by
        by_cases hbD : b = D
        · subst hbD
          rw [upd_same] at e
          cases e
          exact ⟨hz, its.toList, nn, rv, by simpa using eD⟩
        · rw [upd_ne hbD] at e
          refine (I5.hok b u e).stay (fun _ _ _ q => q) (fun c r => ?_) fun c xs r => ?_
          · rw [upd_ne (fun z => by rw [z, nD] at r; cases r)]; exact r
          · rw [upd_ne (fun z => by rw [z, nD] at r; cases r)]; exact r
      have IX : Inv X pins σ (upd H3 D (.lst acc)) s4 := I2.call' I5.os un hokD I5.bare fun b hm => ⟨(f2 b hm).2.2.2.1, (f2 b hm).2.1, (f2 b hm).2.2.2.2.1, (f2 b hm).2.2.2.2.2⟩
      refine hend D C _ s4 mC IX hnC ⟨?_, Nat.ne_of_gt (Nat.lt_of_lt_of_le I2.lt hCle'), Nat.le_trans I2.sz hCle', fun x c e z => ?_, fun p hp z => ?_⟩ (qn D nD)
      · rw [upd_ne (Ne.symm hDC)]
        exact I5.free
      · obtain ⟨v, o, ho, _⟩ := I2.cell x c e
        exact absurd (Nat.lt_of_lt_of_le (Heap.lt_size ho) (z ▸ hCle')) (Nat.lt_irrefl _)
      · exact absurd (Nat.lt_of_lt_of_le (Heap.lt_size (I2.pin p hp).1) (z ▸ hCle')) (Nat.lt_irrefl _)
    · refine thn (T.item (blk X N scope cl C s2 H2 fp) rfl rfl rfl hc i _ s3 σ3 H3 (fun _ _ => False) I3 (stat (nfpP _) fr3) st3 go) fun r s4 ⟨u, hr, h4⟩ => ?_
      subst hr
      refine thn h4 fun _ s5 ⟨x, H5, I5, r5, y5, st5, fr5⟩ => ?_
      have I5' := I5.pinned (stat (nfpP _) fr5) (T.obj _ _ st5)
      refine thn (bg _ s5 σ3 H5 x u _ I5' r5 (step x H5 y5)) fun _ s6 ⟨σ6, H6, I6, q6⟩ => ?_
      refine thn (bt _ s6 σ6 H6 _ I6 q6) fun b s7 ⟨H7, I7, q7⟩ => ?_
      have after : ∀ {o : Obj} {σ8 : L2.St} {H8 : Hp} {s8 : Shared}, Inv (blk X N scope cl C s2 H2 fp) ([(D, o)] ++ pinsAt fp s5.heap) σ8 H8 s8 → tn (i + 1) s8.heap ∧ ∀ b ∈ fp, H8 b = none := fun {o σ8 H8 s8} I8 => by
        refine ⟨T.keep _ _ _ st5 fun b hb o e => (I8.pin (b, o) (List.mem_append_right _ (List.mem_append_right _ (mem_pinsAt hb e)))).1, fun b hb => ?_⟩
        obtain ⟨o, e, d⟩ := T.obj _ _ st5 b hb
        exact (I8.pin (b, o) (List.mem_append_right _ (List.mem_append_right _ (mem_pinsAt hb e)))).2.1
      cases b with
      | false =>
        simp only [Bool.false_eq_true, if_false] at q7 ⊢
        obtain ⟨m', hm, w7⟩ := hN acc σ6 H7 q7
        exact ⟨m', hm, i + 1, σ6, H7, acc, its, nn, I7.unpinned, rv, (after I7).1, (after I7).2, hz, w7⟩
      | true =>
        simp only [if_true] at q7 ⊢
        refine thn (be _ s7 σ6 H7 _ I7 q7) fun yv s8 ⟨y, H8, I8, r8, q8⟩ => ?_
        obtain ⟨eD, nD, _⟩ := I8.pin (D, { cls := .type "list", data := .seq its nn }) (by simp)
        have hl : acc.length = its.size := by have := rv.length; simpa using this
        refine wpAny_list_append_plain (hsz := by omega) ⟨nn, eD⟩ fun h9 ⟨n9, e9⟩ hs9 => ?_
        obtain ⟨m', hm, w9⟩ := hN _ _ _ q8
        have J1 : Inv (blk X N scope cl C s2 H2 fp) (pinsAt fp s5.heap) σ6 H8 s8 := I8.pins_of fun p hp => I8.pin p (List.mem_append_right _ (List.mem_append_right _ hp))
        have nc : ∀ x c, cl.lookup x = some c → c ≠ D := fun x c e z => by
          obtain ⟨v, o, ho, _⟩ := I2.cell x c (hcl1 x c e)
          exact absurd (Nat.lt_of_lt_of_le (Heap.lt_size ho) (z ▸ hDle)) (Nat.lt_irrefl _)
        have J2 : Inv (blk X N scope cl C s2 H2 fp) (pinsAt fp s5.heap) σ6 H8 { s8 with heap := h9 } := J1.turned (t' := s8.toks) (fun b o hb e => hs9.extBut b o hb e) nD hDC (.inr hDle) nc fun p hp z => by
          have hp' : p ∈ pinsAt fp s5.heap := by simpa using hp
          exact nfp (z ▸ (of_pinsAt hp').1)
        have J3 : Inv (blk X N scope cl C s2 H2 fp) ([(D, { cls := .type "list", data := .seq (its.push yv) n9 })] ++ pinsAt fp s5.heap) σ6 H8 { s8 with heap := h9 } := J2.pins_of fun p hp => by
          rcases List.mem_append.mp hp with hp | hp
          · have e : p = (D, { cls := .type "list", data := .seq (its.push yv) n9 }) := by simpa using hp
            subst e
            exact ⟨e9, nD, hDC, notY D hDle, fun v z => by cases z⟩
          · exact J2.pin p (List.mem_append_right _ hp)
        refine ⟨m', hm, i + 1, σ6, H8, acc ++ [y], its.push yv, n9, J3.unpinned, ?_, (after J3).1, (after J3).2, by rw [List.length_append, List.length_singleton]; omega, w9⟩
        rw [Array.toList_push]
        exact rv.append (.cons r8 .nil)
  exact codeAny_compStart_list (loop _ rfl) (T.self _ 0 _ _ _ (T.keep _ _ _ st2 fun b _ o e => old b o e) (loop _ rfl))
theorem pe_comp {elt iter tg : Expr} {ifs : List Expr} {scope : Scope} {pos : Pos} {wi : TI} {g : TG} {tt : TT} {te : TE} (N : List Str) (ix : List (Option Nat)) (hc : X.calm = true) (hkind : scope.kind = .function) (hcell : ∀ y ∈ scope.names, y.2 ≠ .cell)
    (hnames : ∀ y ∈ scope.names, y.2 = .local → scope.names.lookup y.1 = some .local) (hfree : ∀ y ∈ scope.names, y.2 = .free → X.env.kindOf y.1 = some .cell ∨ X.env.kindOf y.1 = some .free)
    (hlen : ix.length = N.length) (hcap : ∀ (i j : Nat) (x : Str), ix[i]? = some (some j) → N[i]? = some x → X.N[j]? = some x ∧ scope.names.lookup x = some .free) (hi : PI X tg iter wi)
    (hb : ∀ cl C s H fp, PG (blk X N scope cl C s H fp) tg g ∧ PTs (blk X N scope cl C s H fp) ifs tt ∧ PE (blk X N scope cl C s H fp) elt te)
    (hs : ∀ x, foldedSetIterable iter X.env x = pure x := by intro _; rfl) : PE X (.ListComp elt [⟨tg, iter, ifs, 0⟩] scope pos) (tComp wi ix g tt te) := by
  intro pins s σ H Q I h
  rw [eval_ListComp]
  exact comp_run (use := none) N ix hc hkind hcell hnames hfree hlen hcap hi hb hs I h fun D C H' s4 mC I4 hn G q => ⟨mC, hn, fun h' hs' => ⟨.ref D, H', G.inv I4 hs', rfl, q⟩⟩
/-- name = [..] on one line, the name a plain local -/
theorem ps_comp {i : Nat} {y : Str} {elt iter tg : Expr} {ifs : List Expr} {scope : Scope} {pos py spos : Pos} {wi : TI} {g : TG} {tt : TT} {te : TE} (N : List Str) (ix : List (Option Nat)) (hc : X.calm = true) (hkind : scope.kind = .function) (hcell : ∀ y ∈ scope.names, y.2 ≠ .cell)
    (hnames : ∀ y ∈ scope.names, y.2 = .local → scope.names.lookup y.1 = some .local) (hfree : ∀ y ∈ scope.names, y.2 = .free → X.env.kindOf y.1 = some .cell ∨ X.env.kindOf y.1 = some .free)
    (hlen : ix.length = N.length) (hcap : ∀ (i j : Nat) (x : Str), ix[i]? = some (some j) → N[i]? = some x → X.N[j]? = some x ∧ scope.names.lookup x = some .free) (hN : X.N.Nodup) (hin : X.N[i]? = some y) (hy : X.env.scope.names.lookup y = some .local) (hi : PI X tg iter wi)
    (hb : ∀ cl C s H fp, PG (blk X N scope cl C s H fp) tg g ∧ PTs (blk X N scope cl C s H fp) ifs tt ∧ PE (blk X N scope cl C s H fp) elt te)
    (hsw : swapsWith (.ListComp elt [⟨tg, iter, ifs, 0⟩] scope pos) (some (.Name y py)) spos.line X.env = pure true := by rfl)
    (hs : ∀ x, foldedSetIterable iter X.env x = pure x := by intro _; rfl) : PS X (.Assign [.Name y py] (.ListComp elt [⟨tg, iter, ifs, 0⟩] scope pos) spos) (tAsg (tComp wi ix g tt te) (gName i)) := by
  intro pins s σ H D I h
  rw [exec_Assign_Name_used _ _ _ _ hsw]
  refine wpAny_bind (wpAny_standAt (wpAny_bind ?_))
  show wpAny _ X.A (do let _ ← comprehension (.ListComp elt [⟨tg, iter, ifs, 0⟩] scope pos) scope X.env _ (newList []) false (eval iter X.env) (some (assign (.Name y py) X.env))) _ _ s
  refine wpAny_bind (thn (comp_run (use := some (assign (.Name y py) X.env)) (Q' := fun _ s' => SP X pins D .next s') (Q := fun v H' => D.nx (σ.set i (some v)) H') N ix hc hkind hcell hnames hfree hlen hcap hi hb hs I h fun Dd C H' s4 mC I4 hn G q => ?_) fun _ s' hq => wpAny_pure (wpAny_pure hq))
  show wpAny _ X.A (assign (.Name y py) X.env (.ref Dd)) _ _ _
  refine wpAny_assign_Name (store_ok2 (v := .ref Dd) I4 hN hin (.inl hy) rfl (fun s5 I5 ⟨a, sb, ha⟩ => ?_) (.inr hy))
  have hCa : C ≠ a := by
    rcases ha with z | z
    · rw [z]; exact G.l
    · exact fun e => G.c _ _ z e.symm
  exact ⟨mC, hn.sameBut sb hCa, fun h' hs' => ⟨_, H', G.inv I5 hs', q⟩⟩
end
/-! ### the forms one uses -/
theorem comp_list {K : PySem.W.Frag} {a : Addr} {xs : List V} {g : TG} {tt : TT} {te : TE} {σ : L2.St} {H : Hp} {Q : VK} (Pv : Nat → List V → L2.St → Hp → Prop) (hz : xs.length ≤ sizeLine) (h0 : Pv 0 [] σ H) (hl : ∀ i acc σ H, i ≤ xs.length → Pv i acc σ H → SqL K H a xs)
    (hs : ∀ i x acc σ H, xs[i]? = some x → Pv i acc σ H → g x σ H fun σ2 H2 => tt σ2 H2 fun b H3 => if b = true then te σ2 H3 fun y H4 => Pv (i + 1) (acc ++ [y]) σ2 H4 else Pv (i + 1) acc σ2 H3)
    (hacc : ∀ i acc σ H, Pv i acc σ H → acc.length ≤ i) (hd : ∀ acc σ H, Pv xs.length acc σ H → ∀ D, H D = none → Q (.ref D) (upd H D (.lst acc))) :
    ∃ W : Nat → Nat → List V → L2.St → Hp → Prop, (∃ m, W 0 m [] σ H) ∧ ∀ i m acc σ H, W i m acc σ H →
      ((Itl K a).stop i H ∧ ∀ D, H D = none → Q (.ref D) (upd H D (.lst acc))) ∨
      ((Itl K a).go i H ∧ acc.length < sizeLine ∧ ∃ N : List V → L2.St → Hp → Prop, (∀ acc' σ' H', N acc' σ' H' → ∃ m', m' < m ∧ W (i + 1) m' acc' σ' H') ∧
        ∀ x H', (Itl K a).yld i H x H' → g x σ H' fun σ2 H2 => tt σ2 H2 fun b H3 => if b = true then te σ2 H3 fun y H4 => N (acc ++ [y]) σ2 H4 else N acc σ2 H3) := by
  refine ⟨fun i m acc σ H => m = xs.length - i ∧ i ≤ xs.length ∧ Pv i acc σ H, ⟨xs.length, by simp, Nat.zero_le _, h0⟩, ?_⟩
  rintro i m acc σ H ⟨rfl, hi, p⟩
  have q := hl i acc σ H hi p
  have ha := hacc i acc σ H p
  by_cases hlt : i < xs.length
  · refine .inr ⟨⟨xs, xs[i], q, by simp [hlt]⟩, by omega, Pv (i + 1), fun acc' σ' H' p' => ⟨xs.length - (i + 1), by omega, rfl, hlt, p'⟩, fun x H' y => ?_⟩
    obtain ⟨e, y⟩ := y
    subst e
    exact hs i x acc σ _ (y xs q) p
  · have e : i = xs.length := by omega
    subst e
    exact .inl ⟨⟨xs, q, Nat.le_refl _⟩, hd acc σ H p⟩
theorem comp_range {lo : Int} {n : Nat} {g : TG} {tt : TT} {te : TE} {σ : L2.St} {H : Hp} {Q : VK} (Pv : Nat → List V → L2.St → Hp → Prop) (hz : n ≤ sizeLine) (h0 : Pv 0 [] σ H)
    (hs : ∀ i acc σ H, i < n → Pv i acc σ H → g (.int (lo + i)) σ H fun σ2 H2 => tt σ2 H2 fun b H3 => if b = true then te σ2 H3 fun y H4 => Pv (i + 1) (acc ++ [y]) σ2 H4 else Pv (i + 1) acc σ2 H3)
    (hacc : ∀ i acc σ H, Pv i acc σ H → acc.length ≤ i) (hd : ∀ acc σ H, Pv n acc σ H → ∀ D, H D = none → Q (.ref D) (upd H D (.lst acc))) :
    ∃ W : Nat → Nat → List V → L2.St → Hp → Prop, (∃ m, W 0 m [] σ H) ∧ ∀ i m acc σ H, W i m acc σ H →
      ((Itr lo n).stop i H ∧ ∀ D, H D = none → Q (.ref D) (upd H D (.lst acc))) ∨
      ((Itr lo n).go i H ∧ acc.length < sizeLine ∧ ∃ N : List V → L2.St → Hp → Prop, (∀ acc' σ' H', N acc' σ' H' → ∃ m', m' < m ∧ W (i + 1) m' acc' σ' H') ∧
        ∀ x H', (Itr lo n).yld i H x H' → g x σ H' fun σ2 H2 => tt σ2 H2 fun b H3 => if b = true then te σ2 H3 fun y H4 => N (acc ++ [y]) σ2 H4 else N acc σ2 H3) := by
  refine ⟨fun i m acc σ H => m = n - i ∧ i ≤ n ∧ Pv i acc σ H, ⟨n, by simp, Nat.zero_le _, h0⟩, ?_⟩
  rintro i m acc σ H ⟨rfl, hi, p⟩
  have ha := hacc i acc σ H p
  by_cases hlt : i < n
  · refine .inr ⟨hlt, by omega, Pv (i + 1), fun acc' σ' H' p' => ⟨n - (i + 1), by omega, rfl, hlt, p'⟩, fun x H' y => ?_⟩
    obtain ⟨e, y⟩ := y
    subst e y
    exact hs i acc σ _ hlt p
  · have e : i = n := by omega
    subst e
    exact .inl ⟨Nat.le_refl _, hd acc σ H p⟩
/-! ### all that is asked of the names, by one check -/
def capB (XN : List Str) (scope : Scope) : List Str → List (Option Nat) → Bool
  | _, [] => true
  | [], _ => true
  | _ :: r, none :: s => capB XN scope r s
  | x :: r, some j :: s => decide (XN[j]? = some x) && decide (scope.names.lookup x = some .free) && capB XN scope r s
theorem capB_ok {XN : List Str} {scope : Scope} : ∀ {N : List Str} {ix : List (Option Nat)}, capB XN scope N ix = true → ∀ (i j : Nat) (x : Str), ix[i]? = some (some j) → N[i]? = some x → XN[j]? = some x ∧ scope.names.lookup x = some .free
  | [], [], _, i, j, x, h1, _ => by simp at h1
  | _ :: _, [], _, i, j, x, h1, _ => by simp at h1
  | [], _ :: _, _, i, j, x, _, h2 => by simp at h2
  | y :: r, none :: s, h, i, j, x, h1, h2 => by
    cases i with
    | zero => simp at h1
    | succ i => exact capB_ok (N := r) (ix := s) h i j x (by simpa using h1) (by simpa using h2)
  | y :: r, some k :: s, h, i, j, x, h1, h2 => by
    have h' : (decide (XN[k]? = some y) && decide (scope.names.lookup y = some .free) && capB XN scope r s) = true := h
    rw [Bool.and_eq_true, Bool.and_eq_true, decide_eq_true_eq, decide_eq_true_eq] at h'
    cases i with
    | zero =>
      simp at h1 h2
      subst h1 h2
      exact h'.1
    | succ i => exact capB_ok h'.2 i j x (by simpa using h1) (by simpa using h2)
def compOk (XN : List Str) (sc scope : Scope) (N : List Str) (ix : List (Option Nat)) : Bool :=
  decide (scope.kind = .function) && decide (∀ y ∈ scope.names, y.2 ≠ .cell) && decide (∀ y ∈ scope.names, y.2 = .local → scope.names.lookup y.1 = some .local) &&
    decide (∀ y ∈ scope.names, y.2 = .free → sc.names.lookup y.1 = some .cell ∨ sc.names.lookup y.1 = some .free) && decide (ix.length = N.length) && capB XN scope N ix
section
variable {X : Cx}
theorem pe_compB {elt iter tg : Expr} {ifs : List Expr} {scope : Scope} {pos : Pos} {wi : TI} {g : TG} {tt : TT} {te : TE} (N : List Str) (ix : List (Option Nat)) (hc : X.calm = true) (hk : compOk X.N X.env.scope scope N ix = true) (hi : PI X tg iter wi)
    (hb : ∀ cl C s H fp, PG (blk X N scope cl C s H fp) tg g ∧ PTs (blk X N scope cl C s H fp) ifs tt ∧ PE (blk X N scope cl C s H fp) elt te)
    (hs : ∀ x, foldedSetIterable iter X.env x = pure x := by intro _; rfl) : PE X (.ListComp elt [⟨tg, iter, ifs, 0⟩] scope pos) (tComp wi ix g tt te) := by
  unfold compOk at hk
  simp only [Bool.and_eq_true, decide_eq_true_eq] at hk
  obtain ⟨⟨⟨⟨⟨h1, h2⟩, h3⟩, h4⟩, h5⟩, h6⟩ := hk
  exact pe_comp N ix hc h1 h2 h3 h4 h5 (capB_ok h6) hi hb hs
theorem ps_compB {i : Nat} {y : Str} {elt iter tg : Expr} {ifs : List Expr} {scope : Scope} {pos py spos : Pos} {wi : TI} {g : TG} {tt : TT} {te : TE} (N : List Str) (ix : List (Option Nat)) (hc : X.calm = true) (hk : compOk X.N X.env.scope scope N ix = true)
    (hN : X.N.Nodup) (hin : X.N[i]? = some y) (hy : X.env.scope.names.lookup y = some .local) (hi : PI X tg iter wi)
    (hb : ∀ cl C s H fp, PG (blk X N scope cl C s H fp) tg g ∧ PTs (blk X N scope cl C s H fp) ifs tt ∧ PE (blk X N scope cl C s H fp) elt te)
    (hsw : swapsWith (.ListComp elt [⟨tg, iter, ifs, 0⟩] scope pos) (some (.Name y py)) spos.line X.env = pure true := by rfl)
    (hs : ∀ x, foldedSetIterable iter X.env x = pure x := by intro _; rfl) : PS X (.Assign [.Name y py] (.ListComp elt [⟨tg, iter, ifs, 0⟩] scope pos) spos) (tAsg (tComp wi ix g tt te) (gName i)) := by
  unfold compOk at hk
  simp only [Bool.and_eq_true, decide_eq_true_eq] at hk
  obtain ⟨⟨⟨⟨⟨h1, h2⟩, h3⟩, h4⟩, h5⟩, h6⟩ := hk
  exact ps_comp N ix hc h1 h2 h3 h4 h5 (capB_ok h6) hN hin hy hi hb hsw hs
end
end Bw
set_option Elab.async false
set_option linter.all false
set_option maxRecDepth 100000
set_option maxHeartbeats 1000000
namespace Bw
open PySem PySem.Spec PyProof.Rows L2
/-! ### texts -/
section
variable {X : Cx}
theorem ep_str {pins : List (Addr × Obj)} {σ : L2.St} {H : Hp} {s : Shared} {Q : VK} {u : Str} {t : Tok} {k : Nat} (I : Inv X pins σ H s) (q : Q (.str u) H) : EP X pins σ Q (.str u t) { s with toks := k } := ⟨.str u, H, I.tok k, ⟨t, rfl⟩, q⟩
def rSlS : V → Option Int → Option Int → Hp → VK → Prop := fun x lo hi H Q => ∃ u, x = .str u ∧ u.length ≤ sizeLine ∧ Q (.str (Txt.slice u lo hi)) H
theorem sl_str : SlR X rSlS := by
  intro pins s σ H x v vl vu lo hi sl Q I rx hs pl pu h
  obtain ⟨u, rfl, hz, q⟩ := h
  obtain ⟨t, rfl⟩ := rx
  refine ⟨"str", _, PySem.F.slot_str_getitem.lookup, typeIs_str _ _ _, ?_⟩
  obtain ⟨os, hos, hcs, hds⟩ := hs
  cases pl with
  | none =>
    cases pu with
    | none => exact wpAny_getItem_str_slice (l := none) (u := none) (st := none) ⟨os, hos, hcs, hds⟩ rfl (post_val_or_str ⟨Nat.le_trans (Txt.slice_le u _ _) hz, fun t' k => ep_str I q⟩)
    | int j tj => exact wpAny_getItem_str_slice (l := none) (u := some (j, tj)) (st := none) ⟨os, hos, hcs, hds⟩ rfl (post_val_or_str ⟨Nat.le_trans (Txt.slice_le u _ _) hz, fun t' k => ep_str I q⟩)
  | int i ti =>
    cases pu with
    | none => exact wpAny_getItem_str_slice (l := some (i, ti)) (u := none) (st := none) ⟨os, hos, hcs, hds⟩ rfl (post_val_or_str ⟨Nat.le_trans (Txt.slice_le u _ _) hz, fun t' k => ep_str I q⟩)
    | int j tj => exact wpAny_getItem_str_slice (l := some (i, ti)) (u := some (j, tj)) (st := none) ⟨os, hos, hcs, hds⟩ rfl (post_val_or_str ⟨Nat.le_trans (Txt.slice_le u _ _) hz, fun t' k => ep_str I q⟩)
def rJoin : V → List V → Hp → VK → Prop := fun x xs H Q => ∃ u l ts, x = .str u ∧ xs = [.ref l] ∧ H l = some (.lst (ts.map V.str)) ∧ JoinOk u ts = true ∧ Q (.str (Txt.join u ts)) H
theorem vals_str : ∀ {ts : List Str} {us : List Value}, Vals (ts.map V.str) us → ∃ l : List (Str × Tok), us = strValues l ∧ l.map (·.1) = ts
  | [], _, r => by
    rw [List.map_nil] at r
    cases r
    exact ⟨[], rfl, rfl⟩
  | a :: ts, _, r => by
    rw [List.map_cons] at r
    cases r with
    | cons r1 r2 =>
      obtain ⟨t, rfl⟩ := r1
      obtain ⟨l, rfl, e⟩ := vals_str r2
      exact ⟨(a, t) :: l, rfl, by rw [List.map_cons, e]⟩
theorem mt_join : MtR X "str.join" rJoin := by
  intro pins s σ H x xs v us Q I rx rv h
  obtain ⟨u, l, ts, rfl, rfl, hl, hz, q⟩ := h
  obtain ⟨t, rfl⟩ := rx
  cases rv with
  | cons r1 r2 =>
    cases r2
    cases r1
    obtain ⟨_, its, n, r, e⟩ := I.hok l _ hl
    obtain ⟨ll, rfl, e2⟩ := vals_str r
    exact SC.join (D := l) (l := ll) ⟨_, e, rfl, n, rfl⟩ e2 hz fun t' k => ep_str I q
end
end Bw
set_option Elab.async false
set_option linter.all false
set_option maxRecDepth 100000
set_option maxHeartbeats 1000000
namespace Bw
open PySem PySem.Spec PyProof.Rows L2
/-! ### the readings of comprehensions, texts, tries -/
section
variable {K : PySem.W.Frag} {ta te : TE} {tr : TA} {wi : TI} {ix : List (Option Nat)} {g : TG} {tt : TT} {σ : L2.St} {H : Hp} {Q : VK} {QB : Bool → Hp → Prop}
def CompL (K : PySem.W.Frag) (a : Addr) (g : TG) (tt : TT) (te : TE) (Q : VK) (σ : L2.St) (H : Hp) : Prop := ∃ W : Nat → Nat → List V → L2.St → Hp → Prop, (∃ m, W 0 m [] σ H) ∧ ∀ i m acc σ H, W i m acc σ H →
  ((Itl K a).stop i H ∧ ∀ D, H D = none → Q (.ref D) (L2.upd H D (.lst acc))) ∨
  ((Itl K a).go i H ∧ acc.length < sizeLine ∧ ∃ N : List V → L2.St → Hp → Prop, (∀ acc' σ' H', N acc' σ' H' → ∃ m', m' < m ∧ W (i + 1) m' acc' σ' H') ∧
    ∀ x H', (Itl K a).yld i H x H' → g x σ H' fun σ2 H2 => tt σ2 H2 fun b H3 => if b = true then te σ2 H3 fun y H4 => N (acc ++ [y]) σ2 H4 else N acc σ2 H3)
def CompR (lo : Int) (n : Nat) (g : TG) (tt : TT) (te : TE) (Q : VK) (σ : L2.St) (H : Hp) : Prop := ∃ W : Nat → Nat → List V → L2.St → Hp → Prop, (∃ m, W 0 m [] σ H) ∧ ∀ i m acc σ H, W i m acc σ H →
  ((Itr lo n).stop i H ∧ ∀ D, H D = none → Q (.ref D) (L2.upd H D (.lst acc))) ∨
  ((Itr lo n).go i H ∧ acc.length < sizeLine ∧ ∃ N : List V → L2.St → Hp → Prop, (∀ acc' σ' H', N acc' σ' H' → ∃ m', m' < m ∧ W (i + 1) m' acc' σ' H') ∧
    ∀ x H', (Itr lo n).yld i H x H' → g x σ H' fun σ2 H2 => tt σ2 H2 fun b H3 => if b = true then te σ2 H3 fun y H4 => N (acc ++ [y]) σ2 H4 else N acc σ2 H3)
theorem w_compL : tComp (iList K ta) ix g tt te σ H Q = ta σ H (fun x H1 => ∃ a, x = .ref a ∧ (∃ xs, SqL K H1 a xs) ∧ CompL K a g tt te Q (pick ix σ) H1) := rfl
theorem w_comp1 : tComp (iRng1 tr) ix g tt te σ H Q = tr σ H (fun vs H1 => ∃ j : Int, vs = [.int j] ∧ -(2 ^ 62) ≤ j ∧ j < 2 ^ 62 ∧ CompR 0 j.toNat g tt te Q (pick ix σ) H1) := rfl
theorem w_comp2 : tComp (iRng2 tr) ix g tt te σ H Q = tr σ H (fun vs H1 => ∃ i j : Int, vs = [.int i, .int j] ∧ (-(2 ^ 62) ≤ i ∧ i < 2 ^ 62 ∧ -(2 ^ 62) ≤ j ∧ j < 2 ^ 62) ∧ CompR i (j - i).toNat g tt te Q (pick ix σ) H1) := rfl
theorem w_yes : tYes σ H QB = QB true H := rfl
theorem w_pick0 : pick [] σ = [] := rfl
theorem w_pickN : pick (none :: ix) σ = none :: pick ix σ := rfl
theorem w_pickS {j : Nat} : pick (some j :: ix) σ = ((σ[j]?).getD none) :: pick ix σ := rfl
theorem w_bm {T : String} {r : V → List V → Hp → VK → Prop} : tBM K T r ta tr σ H Q = ta σ H (fun x H1 => tyV K T x H1 ∧ tr σ H1 (fun xs H2 => r x xs H2 Q)) := rfl
theorem w_bm0 {T : String} {r : V → List V → Hp → VK → Prop} : tBM0 K T r ta σ H Q = ta σ H (fun x H1 => tyV K T x H1 ∧ r x [] H1 Q) := rfl
theorem w_tyS {u : Str} : tyV K "str" (.str u) H = True := by simp [tyV]
theorem w_addS {u v : Str} : (∃ i j, V.str u = .str i ∧ V.str v = .str j ∧ i.length + j.length ≤ sizeLine ∧ Q (.str (i ++ j)) H) = (u.length + v.length ≤ sizeLine ∧ Q (.str (u ++ v)) H) := by simp
theorem w_slS {u : Str} {lo hi : Option Int} : rSlS (.str u) lo hi H Q = (u.length ≤ sizeLine ∧ Q (.str (Txt.slice u lo hi)) H) := by simp [rSlS]
theorem w_blkK {X : Cx} {N : List Str} {scope : Scope} {cl : List (Str × Addr)} {C : Addr} {s : Shared} {fp : List Addr} : (blk X N scope cl C s H fp).K = X.K := rfl
theorem CompL.by {a : Addr} {xs : List V} (Pv : Nat → List V → L2.St → Hp → Prop) (hz : xs.length ≤ sizeLine) (h0 : Pv 0 [] σ H) (hl : ∀ i acc σ H, i ≤ xs.length → Pv i acc σ H → SqL K H a xs)
    (hs : ∀ i x acc σ H, xs[i]? = some x → Pv i acc σ H → g x σ H fun σ2 H2 => tt σ2 H2 fun b H3 => if b = true then te σ2 H3 fun y H4 => Pv (i + 1) (acc ++ [y]) σ2 H4 else Pv (i + 1) acc σ2 H3)
    (hacc : ∀ i acc σ H, Pv i acc σ H → acc.length ≤ i) (hd : ∀ acc σ H, Pv xs.length acc σ H → ∀ D, H D = none → Q (.ref D) (L2.upd H D (.lst acc))) : CompL K a g tt te Q σ H := comp_list Pv hz h0 hl hs hacc hd
theorem CompR.by {lo : Int} {n : Nat} (Pv : Nat → List V → L2.St → Hp → Prop) (hz : n ≤ sizeLine) (h0 : Pv 0 [] σ H)
    (hs : ∀ i acc σ H, i < n → Pv i acc σ H → g (.int (lo + i)) σ H fun σ2 H2 => tt σ2 H2 fun b H3 => if b = true then te σ2 H3 fun y H4 => Pv (i + 1) (acc ++ [y]) σ2 H4 else Pv (i + 1) acc σ2 H3)
    (hacc : ∀ i acc σ H, Pv i acc σ H → acc.length ≤ i) (hd : ∀ acc σ H, Pv n acc σ H → ∀ D, H D = none → Q (.ref D) (L2.upd H D (.lst acc))) : CompR lo n g tt te Q σ H := comp_range Pv hz h0 hs hacc hd
theorem ixs {u : Str} {k : Int} {c : Nat} (hz : u.length ≤ sizeLine) (hv : atI u.cps.toList k = some c) (q : Q (.str ⟨#[c]⟩) H) : rIxS (.str u) (.int k) H Q := ⟨u, k, c, rfl, rfl, hz, hv, q⟩
end
theorem gl_of {X : Cx} {x : Str} (h : X.env.kindOf x = some .globalImplicit) : Gl X x := h
/-! ### a display of texts, read at once -/
def tStrs (xs : List Str) : TA := fun _ H Q => Q (xs.map V.str) H
theorem w_strs {xs : List Str} {σ : L2.St} {H : Hp} {Q : List V → Hp → Prop} : tStrs xs σ H Q = Q (xs.map V.str) H := rfl
/-! ### the draws of the later laws: a list of three whole numbers -/
def Well3 (H : Hp) (w : Addr) : Prop := ∃ a b c : Int, H w = some (.lst [.int a, .int b, .int c])
theorem Well3.same {H H' : Hp} {w : Addr} (W : Well3 H w) (s : Same H H') : Well3 H' w := by
  obtain ⟨a, b, c, h⟩ := W
  exact ⟨a, b, c, s _ _ h⟩
theorem Well3.ne {H : Hp} {w p : Addr} (W : Well3 H w) (h : H p = none) : p ≠ w := by
  obtain ⟨a, b, c, e⟩ := W
  exact (ne_of_none e h).symm
/-! ### names -/
def goodN (u : Str) : Prop := 1 ≤ u.length ∧ u.length ≤ 8 ∧ ∀ c ∈ u.cps.toList, 97 ≤ c ∧ c ≤ 122
instance (u : Str) : Decidable (goodN u) := by unfold goodN; infer_instance
def letters : Str := "abcdefghijklmnopqrstuvwxyz"
theorem letter_at {i : Int} (h0 : 0 ≤ i) (h1 : i < 26) : ∃ c, atI letters.cps.toList i = some c ∧ 97 ≤ c ∧ c ≤ 122 := by
  have h : ∀ k : Fin 26, ∃ c, c < 123 ∧ atI letters.cps.toList ((k.val : Nat) : Int) = some c ∧ 97 ≤ c ∧ c ≤ 122 := by
    intro k
    refine ⟨97 + k.val, ?_⟩
    revert k
    decide +kernel
  obtain ⟨c, _, e, q⟩ := h ⟨i.toNat, by omega⟩
  have e2 : ((i.toNat : Nat) : Int) = i := by omega
  rw [e2] at e
  exact ⟨c, e, q⟩
def w8 : Str := "bcdefghi"
def axz : Str := "axz"
theorem way_len {r : Int} (h0 : 0 ≤ r) (h1 : r < 8) : (Txt.slice w8 none (some (1 + r))).length = (r + 1).toNat := by
  have h : ∀ k : Fin 8, (Txt.slice w8 none (some (1 + ((k.val : Nat) : Int)))).length = k.val + 1 := by decide +kernel
  have q := h ⟨r.toNat, by omega⟩
  have e2 : ((r.toNat : Nat) : Int) = r := by omega
  rw [e2] at q
  rw [q]
  show r.toNat + 1 = (r + 1).toNat
  omega
theorem way_good {r a k : Int} (h0 : 0 ≤ r) (h1 : r < 8) (a0 : 0 ≤ a) (a1 : a < r + 1) (k0 : 0 ≤ k) (k1 : k < 3) : ∃ c, atI axz.cps.toList k = some c ∧
    goodN (Txt.slice (Txt.slice w8 none (some (1 + r))) none (some a) ++ ⟨#[c]⟩ ++ Txt.slice (Txt.slice w8 none (some (1 + r))) (some (a + 1)) none) := by
  have h : ∀ (r a : Fin 8) (k : Fin 3), a.val < r.val + 1 → ∃ c ∈ [97, 120, 122], atI axz.cps.toList ((k.val : Nat) : Int) = some c ∧
    goodN (Txt.slice (Txt.slice w8 none (some (1 + ((r.val : Nat) : Int)))) none (some ((a.val : Nat) : Int)) ++ ⟨#[c]⟩ ++ Txt.slice (Txt.slice w8 none (some (1 + ((r.val : Nat) : Int)))) (some (((a.val : Nat) : Int) + 1)) none) := by decide +kernel
  obtain ⟨c, _, q⟩ := h ⟨r.toNat, by omega⟩ ⟨a.toNat, by omega⟩ ⟨k.toNat, by omega⟩ (by show a.toNat < r.toNat + 1; omega)
  have e1 : ((r.toNat : Nat) : Int) = r := by omega
  have e2 : ((a.toNat : Nat) : Int) = a := by omega
  have e3 : ((k.toNat : Nat) : Int) = k := by omega
  rw [e1, e2, e3] at q
  exact ⟨c, q⟩
theorem slice_le8 (u : Str) (h : u.length ≤ 8) (l r : Option Int) : (Txt.slice u l r).length ≤ 8 := Nat.le_trans (Txt.slice_le u l r) h
theorem join_one : ∀ ts : List Str, (∀ t ∈ ts, ∃ c, t = ⟨#[c]⟩ ∧ 97 ≤ c ∧ c ≤ 122) → (Str.join Str.empty ts).length = ts.length ∧ ∀ c ∈ (Str.join Str.empty ts).cps.toList, 97 ≤ c ∧ c ≤ 122
  | [], _ => ⟨rfl, fun c hc => by cases hc⟩
  | [x], h => by
    obtain ⟨c, rfl, q⟩ := h x List.mem_cons_self
    refine ⟨rfl, fun c' hc => ?_⟩
    have e : c' = c := by simpa [Str.join] using hc
    subst e
    exact q
  | x :: y :: r, h => by
    obtain ⟨i1, i2⟩ := join_one (y :: r) fun t ht => h t (List.mem_cons_of_mem _ ht)
    obtain ⟨c, rfl, q⟩ := h x List.mem_cons_self
    show ((⟨#[c]⟩ : Str) ++ Str.empty ++ Str.join Str.empty (y :: r)).length = _ ∧ ∀ c' ∈ ((⟨#[c]⟩ : Str) ++ Str.empty ++ Str.join Str.empty (y :: r)).cps.toList, _
    refine ⟨?_, fun c' hc => ?_⟩
    · rw [Str.length_append, Str.length_append, i1]
      show 1 + 0 + (y :: r).length = (y :: r).length + 1
      omega
    · have hc' : c' ∈ ((#[c] ++ #[]) ++ (Str.join Str.empty (y :: r)).cps).toList := hc
      rw [Array.toList_append] at hc'
      rcases List.mem_append.mp hc' with z | z
      · have e : c' = c := by simpa using z
        subst e
        exact q
      · exact i2 c' z
theorem join_good {ts : List Str} (h : ∀ t ∈ ts, ∃ c, t = ⟨#[c]⟩ ∧ 97 ≤ c ∧ c ≤ 122) (h1 : 1 ≤ ts.length) (h8 : ts.length ≤ 8) : JoinOk Str.empty ts = true ∧ goodN (Txt.join Str.empty ts) := by
  obtain ⟨i1, i2⟩ := join_one ts h
  have hj : Txt.join Str.empty ts = Str.join Str.empty ts := StrLaws.glued_eq_join _ _
  refine ⟨?_, ?_⟩
  · unfold JoinOk Builtin.Str.tooLong
    rw [StrLaws.joinTotal]
    have hs : ∀ l : List Str, (∀ t ∈ l, ∃ c, t = ⟨#[c]⟩ ∧ 97 ≤ c ∧ c ≤ 122) → (l.map (·.length)).sum = l.length := by
      intro l
      induction l with
      | nil => intro _; rfl
      | cons x r ih =>
        intro hl
        obtain ⟨c, rfl, _⟩ := hl x List.mem_cons_self
        rw [List.map_cons, List.sum_cons, ih fun t ht => hl t (List.mem_cons_of_mem _ ht), List.length_cons]
        show 1 + r.length = r.length + 1
        omega
    rw [hs ts h]
    have e : Str.empty.length = 0 := rfl
    rw [e]
    have z : (1000 : Nat) < sizeLine := by decide
    rw [Bool.not_eq_true', decide_eq_false_iff_not]
    omega
  · rw [hj]
    exact ⟨by omega, by omega, i2⟩
end Bw
set_option Elab.async false
set_option linter.all false
set_option maxRecDepth 100000
set_option maxHeartbeats 1000000
namespace Bw
open PySem PySem.Spec PyProof.Rows L2
/-! ### own classes: made, asked, of one kind or several -/
/-- a class with an __init__ -/
structure CalC (P : Program) (w : World) (K : PySem.W.Frag) (mg : Str → Option Value) (base : Heap) (x : Str) (C : Addr) (ps : List Str) (k : Nat) (sp : Sp) : Prop where
  ex : ∃ f fd, FnOk P w K mg base (CXF P w) k f fd ps sp ∧ Binds K fd ps [] ∧ Mk K C f ∧ mg x = some (.ref C)
/-- a method of a class -/
structure CalM (P : Program) (w : World) (K : PySem.W.Frag) (mg : Str → Option Value) (base : Heap) (C : Addr) (m : Str) (ps : List Str) (k : Nat) (sp : Sp) : Prop where
  ex : ∃ f fd, FnOk P w K mg base (CXF P w) k f fd ps sp ∧ Binds K fd ps [] ∧ Meth K C m f ∧ Cls K C
section
variable {X : Cx} {x m : Str} {C : Addr} {ps : List Str} {k : Nat} {sp : Sp} {e o : Expr} {es : List Expr} {ta : TE} {t : TA} {p pos apos : Pos} {E : XK}
theorem pe_mak (c : CalC X.prog X.w X.K X.mg X.base x C ps k sp) (hx : Passes (CXF X.prog X.w) X E) (hr : Room (k + 1) X.A) (hg : Gl X x) (ha : PA X (e :: es) t)
    (hdb : (x == ("__debug__" : Str)) = false := by decide) (he : starEach (e :: es) X.env = (false, eval e X.env) :: starEach es X.env := by rfl) (hpl : (backTo pos (starEach es X.env)).any (·.1) = false := by rfl) :
    PE X (.Call (.Name x p) (e :: es) [] pos) (tMake C sp [] E t) := by
  obtain ⟨f, fd, F, b, M, hm⟩ := c.ex
  exact pe_make M F hr hg hm b .nil hx ha hdb he hpl
/-- one of several methods of this name, as the thing's class has it -/
def tMethD (Mm : Addr → Sp → Prop) (m : Str) (E : XK) (ta : TE) (t : TA) : TE := fun σ H Q => ta σ H fun x H1 => ∃ a C dx fs sp, x = .ref a ∧ H1 a = some (.ins C dx fs) ∧ fs.lookup m = none ∧ Mm C sp ∧
  t σ H1 fun vs H2 => sp (x :: vs) H2 Q E
theorem w_methD {Mm : Addr → Sp → Prop} {σ : L2.St} {H : Hp} {Q : VK} : tMethD Mm m E ta t σ H Q = ta σ H (fun x H1 => ∃ a C dx fs sp, x = .ref a ∧ H1 a = some (.ins C dx fs) ∧ fs.lookup m = none ∧ Mm C sp ∧
  t σ H1 fun vs H2 => sp (x :: vs) H2 Q E) := rfl
/-! ### a class without an __init__ -/
structure MkN (K : PySem.W.Frag) (C : Addr) : Prop where
  makes : PySem.W.makesIn K C = true
  init : PySem.W.findIn K (.ref C) "__init__" = some (some (.builtin "object.__init__"))
  kp : PySem.W.keepIn K (.ref C) = true
def tMakeN (C : Addr) : TE := fun _ H Q => ∀ x dx, H x = none → H dx = none → dx ≠ x → Q (.ref x) (L2.upd (L2.upd H dx (.own x)) x (.ins C dx []))
theorem w_makeN {σ : L2.St} {H : Hp} {Q : VK} : tMakeN C σ H Q = ∀ x dx, H x = none → H dx = none → dx ≠ x → Q (.ref x) (L2.upd (L2.upd H dx (.own x)) x (.ins C dx [])) := rfl
theorem pe_makN (M : MkN X.K C) (hg : Gl X x) (hm : X.mg x = some (.ref C)) (hdb : (x == ("__debug__" : Str)) = false := by decide) : PE X (.Call (.Name x p) [] [] pos) (tMakeN C) := by
  intro pins s σ H Q I h
  refine wpAny_Call_Name_kw (ld_glob I hg hm ?_ hdb)
  refine PySem.W.callWith_K0 I.kIn M.kp ?_
  have hq := h (s.heap.objs.size + 1) s.heap.objs.size (I.hok.fresh (Nat.le_succ _)) (I.hok.fresh (Nat.le_refl _)) (Nat.ne_of_lt (Nat.lt_succ_self _))
  have I2 := Inv.made (C := C) I
  have Y := PySem.W.makes_of (M := model X.prog X.w) I.kIn M.makes
  refine wpAny_call (make_map0 I.kIn M.makes M.init (fun self => PySem.W.Looks.of_pure (PySem.W.oi_bind self)) ?_)
  obtain ⟨hh, g, d, tt, os⟩ := s
  have t1 : PySem.W.Looks (model X.prog X.w) ((hh.push PySem.W.emptyDict).push (PySem.W.instObj C hh.objs.size)) (typeOf (.ref (hh.objs.size + 1))) (.ref C) := by
    obtain ⟨mA, O, _⟩ := ins_get (a := hh.objs.size + 1) (C := C) (dx := hh.objs.size) (fs := []) I2.hok upd_same
    obtain ⟨od, J, _⟩ := O.look
    exact J.type
  have t2 : PySem.W.Looks (model X.prog X.w) ((hh.push PySem.W.emptyDict).push (PySem.W.instObj C hh.objs.size)) (isInstance (.ref (hh.objs.size + 1)) (.type "object")) true :=
    t1.andThen (Y.top.keeps fun b o e => Heap.get?_push_of_some _ (Heap.get?_push_of_some _ e))
  refine codeAny_call_builtin PySem.W.oi_plain PySem.W.entry_oi (@PySem.W.check_slot (model X.prog X.w) _ _ _ "object.__init__" "object" "__init__" (.ref (hh.objs.size + 1)) [] [] _ PySem.W.oi_kind PySem.W.oi_split t2 (PySem.W.oi_args (.ref (hh.objs.size + 1))) ?_)
  rw [PySem.W.oi_run]
  exact wpAny_pure (And.intro rfl ⟨V.ref (hh.objs.size + 1), _, I2, rfl, hq⟩)
end
/-! ### isinstance of anything, by one class -/
def rIsiV (K : PySem.W.Frag) : List V → Hp → VK → Prop := fun xs H Q => ∃ (x : V) (c : Addr) (t : Value) (b : Bool), xs = [x, .ref c] ∧ TyOf K H x t ∧ PySem.W.kitOne K t (.ref c) = some b ∧ Q (.bl b) H
theorem call_isiV {X : Cx} : CallR X (.builtin "isinstance") (rIsiV X.K) := by
  intro pins s σ H xs us Q I r h
  obtain ⟨x, c, t, b, rfl, ty, e, q⟩ := h
  obtain ⟨u, w', rfl, rx, rc⟩ := vals2 r
  cases (show w' = Value.ref c from rc)
  exact isinst_ok I rx ty e fun tk => ⟨.bl b, H, I.tok _, rfl, q⟩
/-! ### == and != of two lists, or two tuples, of plain things -/
section
variable {X : Cx}
end
/-! ### readings -/
section
variable {K : PySem.W.Frag} {C : Addr} {sp : Sp} {dvs : List V} {E : XK} {ta tv : TE} {t : TA} {f : Str} {σ : L2.St} {H : Hp} {Q : VK} {D : Ends} {n : Nat} {ts : TGs} {v : V} {QS : L2.St → Hp → Prop} {g : TG}
theorem w_make : tMake C sp dvs E t σ H Q = t σ H (fun vs H1 => ∀ x dx, H1 x = none → H1 dx = none → dx ≠ x →
  sp (.ref x :: (vs ++ dvs)) (L2.upd (L2.upd H1 dx (.own x)) x (.ins C dx [])) (fun v H2 => v = .non ∧ Q (.ref x) H2) E) := rfl
theorem w_fld : tFld K ta f σ H Q = ta σ H (fun x H1 => ∃ a C dx fs v, x = .ref a ∧ H1 a = some (.ins C dx fs) ∧ Cls K C ∧ NoAttr K C f ∧ fs.lookup f = some v ∧ Q v H1) := rfl
theorem w_gTup : gTup K n ts v σ H QS = ∃ a xs, v = .ref a ∧ SqT K H a xs ∧ xs.length = n ∧ ts xs σ H QS := rfl
theorem w_gCons {vs : List V} : gCons g ts vs σ H QS = ∃ v r, vs = v :: r ∧ g v σ H (fun σ' H' => ts r σ' H' QS) := rfl
theorem w_sFld : sFld K ta tv f D σ H = tv σ H (fun y H1 => ta σ H1 (fun x H2 => ∃ a C dx fs, x = .ref a ∧ H2 a = some (.ins C dx fs) ∧ Cls K C ∧ NoAttr K C f ∧ fs.length < 1000 ∧
  D.nx σ (L2.upd H2 a (.ins C dx (putF f y fs))))) := rfl
theorem w_gNil {vs : List V} : gNil vs σ H QS = (vs = [] ∧ QS σ H) := rfl
end
end Bw
namespace Bw
open PySem PySem.Spec PyProof.Rows L2
section
variable {X : Cx} {x : Str} {ps : List Str} {k : Nat} {sp : Sp} {p pos : Pos}
end
theorem made_same {H : Hp} {x dx : Addr} {o o' : HO} (hx : H x = none) (hd : H dx = none) : Same H (L2.upd (L2.upd H dx o) x o') := fun b u q => by
  rw [upd_ne (ne_of_none q hx), upd_ne (ne_of_none q hd)]
  exact q
/-- what isinstance needs of a class -/
structure ClsK (K : PySem.W.Frag) (C : Addr) : Prop where
  cl : Cls K C
  ha : PySem.W.findIn K (.ref C) "__class__" = some (some (.builtin "object.__class__"))
  hn : PySem.W.specialIn K (.builtin "object.__class__") "__get__" = some (some (.builtin "getset_descriptor.__get__"))
  ht : PySem.W.takesIn K (.builtin "object.__class__") = some true
  hm : PySem.W.mroIn K C (.type "object") = some true
theorem ClsK.ty {K : PySem.W.Frag} {C : Addr} (c : ClsK K C) {H : Hp} {a dx : Addr} {fs : List (Str × V)} (e : H a = some (.ins C dx fs)) : TyOf K H (.ref a) (.ref C) := .ins e c.cl c.ha c.hn c.ht c.hm
theorem isiE_at {X : Cx} {K : PySem.W.Frag} {C : Addr} (hK : X.K = K) (F : ExcK K C) : CallR X (.builtin "isinstance") (rIsiE K C) := by
  subst hK
  exact call_isiE F
theorem isiT_at {X : Cx} {K : PySem.W.Frag} {C : Addr} (hK : X.K = K) (F : ExcK K C) : CallR X (.builtin "isinstance") (rIsiT K C) := by
  subst hK
  exact call_isiT F
theorem isiV_at {X : Cx} {K : PySem.W.Frag} (hK : X.K = K) : CallR X (.builtin "isinstance") (rIsiV K) := by
  subst hK
  exact call_isiV
end Bw
set_option Elab.async false
set_option linter.all false
set_option maxRecDepth 100000
set_option maxHeartbeats 1000000
namespace Bw
open PySem PySem.Spec PyProof.Rows L2
/-! ### arguments and displays, quickly: no star is told by the node alone -/
def isStar : Expr → Bool
  | .Starred _ _ => true
  | _ => false
theorem star_plain : ∀ (e : Expr) (es : List Expr) (env : Env), isStar e = false → starEach (e :: es) env = (false, eval e env) :: starEach es env := by
  intro e es env h
  cases e <;> first | rfl | (cases h)
def noStar : List Expr → Bool
  | [] => true
  | e :: r => !isStar e && noStar r
theorem plain_any {pos : Pos} {env : Env} : ∀ {es : List Expr}, noStar es = true → (backTo pos (starEach es env)).any (·.1) = false
  | [], _ => rfl
  | e :: r, h => by
    have h' : (!isStar e) = true ∧ noStar r = true := by simpa [noStar] using h
    rw [star_plain e r env (by simpa using h'.1)]
    have ih := plain_any (pos := pos) (env := env) h'.2
    have e1 : backTo pos ((false, eval e env) :: starEach r env) = (false, eval e env) :: backTo pos (starEach r env) := rfl
    rw [e1, List.any_cons, ih]
    rfl
theorem pa_c {X : Cx} {e : Expr} {es : List Expr} {te : TE} {t : TA} (ha : PE X e te) (hr : PA X es t) (hs : isStar e = false := by rfl) : PA X (e :: es) (tCons te t) := pa_cons ha hr (star_plain e es X.env hs)
/-- the same, as a thing of its own: the elaborator does not open it -/
structure QA (X : Cx) (es : List Expr) (t : TA) : Prop where
  h : PA X es t
theorem qa_nil {X : Cx} : QA X [] tNil := ⟨pa_nil⟩
theorem qa_c {X : Cx} {e : Expr} {es : List Expr} {te : TE} {t : TA} (ha : PE X e te) (hr : QA X es t) (hs : isStar e = false := by rfl) : QA X (e :: es) (tCons te t) := ⟨pa_c ha hr.h hs⟩
theorem pa_of {X : Cx} {es : List Expr} {t : TA} (h : QA X es t) : PA X es t := h.h
end Bw
set_option Elab.async false
set_option linter.all false
set_option maxRecDepth 100000
set_option maxHeartbeats 1000000
namespace Bw
open PySem PySem.Spec PyProof.Rows L2
def wholeV : V → Bool
  | .int _ => true
  | _ => false
def fromV (x : V) (lo : Int) : Bool := match x with
  | .int i => decide (lo ≤ i)
  | _ => false
theorem okV.same {H H' : Hp} {x : V} (h : okV H x) (s : Same H H') : okV H' x := by
  cases x with
  | ref a =>
    rcases h with ⟨xs, e⟩ | ⟨xs, e⟩
    · exact .inl ⟨xs, s _ _ e⟩
    · exact .inr ⟨xs, s _ _ e⟩
  | non => trivial
  | bl _ => trivial
  | int _ => trivial
  | str _ => trivial
  | _ => exact h.elim
theorem okV.but3 {H H' : Hp} {x : V} {w : Addr} (h : okV H x) (W : Well3 H' w) (s : But w H H') : okV H' x := by
  cases x with
  | ref a =>
    by_cases ha : a = w
    · obtain ⟨b, c, d, q⟩ := W
      exact .inl ⟨_, by rw [ha]; exact q⟩
    · rcases h with ⟨xs, e⟩ | ⟨xs, e⟩
      · exact .inl ⟨xs, s _ _ ha e⟩
      · exact .inr ⟨xs, s _ _ ha e⟩
  | non => trivial
  | bl _ => trivial
  | int _ => trivial
  | str _ => trivial
  | _ => exact h.elim
theorem okV.lst {H : Hp} {p : Addr} {xs : List V} (h : H p = some (.lst xs)) : okV H (.ref p) := .inl ⟨_, h⟩
theorem okV.tup {H : Hp} {p : Addr} {xs : List V} (h : H p = some (.tup xs)) : okV H (.ref p) := .inr ⟨_, h⟩
/-- a statement, then the rest, with a word between the two -/
def tCut (t u : TS) : TS := fun D σ H => ∃ M : L2.St → Hp → Prop, t { D with nx := M } σ H ∧ ∀ σ' H', M σ' H' → u D σ' H'
theorem w_cut {t u : TS} {D : Ends} {σ : L2.St} {H : Hp} : tCut t u D σ H = ∃ M : L2.St → Hp → Prop, t { D with nx := M } σ H ∧ ∀ σ' H', M σ' H' → u D σ' H' := rfl
end Bw
set_option Elab.async false
set_option linter.all false
set_option maxRecDepth 100000
set_option maxHeartbeats 1000000
namespace Bw
open PySem PySem.Spec PyProof.Rows L2
/-! ### the signs of a plain text, one after the other -/
def plainS (u : Str) : Bool := u.cps.all (· < 128)
def Its (u : Str) : It := ⟨fun i _ => i < u.cps.size, fun i H x H' => H' = H ∧ ∃ c, u.cps[i]? = some c ∧ x = .str ⟨#[c]⟩, fun i _ => u.cps.size ≤ i⟩
theorem turn_str {P : Program} {w : World} {K : PySem.W.Frag} {tg : Expr} (u : Str) (t : Tok) (it : Addr) : Turn P w K tg (Its u) [it] it (fun i h => h.IsStrIter it "str_ascii_iterator" u t i) where
  mem := by simp
  obj := fun i h st b hb => by
    have e : b = it := by simpa using hb
    subst e
    obtain ⟨o, e, c, d⟩ := st
    exact ⟨o, e, fun v z => by rw [d] at z; cases z⟩
  keep := fun i h h' st k => by
    obtain ⟨o, e, c, d⟩ := st
    exact ⟨o, k it (by simp) o e, c, d⟩
  item := by
    intro X hP hw hK hc i pins s σ H E I hf st hg
    subst hP hw hK
    have hx : u.cps[i]? = some u.cps[i] := Array.getElem?_eq_getElem hg
    obtain ⟨f0, f1, f2, f3, f4, f5⟩ := hf it (by simp)
    refine wpAny_pyNext_ascii_item st hx fun h' st' sb => ?_
    have I1 : Inv X pins σ H { s with heap := h', toks := s.toks + 1 } := I.turned (t' := s.toks + 1) (fun b o hb e => (sb.2 b hb).trans e) f0 f1 f3 f4 f5
    obtain ⟨o, e, c, d⟩ := id st'
    exact ⟨_, rfl, go_of (s := { s with heap := h', toks := s.toks + 1 }) e c d (by decide) ⟨.str ⟨#[u.cps[i]]⟩, H, I1, ⟨_, rfl⟩, ⟨rfl, _, hx, rfl⟩, st', fun b hb => (hf b hb).1⟩⟩
  done := by
    intro X hP hw hK hc i pins s σ H E I hf st hg
    subst hP hw hK
    obtain ⟨f0, f1, f2, f3, f4, f5⟩ := hf it (by simp)
    exact wpAny_pyNext_ascii_end (I.ok.hd hc) st (Array.getElem?_eq_none hg) fun h' eb => ⟨rfl, I.turned (t' := s.toks) (fun b o hb e => eb b o hb e) f0 f1 f3 f4 f5⟩
  self := fun _ _ _ _ _ st h => wpAny_pyIter_striter_ascii st h
def iStr (tl : TE) : TI := fun σ H R => tl σ H fun x H1 => ∃ u, x = .str u ∧ plainS u = true ∧ R (Its u) H1
theorem pi_str {X : Cx} {tg l : Expr} {tl : TE} (hl : PE X l tl) : PI X tg l (iStr tl) := by
  intro pins s σ H R I h
  refine thn (hl pins s σ H _ I h) fun v s1 ⟨x, H1, I1, r1, q1⟩ => ?_
  obtain ⟨u, e, hp, q⟩ := q1
  subst e
  obtain ⟨t, rfl⟩ := r1
  refine wpAny_pyIter_ascii hp ?_
  refine ⟨s1.heap.objs.size, [s1.heap.objs.size], _, _, H1, rfl, I1.kept (t' := s1.toks) fun b o e => Heap.get?_push_of_some _ e, turn_str u t _, ⟨_, Heap.get?_push_size _ rfl, rfl, rfl⟩, fun b hb => ?_, q⟩
  have e : b = s1.heap.objs.size := by simpa using hb
  subst e
  exact I1.fpOk (Nat.le_refl _) (I1.hok.fresh (Nat.le_refl _))
section
variable {K : PySem.W.Frag} {ta te : TE} {ix : List (Option Nat)} {g : TG} {tt : TT} {σ : L2.St} {H : Hp} {Q : VK}
def CompS (u : Str) (g : TG) (tt : TT) (te : TE) (Q : VK) (σ : L2.St) (H : Hp) : Prop := ∃ W : Nat → Nat → List V → L2.St → Hp → Prop, (∃ m, W 0 m [] σ H) ∧ ∀ i m acc σ H, W i m acc σ H →
  ((Its u).stop i H ∧ ∀ D, H D = none → Q (.ref D) (L2.upd H D (.lst acc))) ∨
  ((Its u).go i H ∧ acc.length < sizeLine ∧ ∃ N : List V → L2.St → Hp → Prop, (∀ acc' σ' H', N acc' σ' H' → ∃ m', m' < m ∧ W (i + 1) m' acc' σ' H') ∧
    ∀ x H', (Its u).yld i H x H' → g x σ H' fun σ2 H2 => tt σ2 H2 fun b H3 => if b = true then te σ2 H3 fun y H4 => N (acc ++ [y]) σ2 H4 else N acc σ2 H3)
theorem w_compS : tComp (iStr ta) ix g tt te σ H Q = ta σ H (fun x H1 => ∃ u, x = .str u ∧ plainS u = true ∧ CompS u g tt te Q (pick ix σ) H1) := rfl
theorem CompS.by {u : Str} (Pv : Nat → List V → L2.St → Hp → Prop) (hz : u.cps.size ≤ sizeLine) (h0 : Pv 0 [] σ H)
    (hs : ∀ i c acc σ H, u.cps[i]? = some c → Pv i acc σ H → g (.str ⟨#[c]⟩) σ H fun σ2 H2 => tt σ2 H2 fun b H3 => if b = true then te σ2 H3 fun y H4 => Pv (i + 1) (acc ++ [y]) σ2 H4 else Pv (i + 1) acc σ2 H3)
    (hacc : ∀ i acc σ H, Pv i acc σ H → acc.length ≤ i) (hd : ∀ acc σ H, Pv u.cps.size acc σ H → ∀ D, H D = none → Q (.ref D) (L2.upd H D (.lst acc))) : CompS u g tt te Q σ H := by
  refine ⟨fun i m acc σ H => m = u.cps.size - i ∧ i ≤ u.cps.size ∧ Pv i acc σ H, ⟨u.cps.size, by simp, Nat.zero_le _, h0⟩, ?_⟩
  rintro i m acc σ H ⟨rfl, hi, p⟩
  have ha := hacc i acc σ H p
  by_cases hlt : i < u.cps.size
  · refine .inr ⟨hlt, by omega, Pv (i + 1), fun acc' σ' H' p' => ⟨u.cps.size - (i + 1), by omega, rfl, hlt, p'⟩, fun x H' y => ?_⟩
    obtain ⟨e, c, hc, y⟩ := y
    subst e y
    exact hs i c acc σ _ hc p
  · have e : i = u.cps.size := by omega
    subst e
    exact .inl ⟨Nat.le_refl _, hd acc σ H p⟩
end
/-! ### all of a list of truths -/
theorem bools_at : ∀ {bs : List Bool} {its : List Value}, Vals (bs.map V.bl) its → ∀ (i : Nat) (v : Value), its[i]? = some v → ∃ b : Bool, bs[i]? = some b ∧ v = Value.bool b
  | [], _, r, i, v, h => by
    rw [List.map_nil] at r
    cases r
    simp at h
  | b :: bs, _, r, i, v, h => by
    rw [List.map_cons] at r
    cases r with
    | cons r1 r2 =>
      cases i with
      | zero =>
        simp at h
        subst h
        exact ⟨b, rfl, r1⟩
      | succ i => exact bools_at r2 i v (by simpa using h)
theorem call_all {X : Cx} (hc : X.calm = true) : CallR X (.builtin "all") (fun xs H Q => ∃ (a : Addr) (bs : List Bool), xs = [.ref a] ∧ SqL X.K H a (bs.map V.bl) ∧ Q (.bl (bs.all id)) H) := by
  intro pins s σ H xs us Q I r h
  obtain ⟨a, bs, rfl, hS, q⟩ := h
  obtain ⟨u, rfl, ru⟩ := vals1 r
  cases ru
  obtain ⟨its, rv, pl, hz⟩ := I.list hS
  have hl : s.heap.IsList a its.toArray := pl.isList
  have hlt : a < s.heap.objs.size := by obtain ⟨_, e, _⟩ := hl; exact Heap.lt_size e
  refine call_all_walk (wpAny_pyIter_list hl ?_)
  refine ⟨s.heap.objs.size, [s.heap.objs.size, a], [s.heap.objs.size], its.toArray.size, _, _, fun i => (bs[i]?).getD true, rfl, Walks.list (A := X.A.in1) (I.ok.hd hc) _ a (Nat.ne_of_lt hlt) its.toArray,
    ⟨⟨_, Heap.get?_push_size _ rfl, rfl, rfl⟩, hl.push _⟩, fun i v s' Q' E' hP hQ => ?_, fun h' tk hk => ?_⟩
  · obtain ⟨b, e, rfl⟩ := bools_at rv i v (by simpa using hP)
    simp only [e, Option.getD_some] at hQ
    exact wpAny_truthy_bool hQ
  · have hn : its.toArray.size = bs.length := by
      have := rv.length
      rw [List.length_map] at this
      simpa using this.symm
    have e : ((List.range its.toArray.size).all fun i => (bs[i]?).getD true) = bs.all id := by
      rw [hn, Bool.eq_iff_iff, List.all_eq_true, List.all_eq_true]
      constructor
      · intro z b hb
        obtain ⟨i, hi, rfl⟩ := List.getElem_of_mem hb
        have := z i (List.mem_range.mpr hi)
        simpa [List.getElem?_eq_getElem hi] using this
      · intro z i hi
        have hi' := List.mem_range.mp hi
        simp only [List.getElem?_eq_getElem hi', Option.getD_some]
        exact z _ (List.getElem_mem hi')
    rw [e]
    refine ⟨.bl _, H, I.kept (t' := tk) fun b o eb => hk b o (fun hm => by rw [List.mem_singleton.mp hm] at eb; exact Nat.lt_irrefl _ (Heap.lt_size eb)) (Heap.get?_push_of_some _ eb), rfl, q⟩
/-! ### what is a name may be asked of -/
def okN (H : Hp) : V → Prop
  | .non => True
  | .bl _ => True
  | .int _ => True
  | .str u => plainS u = true ∧ u.length ≤ 1000
  | .ref a => (∃ xs, H a = some (.lst xs)) ∨ (∃ xs, H a = some (.tup xs)) ∨ ∃ kvs, H a = some (.dK kvs)
  | _ => False
def isStrV : V → Bool
  | .str _ => true
  | _ => false
theorem okN.ty {K : PySem.W.Frag} {H : Hp} {x : V} (h : okN H x) : ∃ T, TyOf K H x (.type T) ∧ PySem.W.kitOne K (.type T) (.type "str") = some (isStrV x) := by
  cases x with
  | non => exact ⟨_, .non, by kernel_rfl⟩
  | bl b => exact ⟨_, .bl b, by kernel_rfl⟩
  | int i => exact ⟨_, .int i, by kernel_rfl⟩
  | str i => exact ⟨_, .str i, by kernel_rfl⟩
  | ref a =>
    rcases h with ⟨xs, e⟩ | ⟨xs, e⟩ | ⟨xs, e⟩
    · exact ⟨_, .lst e, by kernel_rfl⟩
    · exact ⟨_, .tup e, by kernel_rfl⟩
    · exact ⟨_, .dK e, by kernel_rfl⟩
  | _ => exact h.elim
theorem call_isi_str {X : Cx} : CallR X (.builtin "isinstance") (fun xs H Q => ∃ x, xs = [x, .ty "str"] ∧ okN H x ∧ Q (.bl (isStrV x)) H) := by
  intro pins s σ H xs us Q I r h
  obtain ⟨x, rfl, ok, q⟩ := h
  obtain ⟨T, ty, e⟩ := ok.ty (K := X.K)
  exact isi_gen I r ty e q
theorem okN.same {H H' : Hp} {x : V} (h : okN H x) (s : Same H H') : okN H' x := by
  cases x with
  | ref a =>
    rcases h with ⟨xs, e⟩ | ⟨xs, e⟩ | ⟨xs, e⟩
    · exact .inl ⟨xs, s _ _ e⟩
    · exact .inr (.inl ⟨xs, s _ _ e⟩)
    · exact .inr (.inr ⟨xs, s _ _ e⟩)
  | non => trivial
  | bl _ => trivial
  | int _ => trivial
  | str _ => exact h
  | _ => exact h.elim
theorem okN.but {H H' : Hp} {x : V} {w : Addr} (h : okN H x) (W : Well3 H' w) (s : But w H H') : okN H' x := by
  cases x with
  | ref a =>
    by_cases ha : a = w
    · obtain ⟨b, c, d, q⟩ := W
      exact .inl ⟨_, by rw [ha]; exact q⟩
    · rcases h with ⟨xs, e⟩ | ⟨xs, e⟩ | ⟨xs, e⟩
      · exact .inl ⟨xs, s _ _ ha e⟩
      · exact .inr (.inl ⟨xs, s _ _ ha e⟩)
      · exact .inr (.inr ⟨xs, s _ _ ha e⟩)
  | non => trivial
  | bl _ => trivial
  | int _ => trivial
  | str _ => exact h
  | _ => exact h.elim
def nameB : V → Bool
  | .str u => decide (goodN u)
  | _ => false
/-- one sign of a plain text, among the letters -/
theorem in_letters {c : Nat} (h : c < 128) : (!(Builtin.Str.occurrences letters ⟨#[c]⟩ 0 letters.length 1).isEmpty) = decide (97 ≤ c ∧ c ≤ 122) := by
  have q : ∀ k : Fin 128, (!(Builtin.Str.occurrences letters ⟨#[k.val]⟩ 0 letters.length 1).isEmpty) = decide (97 ≤ k.val ∧ k.val ≤ 122) := by decide +kernel
  exact q ⟨c, h⟩
/-! ### texts that are no names -/
def LetS (u : Str) : Prop := ∀ c ∈ u.cps.toList, 97 ≤ c ∧ c ≤ 122
def Sm (u : Str) : Prop := plainS u = true ∧ u.length ≤ 100
def Odd (u : Str) : Prop := (plainS u = true ∧ u.length ≤ 1000) ∧ ¬ goodN u
theorem plain_iff {u : Str} : plainS u = true ↔ ∀ c ∈ u.cps.toList, c < 128 := by
  unfold plainS
  rw [Array.all_eq_true']
  constructor
  · intro h c hc
    have := h c (by simpa using hc)
    simpa using this
  · intro h c hc
    have := h c (by simpa using hc)
    simpa using this
theorem LetS.plain {u : Str} (h : LetS u) : plainS u = true := plain_iff.mpr fun c hc => by have := h c hc; omega
theorem good_let {u : Str} (h : goodN u) : LetS u := h.2.2
theorem good_sm {u : Str} (h : goodN u) : Sm u := ⟨(good_let h).plain, by have := h.2.1; omega⟩
theorem app_toList (u v : Str) : (u ++ v).cps.toList = u.cps.toList ++ v.cps.toList := by
  show (u.cps ++ v.cps).toList = _
  rw [Array.toList_append]
theorem app_sm {u v : Str} (hu : Sm u) (hv : Sm v) : plainS (u ++ v) = true ∧ (u ++ v).length = u.length + v.length := by
  refine ⟨plain_iff.mpr fun c hc => ?_, Str.length_append ..⟩
  rw [app_toList] at hc
  rcases List.mem_append.mp hc with z | z
  · exact plain_iff.mp hu.1 c z
  · exact plain_iff.mp hv.1 c z
def badC (u : Str) : Prop := ∃ c ∈ u.cps.toList, ¬ (97 ≤ c ∧ c ≤ 122)
instance (u : Str) : Decidable (badC u) := by unfold badC; infer_instance
theorem badC.no {u : Str} (h : badC u) : ¬ goodN u := fun g => by
  obtain ⟨c, hc, n⟩ := h
  exact n (g.2.2 c hc)
theorem badC.l {u : Str} (h : badC u) (v : Str) : badC (u ++ v) := by
  obtain ⟨c, hc, n⟩ := h
  exact ⟨c, by rw [app_toList]; exact List.mem_append.mpr (.inl hc), n⟩
theorem badC.r {v : Str} (h : badC v) (u : Str) : badC (u ++ v) := by
  obtain ⟨c, hc, n⟩ := h
  exact ⟨c, by rw [app_toList]; exact List.mem_append.mpr (.inr hc), n⟩
theorem odd_r {u v : Str} (hu : Sm u) (hv : Sm v) (b : badC v) : Odd (u ++ v) := ⟨⟨(app_sm hu hv).1, by rw [(app_sm hu hv).2]; have := hu.2; have := hv.2; omega⟩, (b.r u).no⟩
/-- is_name tells the truth -/
theorem name_all {u : Str} (h : plainS u = true) : (u.cps.toList.map fun c => !(Builtin.Str.occurrences letters ⟨#[c]⟩ 0 letters.length 1).isEmpty).all id = decide (∀ c ∈ u.cps.toList, 97 ≤ c ∧ c ≤ 122) := by
  rw [Bool.eq_iff_iff, List.all_eq_true, decide_eq_true_eq]
  constructor
  · intro z c hc
    have q := z _ (List.mem_map.mpr ⟨c, hc, rfl⟩)
    rw [in_letters (plain_iff.mp h c hc)] at q
    simpa using q
  · intro z b hb
    obtain ⟨c, hc, rfl⟩ := List.mem_map.mp hb
    rw [in_letters (plain_iff.mp h c hc)]
    simpa using z c hc
theorem good_str {u : Str} (g : goodN u) : PyData.strOk u = true := by
  unfold PyData.strOk
  rw [Array.all_eq_true']
  intro c hc
  have := g.2.2 c (by simpa using hc)
  simp only [decide_eq_true_eq]
  omega
/-! ### try: C(..) -/
section
variable {X : Cx} {x : Str} {C : Addr} {ps : List Str} {k : Nat} {sp : Sp} {e : Expr} {es : List Expr} {t : TA} {p pos : Pos}
variable {K : PySem.W.Frag} {σ : L2.St} {H : Hp} {Q : VK} {D : Ends} {CB : Addr} {i : Nat} {tb : XK → TS} {ts : TS} {E : XK} {dvs : List V}
theorem w_tryB : tTryB K CB i tb ts D σ H = tb (fun cls _ H2 => PySem.W.exmOne K cls (.ref CB) = some true ∧
  ∀ x, H2 x = none → ts { nx := fun σ' H3 => D.nx (σ'.set i none) H3, rt := D.rt, bk := fun σ' H3 => D.bk (σ'.set i none) H3, ct := fun σ' H3 => D.ct (σ'.set i none) H3 } (σ.set i (some (.ref x))) (L2.upd H2 x (hoExc x cls))) D σ H := rfl
theorem w_bmake : tBMake C sp dvs t E σ H Q = t σ H (fun vs H1 => ∀ x dx, H1 x = none → H1 dx = none → dx ≠ x →
  sp (.ref x :: (vs ++ dvs)) (L2.upd (L2.upd H1 dx (.own x)) x (.ins C dx [])) (fun v H2 => v = .non ∧ Q (.ref x) H2) E) := rfl
def tNoKeys : TE := fun _ H0 Q0 => ∀ d, H0 d = none → Q0 (.ref d) (L2.upd H0 d (.dK []))
theorem w_noKeys : tNoKeys σ H Q = ∀ d, H d = none → Q (.ref d) (L2.upd H d (.dK [])) := rfl
theorem pe_noKeys : PE X (.Dict [] [] pos) tNoKeys := by
  intro pins s σ H Q I h
  have hf := I.hok.fresh (Nat.le_refl s.heap.objs.size)
  have ho : ObjOk X.prog X.w H (s.heap.push { cls := .type "dict", data := .dict #[] }) s.heap.objs.size (.dK []) := by
    refine ⟨Nat.zero_le _, ?_, [], .nil, Heap.DictOf.new s.heap⟩
    rw [beq_eq_false_iff_ne]
    have hlt := (I.mod.glob.keeps I.bk).lt
    exact fun z => absurd (Nat.lt_trans (show sysModules < mainGlobals by decide) hlt) (by rw [z]; exact Nat.lt_irrefl _)
  refine wpAny_Dict_empty ⟨.ref s.heap.objs.size, _, ?_, rfl, h _ hf⟩
  exact I.laid (o := .dK []) (t' := s.toks) (fun _ _ q => Heap.get?_push_of_some _ q) (Nat.le_refl _) ho
end
end Bw
set_option Elab.async false
set_option linter.all false
set_option maxRecDepth 100000
set_option maxHeartbeats 1000000
namespace Bw
open PySem PySem.Spec PyProof.Rows L2
/-! ### what is said of expressions and statements, as things of their own: the elaborator does not open them -/
structure QE (X : Cx) (e : Expr) (t : TE) : Prop where
  h : PE X e t
structure QS (X : Cx) (st : Stmt) (t : TS) : Prop where
  h : PS X st t
structure QSs (X : Cx) (sts : List Stmt) (t : TS) : Prop where
  h : PSs X sts t
section
variable {X : Cx} {e a b c : Expr} {es : List Expr} {st : Stmt} {rest sa sb : List Stmt} {te ta tb : TE} {tl : TA} {tc : TT} {t u : TS} {pos pos' : Pos} {x : Str} {i : Nat}
theorem qe_of (h : PE X e te) : QE X e te := ⟨h⟩
theorem qs_of (h : PS X st t) : QS X st t := ⟨h⟩
theorem pss_of (h : QSs X rest t) : PSs X rest t := h.h
theorem qe_lst (h : QA X es tl) : QE X (.List es pos) (tLst tl) := ⟨pe_lst h.h⟩
theorem qe_op {op : Operator} {r : R2} (ho : OpR X (binaryOp op) r) (ha : QE X a ta) (hb : QE X b tb) : QE X (.BinOp a op b pos) (tOp r ta tb) := ⟨pe_op ho ha.h hb.h⟩
theorem qe_ix {r : R2} (hr : IxR X r) (ha : QE X a ta) (hb : QE X b tb) (hs : PlainIx b) : QE X (.Subscript a b pos) (tOp r ta tb) := ⟨pe_ix hr ha.h hb.h hs⟩
theorem qs_ret (he : QE X e te) : QS X (.Return (some e) pos) (tRet te) := ⟨ps_ret he.h⟩
theorem qs_set (hN : X.N.Nodup) (hi : X.N[i]? = some x) (hx : Loc X.env.scope x) (he : QE X e te) (hs : swapsWith e (some (.Name x pos')) pos.line X.env = pure false) (hf : X.fn x = true ∨ X.env.scope.names.lookup x = some .local := by first | exact .inl rfl | exact .inr rfl | assumption) :
    QS X (.Assign [.Name x pos'] e pos) (tAsg te (gName i)) := ⟨ps_set hN hi hx he.h hs hf⟩
theorem qs_if (hc : PT X c tc) (ha : QSs X sa t) (hb : QSs X sb u) : QS X (.If c sa sb pos) (tIfS tc t u) := ⟨ps_if hc ha.h hb.h⟩
theorem qss_nil : QSs X [] tNext := ⟨pss_nil⟩
theorem qss_one (h : QS X st t) : QSs X [st] t := ⟨pss_one h.h⟩
theorem qss_cons (h1 : QS X st t) (h2 : QSs X rest u) : QSs X (st :: rest) (tSeq t u) := ⟨pss_cons h1.h h2.h⟩
theorem qss_of (h : PSs X rest t) : QSs X rest t := ⟨h⟩
end
end Bw
set_option Elab.async false
set_option linter.all false
set_option maxRecDepth 100000
set_option maxHeartbeats 1000000
namespace Bw
open PySem PySem.Spec PyProof.Rows L2
end Bw
set_option Elab.async false
set_option linter.all false
set_option maxRecDepth 100000
set_option maxHeartbeats 1000000
namespace Bw
open PySem PySem.Spec PyProof.Rows L2
/-! ### what a value is worth as plain data, lists and tuples within one another too -/
mutual
inductive RD (H : Hp) : V → PyData → Prop
  | non : RD H .non .none
  | bl (b : Bool) : RD H (.bl b) (.bool b)
  | int (i : Int) : RD H (.int i) (.int i)
  | str (x : Str) : RD H (.str x) (.str x)
  | lst {p : Addr} {xs : List V} {ds : List PyData} : H p = some (.lst xs) → RDs H xs ds → RD H (.ref p) (.list ds)
  | tup {p : Addr} {xs : List V} {ds : List PyData} : H p = some (.tup xs) → RDs H xs ds → RD H (.ref p) (.tuple ds)
inductive RDs (H : Hp) : List V → List PyData → Prop
  | nil : RDs H [] []
  | cons {v : V} {d : PyData} {vs : List V} {ds : List PyData} : RD H v d → RDs H vs ds → RDs H (v :: vs) (d :: ds)
end
section
variable {X : Cx} {pins : List (Addr × Obj)} {σ : L2.St} {H : Hp} {s : Shared}
mutual
theorem RD.reads (I : Inv X pins σ H s) : ∀ {v : V} {d : PyData}, RD H v d → ∀ {u : Value}, RelV v u → ∃ as, Reads s.heap u d as
  | _, _, .non, u, r => by cases (show u = Value.none from r); exact ⟨_, .none⟩
  | _, _, .bl b, u, r => by cases (show u = Value.bool b from r); exact ⟨_, .bool b⟩
  | _, _, .int i, u, r => by obtain ⟨t, rfl⟩ := (show ∃ t, u = Value.int i t from r); exact ⟨_, .int i t⟩
  | _, _, .str i, u, r => by obtain ⟨t, rfl⟩ := (show ∃ t, u = Value.str i t from r); exact ⟨_, .str i t⟩
  | _, _, .lst h hs, u, r => by
    cases (show u = Value.ref _ from r)
    obtain ⟨its, r1, ⟨o1, n1, p1, c1, _, d1⟩, _⟩ := I.list (SqL.of h)
    obtain ⟨as, ra⟩ := RDs.reads I hs r1
    exact ⟨_, Reads.list p1 c1 d1 (by simpa using ra)⟩
  | _, _, .tup h hs, u, r => by
    cases (show u = Value.ref _ from r)
    obtain ⟨its, r1, ⟨o1, p1, c1, n1, d1⟩, _⟩ := I.tuple (SqT.of h)
    obtain ⟨as, ra⟩ := RDs.reads I hs r1
    exact ⟨_, Reads.tuple p1 c1 d1 (by simpa using ra)⟩
theorem RDs.reads (I : Inv X pins σ H s) : ∀ {vs : List V} {ds : List PyData}, RDs H vs ds → ∀ {us : List Value}, Vals vs us → ∃ as, ReadsAll s.heap us ds as
  | _, _, .nil, _, .nil => ⟨_, .nil⟩
  | _, _, .cons h hs, _, .cons r rs => by
    obtain ⟨as, ra⟩ := RD.reads I h r
    obtain ⟨bs, rb⟩ := RDs.reads I hs rs
    exact ⟨_, .cons ra rb⟩
end
end
mutual
theorem mix_self : ∀ d : PyData, PyData.canLay0 d = true → SeqAt.noMix d d = true
  | .none, _ => by simp [SeqAt.noMix]
  | .bool _, _ => by simp [SeqAt.noMix]
  | .int _, _ => by simp [SeqAt.noMix]
  | .str _, _ => by simp [SeqAt.noMix]
  | .list xs, h => by
    simp only [SeqAt.noMix]
    exact mixs_self xs (by simpa [PyData.canLay0] using h)
  | .tuple xs, h => by
    simp only [SeqAt.noMix]
    exact mixs_self xs (by simpa [PyData.canLay0] using h)
  | .dict _, h => by simp [PyData.canLay0] at h
theorem mixs_self : ∀ ds : List PyData, PyData.canLayAll0 ds = true → SeqAt.noMixAll ds ds = true
  | [], _ => by simp [SeqAt.noMixAll]
  | d :: r, h => by
    have h' : PyData.canLay0 d = true ∧ PyData.canLayAll0 r = true := by simpa [PyData.canLayAll0] using h
    simp only [SeqAt.noMixAll, mix_self d h'.1, mixs_self r h'.2, Bool.and_self]
end
theorem eqv_self {d : PyData} (h : SeqAt.shaped d = true) : PyData.eqv d d = true := by
  have hc : PyData.canLay0 d = true := by
    have h' : (PyData.canLay0 d && decide (PyData.depth d ≤ 64)) = true := h
    rw [Bool.and_eq_true] at h'
    exact h'.1
  rw [← SeqAt.same_eq_eqv d d (mix_self d hc)]
  exact same_self d
section
variable {X : Cx}
def rEqD (b : Bool) : R2 := fun x y H Q => ∃ (d d' : PyData), RD H x d ∧ RD H y d' ∧ SeqAt.shaped d = true ∧ SeqAt.shaped d' = true ∧ Q (.bl (PyData.eqv d d' == b)) H
theorem op_eqD (hu : X.A.units + 64 < cLine) : OpR X (compareOp .Eq) (rEqD true) := by
  intro pins s σ H x y v u Q I rx ry h
  obtain ⟨d, d', h1, h2, s1, s2, q⟩ := h
  obtain ⟨as, r1⟩ := h1.reads I rx
  obtain ⟨bs, r2⟩ := h2.reads I ry
  refine eq_dataH r1 r2 s1 s2 hu ⟨.bl _, H, I, rfl, ?_⟩
  have e : (PyData.eqv d d' == true) = PyData.eqv d d' := by cases PyData.eqv d d' <;> rfl
  rw [e] at q
  exact q
theorem op_neD (hu : X.A.units + 64 < cLine) : OpR X (compareOp .NotEq) (rEqD false) := by
  intro pins s σ H x y v u Q I rx ry h
  obtain ⟨d, d', h1, h2, s1, s2, q⟩ := h
  obtain ⟨as, r1⟩ := h1.reads I rx
  obtain ⟨bs, r2⟩ := h2.reads I ry
  refine ne_dataH r1 r2 s1 s2 hu ⟨.bl _, H, I, rfl, ?_⟩
  have e : (PyData.eqv d d' == false) = !PyData.eqv d d' := by cases PyData.eqv d d' <;> rfl
  rw [e] at q
  exact q
/-- the two are worth the same -/
theorem eqd {H : Hp} {x y : V} {d : PyData} {b : Bool} {Q : VK} (h1 : RD H x d) (h2 : RD H y d) (s : SeqAt.shaped d = true) (q : Q (.bl b) H) : rEqD b x y H Q := by
  refine ⟨d, d, h1, h2, s, s, ?_⟩
  rw [eqv_self s]
  cases b <;> exact q
end
theorem fld_at {X : Cx} {K : PySem.W.Frag} {e : Expr} {f : Str} {ta : TE} {pos : Pos} (hK : X.K = K) (he : PE X e ta) (hb : attributeBase e f X.env (eval e X.env) = eval e X.env) : PE X (.Attribute e f pos) (tFld K ta f) := by
  subst hK
  exact pe_fld he hb
def tNev : TE := fun _ _ _ => False
theorem w_nev {σ : L2.St} {H : Hp} {Q : VK} : tNev σ H Q = False := rfl
theorem w_never {D : Ends} {σ : L2.St} {H : Hp} : tNever D σ H = False := rfl
/-! ### classes whose __init__ has defaults -/
structure CalD (P : Program) (w : World) (K : PySem.W.Frag) (mg : Str → Option Value) (base : Heap) (x : Str) (C : Addr) (ps : List Str) (k : Nat) (dvs : List V) (sp : Sp) : Prop where
  ex : ∃ f fd ds, FnOk P w K mg base (CXF P w) k f fd ps sp ∧ Binds K fd ps ds ∧ Vals dvs ds ∧ Mk K C f ∧ mg x = some (.ref C)
section
variable {X : Cx} {x m : Str} {C : Addr} {ps : List Str} {k : Nat} {sp : Sp} {e o : Expr} {es : List Expr} {ta : TE} {t : TA} {p pos apos : Pos} {E : XK} {dvs : List V}
end
/-- a def with whatever defaults -/
structure FunA (K : PySem.W.Frag) (x qual : Str) (st : Stmt) (f : Addr) (fd : FuncData) : Prop where
  ex : ∃ (oc : Value) (od : Option Addr) (dV kV doc pm : Value) (an : Option Addr) (cdv ct : Value) (osl : Array (Option Value)),
    fd = PySem.W.fnOf x qual (defArgs st) (defBody st) (defScope st) dV kV doc pm an cdv ct ∧ K.lookup f = some ⟨oc, od, .func fd, osl⟩ ∧ PySem.W.codeIn K cdv qual = true
section
variable {P : Program} {w : World} {K : PySem.W.Frag} {mg : Str → Option Value} {base : Heap} {N : List Str} {f : Addr}
theorem FunA.okX {x qual : Str} {st : Stmt} {fd : FuncData} {ps : List Str} {k : Nat} {sp : Sp} (F : FunA K x qual st f fd) (S : FnScope N ps (defScope st)) (len : ∀ vs H Q E, sp vs H Q E → vs.length = ps.length)
    (hbody : ∀ (cdv : Value) (A : Around) (outer : List Env) (s : Shared) (H : Hp) (vs : List V) (Q : VK) (E : XK), Room k (A.deeper (envOfC qual (defScope st) s.heap.objs.size f cdv)) → sp vs H Q E →
      ∃ t, PSs (cxX P w K mg base N qual (defScope st) f cdv A outer s H E) (defBody st) t ∧ t { nx := fun _ H' => Q .non H', rt := Q } (L2.start N vs) H) : FnOk P w K mg base (CXF P w) (k + 1) f fd ps sp := by
  obtain ⟨oc, od, dV, kV, doc, pm, an, cdv, ct, osl, rfl, lk, hcd⟩ := F.ex
  exact fn_of lk hcd S len fun A outer s H vs Q E hr hsp => hbody cdv A outer s H vs Q E hr hsp
theorem FunA.ok {x qual : Str} {st : Stmt} {fd : FuncData} {ps : List Str} {k : Nat} {sp : Sp} (F : FunA K x qual st f fd) (S : FnScope N ps (defScope st)) (len : ∀ vs H Q E, sp vs H Q E → vs.length = ps.length)
    (hbody : ∀ (cdv : Value) (A : Around) (outer : List Env) (s : Shared) (H : Hp) (vs : List V) (Q : VK) (E : XK), Room k (A.deeper (envOfC qual (defScope st) s.heap.objs.size f cdv)) → sp vs H Q E →
      ∃ t, PSs (cxOf CX0 P w K mg base N qual (defScope st) f cdv A outer s H E).nox (defBody st) t ∧ t { nx := fun _ H' => Q .non H', rt := Q } (L2.start N vs) H) : FnOk P w K mg base CX0 (k + 1) f fd ps sp := by
  obtain ⟨oc, od, dV, kV, doc, pm, an, cdv, ct, osl, rfl, lk, hcd⟩ := F.ex
  refine fn_of lk hcd S len fun A outer s H vs Q E hr hsp => ?_
  obtain ⟨t, h, q⟩ := hbody cdv A outer s H vs Q E hr hsp
  exact ⟨t, h.nox, q⟩
end
end Bw
set_option Elab.async false
set_option linter.all false
set_option maxRecDepth 100000
namespace Bw
open PySem PySem.Spec PyProof.Rows L2
/-- how many are quiet below t, from a fixed moment on -/
def below (s e t : Int) : Int := (t - s) / 1440 * ((e - s) % 1440) + (if (e - s) % 1440 < (t - s) % 1440 then (e - s) % 1440 else (t - s) % 1440)
end Bw
set_option Elab.async false
set_option linter.all false
set_option maxRecDepth 100000
set_option maxHeartbeats 1000000
namespace Bw
open PySem PySem.Spec PyProof.Rows L2
theorem rds_strs {H : Hp} : ∀ us : List Str, RDs H (us.map V.str) (us.map PyData.str)
  | [] => .nil
  | u :: r => .cons (.str u) (rds_strs r)
theorem rds_ints {H : Hp} : ∀ ns : List Int, RDs H (ns.map V.int) (ns.map PyData.int)
  | [] => .nil
  | n :: r => .cons (.int n) (rds_ints r)
theorem lay_strs : ∀ {us : List Str}, (∀ u ∈ us, PyData.strOk u = true) → PyData.canLayAll0 (us.map PyData.str) = true ∧ PyData.depthAll (us.map PyData.str) = 0
  | [], _ => ⟨by simp [PyData.canLayAll0], by simp [PyData.depthAll]⟩
  | u :: r, h => by
    obtain ⟨a, b⟩ := lay_strs (us := r) fun v hv => h v (List.mem_cons_of_mem _ hv)
    exact ⟨by simp [PyData.canLayAll0, PyData.canLay0, h u List.mem_cons_self, a], by simp [PyData.depthAll, PyData.depth, b]⟩
theorem lay_ints : ∀ ns : List Int, PyData.canLayAll0 (ns.map PyData.int) = true ∧ PyData.depthAll (ns.map PyData.int) = 0
  | [] => ⟨by simp [PyData.canLayAll0], by simp [PyData.depthAll]⟩
  | n :: r => by
    obtain ⟨a, b⟩ := lay_ints r
    exact ⟨by simp [PyData.canLayAll0, PyData.canLay0, a], by simp [PyData.depthAll, PyData.depth, b]⟩
theorem shaped_of {ds : List PyData} {n : Nat} (hn : n ≤ 60) (h : PyData.canLayAll0 ds = true ∧ PyData.depthAll ds = n) : SeqAt.shaped (.list ds) = true ∧ SeqAt.shaped (.tuple ds) = true := by
  have h1 := h.1
  have h2 := h.2
  constructor
  · show (PyData.canLay0 (.list ds) && decide (PyData.depth (.list ds) ≤ 64)) = true
    rw [Bool.and_eq_true]
    exact ⟨by simp only [PyData.canLay0]; exact h1, decide_eq_true (by simp only [PyData.depth]; omega)⟩
  · show (PyData.canLay0 (.tuple ds) && decide (PyData.depth (.tuple ds) ≤ 64)) = true
    rw [Bool.and_eq_true]
    exact ⟨by simp only [PyData.canLay0]; exact h1, decide_eq_true (by simp only [PyData.depth]; omega)⟩
end Bw
set_option Elab.async false
set_option linter.all false
set_option maxRecDepth 100000
set_option maxHeartbeats 1000000
namespace Bw
open PySem PySem.Spec PyProof.Rows L2
end Bw
set_option Elab.async false
set_option linter.all false
set_option maxRecDepth 100000
set_option maxHeartbeats 1000000
namespace Bw
open PySem PySem.Spec PyProof.Rows L2
/-! ### set(xs) of texts, and its size -/
def metS (l : List Str) : List Str := l.foldl (fun a x => if x ∈ a then a else a ++ [x]) []
theorem metS_snoc (l : List Str) (x : Str) : metS (l ++ [x]) = if x ∈ metS l then metS l else metS l ++ [x] := by
  unfold metS; rw [List.foldl_append]; rfl
theorem metS_take {l : List Str} {i : Nat} (h : i < l.length) : metS (l.take (i + 1)) = if l.getD i Str.empty ∈ metS (l.take i) then metS (l.take i) else metS (l.take i) ++ [l.getD i Str.empty] := by
  rw [← metS_snoc, List.take_succ, List.getElem?_eq_getElem h]
  simp [List.getD, List.getElem?_eq_getElem h]
theorem snoc_ind {p : List Str → Prop} (h0 : p []) (h1 : ∀ l x, p l → p (l ++ [x])) (l : List Str) : p l := by
  have q : ∀ m : List Str, p m.reverse := fun m => by
    induction m with
    | nil => exact h0
    | cons a m ih => rw [List.reverse_cons]; exact h1 _ _ ih
  have := q l.reverse
  rwa [List.reverse_reverse] at this
theorem mem_metS (x : Str) (l : List Str) : x ∈ metS l ↔ x ∈ l := by
  refine snoc_ind (p := fun l => x ∈ metS l ↔ x ∈ l) (by simp [metS]) (fun l y ih => ?_) l
  · show x ∈ metS (l ++ [y]) ↔ x ∈ l ++ [y]
    rw [metS_snoc]
    split
    · rename_i h
      rw [ih]
      constructor
      · intro z; exact List.mem_append_left _ z
      · intro z
        rcases List.mem_append.mp z with z | z
        · exact z
        · have e : x = y := by simpa using z
          subst e
          exact ih.mp h
    · simp [ih]
theorem metS_le (l : List Str) : (metS l).length ≤ l.length := by
  refine snoc_ind (p := fun l => (metS l).length ≤ l.length) (by simp [metS]) (fun l y ih => ?_) l
  · show (metS (l ++ [y])).length ≤ (l ++ [y]).length
    rw [metS_snoc]
    split <;> simp <;> omega
theorem metS_all (l : List Str) : (metS l).length = l.length ↔ l.Nodup := by
  refine snoc_ind (p := fun l => (metS l).length = l.length ↔ l.Nodup) (by simp [metS]) (fun l y ih => ?_) l
  · show (metS (l ++ [y])).length = (l ++ [y]).length ↔ (l ++ [y]).Nodup
    have h := metS_le l
    rw [metS_snoc]
    by_cases m : y ∈ metS l
    · rw [if_pos m, List.length_append, List.length_singleton]
      constructor
      · intro z; omega
      · intro z
        have := (mem_metS y l).mp m
        rw [List.nodup_append] at z
        exact absurd rfl (z.2.2 y this y (List.mem_singleton.mpr rfl))
    · rw [if_neg m, List.length_append, List.length_append, List.length_singleton]
      have n : y ∉ l := fun z => m ((mem_metS y l).mpr z)
      constructor
      · intro z
        rw [List.nodup_append]
        refine ⟨ih.mp (by omega), by simp, fun a ha b hb e => ?_⟩
        have : b = y := by simpa using hb
        subst this; subst e; exact n ha
      · intro z
        rw [List.nodup_append] at z
        have := ih.mpr z.1
        omega
abbrev memS (l : List Str) : Str → Bool := fun k => decide (k ∈ metS l)
section
variable {prog : Program} {w : World} {A : Around} {R : Result → Shared → Prop} {I : Addr} {fp wr : List Addr} {G : Array GenState → Array GenState → Prop} {P : Nat → Value → Prop} {St : Nat → Shared → Prop}
theorem setLoopS {l : List Str} (W : WalksS prog w A.in1 I fp wr G l.length P St) (S : Addr) (hS0 : S ∉ fp) (hv : ∀ i v, P i v → ∃ t, v = .str (l.getD i Str.empty) t) (hb : l.length + 1 < scanBound) : ∀ (k i : Nat) (s : Shared) (q : ∀ s', Moved (S :: wr) G s s' → s'.heap.SetOf (strKind prog w) S (memS l) (metS l).length → R (.ok (.ret .none)) s'),
      l.length - i = k → i ≤ l.length → St i s → s.heap.SetOf (strKind prog w) S (memS (l.take i)) (metS (l.take i)).length →
      codeAny (model prog w) A (.builtin "set.update.loop" ⟨[.ref S, .ref I], []⟩) R s := by
  have nw : S ∉ wr := fun h => hS0 (W.sub _ h)
  have up : ∀ b ∈ wr, b ∈ S :: wr := fun b hb => List.mem_cons_of_mem _ hb
  have move : ∀ {s s' : Shared} {T : Str → Bool} {n : Nat}, Moved wr G s s' → s.heap.SetOf (strKind prog w) S T n → s'.heap.SetOf (strKind prog w) S T n := fun hm z => by
    obtain ⟨o, es, ep, t, ho, z⟩ := z
    exact ⟨o, es, ep, t, hm.heap S _ nw ho, z⟩
  intro k
  induction k with
  | zero =>
    intro i s q hk hi hst z
    have e : i = l.length := by omega
    subst e
    rw [List.take_length] at z
    refine codeAny_builtin PyProof.Rows.F.entry_set_update_loop ?_
    rw [Around.under_plainId PyProof.Rows.F.plain_set_update_loop _]; show wpAny _ A.in1 (pyNext (.ref I) >>= _) _ _ s
    refine wpAny_bind (W.done s _ _ hst fun s' hm => ?_)
    show wpAny _ A.in1 (ret Value.none) _ _ s'; exact wpAny_pure (q s' (hm.mono up) (move hm z))
  | succ k ih =>
    intro i s q hk hi hst z
    have lt : i < l.length := by omega
    refine codeAny_builtin PyProof.Rows.F.entry_set_update_loop ?_
    rw [Around.under_plainId PyProof.Rows.F.plain_set_update_loop _]; show wpAny _ A.in1 (pyNext (.ref I) >>= _) _ _ s
    refine wpAny_bind (W.item i s _ _ lt hst fun v s' hP hst' hm => ?_)
    obtain ⟨t, rfl⟩ := hv i v hP
    have z' := move hm z
    show wpAny _ A.in1 (holding [Value.str (l.getD i Str.empty) t] (setAdd S (.str (l.getD i Str.empty) t)) >>= _) _ _ s'
    refine wpAny_bind (wpAny_holding ?_); unfold setAdd
    refine wpAny_holding (wpAny_bind ((strKind prog w).pyHash (k := l.getD i Str.empty) (strKind_is _ _ _ _) ?_))
    have room : (metS (l.take i)).length + 1 < scanBound := by
      have h1 := metS_le (l.take i)
      have h2 : (l.take i).length ≤ l.length := by rw [List.length_take]; omega
      omega
    refine wpAny_setAddHashed_of (knd := strKind prog w) (s := { s' with toks := s'.toks + 1 }) (strKind_is _ _ _ _) rfl z' room fun h' sb z2 => ?_
    have z3 : h'.SetOf (strKind prog w) S (memS (l.take (i + 1))) (metS (l.take (i + 1))).length := by
      refine SetOf_congr z2 (fun k' => ?_) ?_
      · show (decide (k' ∈ metS (l.take i)) || decide (k' = l.getD i Str.empty)) = decide (k' ∈ metS (l.take (i + 1)))
        rw [metS_take lt]
        generalize l.getD i Str.empty = y
        split
        · rename_i m
          by_cases e : k' = y
          · subst e; simp [m]
          · simp [e]
        · by_cases e : k' = y
          · subst e; simp
          · simp [e]
      · rw [metS_take lt]
        generalize l.getD i Str.empty = y
        by_cases m : y ∈ metS (l.take i)
        · rw [if_pos m, if_pos (by simpa using m)]
        · rw [if_neg m, if_neg (by simpa using m), List.length_append]; rfl
    refine wpAny_pure ⟨plainId_quiet PyProof.Rows.F.plain_set_update_loop _, ih (i + 1) _ (fun s'' hm'' z4 => ?_) (by omega) lt (W.frame _ s' _ _ hst' (Nat.le_succ _) fun b hb o e => ?_) z3⟩
    · refine q s'' (Moved.trans W.gtrans ((hm.mono up).then_heap (Nat.le_succ _) fun b o hb e => ?_) hm'') z4
      rw [sb.2 b (fun h : b = S => hb (by rw [h]; exact List.mem_cons_self))]; exact e
    · rw [sb.2 b (fun h : b = S => hS0 (by rw [← h]; exact hb))]; exact e
end
abbrev freshSet (led : Bool) : Obj := { cls := .type "set", dict := none, data := .set #[] 0 (.fresh 0 0 led) }
theorem hasS {its : List Value} {l : List Str} (h : Vals (l.map V.str) its) (i : Nat) (v : Value) (e : its[i]? = some v) : ∃ t, v = .str (l.getD i Str.empty) t := by
  induction l generalizing its i with
  | nil => cases h; simp at e
  | cons x l ih =>
    cases h with
    | cons r1 r2 =>
      cases i with
      | zero =>
        obtain ⟨t, rfl⟩ := r1
        have : v = .str x t := by simpa using e.symm
        exact ⟨t, by rw [this]; rfl⟩
      | succ i => exact ih r2 i (by simpa using e)
section
variable {prog : Program} {w : World} {A : Around} {E : Value → Shared → Prop} {s : Shared}
set_option maxHeartbeats 4000000 in
theorem callSetS {a : Addr} {its : List Value} {l : List Str} {Q : Value → Shared → Prop} (hh : A.handled = none) (hl : s.heap.IsList a its.toArray) (hv : Vals (l.map V.str) its) (hb : l.length + 1 < scanBound)
    (q : ∀ (h' : Heap) (tk : Nat), h'.SetOf (strKind prog w) s.heap.objs.size (memS l) (metS l).length → (∀ b o, s.heap.get? b = some o → h'.get? b = some o) → Q (.ref s.heap.objs.size) { s with heap := h', toks := tk }) :
    wpAny (model prog w) A (call (.type "set") [.ref a]) Q E s := by
  have hn : its.toArray.size = l.length := by have := hv.length; rw [List.length_map] at this; simpa using this.symm
  obtain ⟨c, tl, hmro⟩ := PySem.F.called_set.mro
  have hmade := PySem.F.called_set.made; have hsub := PySem.F.called_set.sub
  refine wpAny_call (codeAny_of_tree ?_); show wpAny _ _ (callAny (.type "set") _) _ _ _
  refine wpAny_pure ⟨Code.quiet_builtin _ (by decide +kernel), codeAny_builtin PySem.F.entry_type_call ?_⟩
  rw [Around.under_plain (weight_type_call_type "set" [.ref a] []) rfl]
  have h1 := PySem.F.called_set.notType; have h2 := PySem.F.called_set.canCreate
  have hct := PySem.F.typeCall_set_1 (.ref a)
  repeat (any_goals (first | assumption | wp_step))
  refine codeAny_mono (PySem.code_set_new_1 (.ref a) (E := E) (Q₁ := fun obj s₁ => ∃ led : Bool, obj = .ref s.heap.objs.size ∧ s₁ = { s with heap := s.heap.push (freshSet led) }) fun led => ⟨led, rfl, rfl⟩) fun r s₁ hr => ?_
  match r, hr with
  | .error e, hr => exact hr
  | .ok (.ret obj), hr =>
    obtain ⟨led, rfl, rfl⟩ := hr
    have hS : (s.heap.push (freshSet led)).get? s.heap.objs.size = some (freshSet led) := Heap.get?_push_size _ rfl
    have hT : Shared.TypeIs { s with heap := s.heap.push (freshSet led) } (.ref s.heap.objs.size) "set" := ⟨_, hS, rfl⟩
    have hli := PySem.F.called_set.init.lookup; have hbi := PySem.F.called_set.init.bind (.ref s.heap.objs.size)
    repeat (any_goals (first | assumption | wp_step))
    refine codeAny_mono (codeAny_call_builtin (R := wants (fun r s₂ => r = .none ∧ ∃ h' tk, s₂ = { s with heap := h', toks := tk } ∧ h'.SetOf (strKind prog w) s.heap.objs.size (memS l) (metS l).length ∧
        (∀ b o, s.heap.get? b = some o → h'.get? b = some o)) E) PySem.F.called_set.init.plain PySem.F.entry_set_init (PySem.check_set_init_1 hT ?_)) fun r₂ s₂ hr₂ => ?_
    · obtain ⟨⟨oc, od, odt, osl⟩, hol, hcl, nl, hdl⟩ := hl
      simp only at hcl hdl; subst hcl; subst hdl
      have hol' : (s.heap.push (freshSet led)).get? a = some { cls := .type "list", dict := od, data := .seq its.toArray nl, slots := osl } := Heap.get?_push_of_some _ hol
      have n1 := PySem.F.sub_list_set; have n2 := PySem.F.sub_list_frozenset
      have n3 : (Value.type "list" == Value.type "dict") = false := by decide
      have hl1 : (s.heap.push (freshSet led)).IsList a its.toArray := ⟨_, hol', rfl, nl, rfl⟩
      unfold Builtin.«set.__init__» noKeywords Builtin.Frozenset.updateFrom
      generalize hPI : pyIter = PI
      wp_walk
      subst hPI
      refine wpAny_pyIter_list hl1 (wpAny_bind (wpAny_runValue ?_))
      have lt : a < s.heap.objs.size := Heap.lt_size hol
      have hh3 : A.in1.in1.in1.handled = none := by simp [hh]
      have ne1 : a ≠ (s.heap.push (freshSet led)).objs.size := by rw [Heap.size_push]; exact Nat.ne_of_lt (Nat.lt_succ_of_lt lt)
      have ne2 : s.heap.objs.size ∉ [(s.heap.push (freshSet led)).objs.size, a] := by
        rw [Heap.size_push]; intro z
        rcases List.mem_cons.mp z with z | z
        · exact absurd z (Nat.ne_of_lt (Nat.lt_succ_self _))
        · exact absurd (List.mem_singleton.mp z) (Nat.ne_of_gt lt)
      have W := (Walks.list (prog := prog) (w := w) hh3 _ a ne1 its.toArray).toS
      rw [hn] at W
      refine setLoopS W s.heap.objs.size ne2 (fun i v hv' => hasS hv i v (by simpa using hv')) hb (l.length - 0) 0 _ (fun s' hm z => ?_) (by omega) (Nat.zero_le _) ⟨⟨_, Heap.get?_push_size _ rfl, rfl, rfl⟩, hl1.push _⟩ ?_
      · obtain ⟨h', g', d', tk', os'⟩ := s'
        have eg : g' = s.gens := hm.gens
        have ed : d' = s.drawn := hm.drawn
        have eo : os' = s.os := hm.os
        subst eg; subst ed; subst eo
        show wpAny _ _ _ _ _ _
        refine wpAny_pure ?_
        show wpAny _ _ (ret Value.none) _ _ _
        refine wpAny_pure ⟨rfl, h', tk', rfl, z, fun b o e => ?_⟩
        have bl := Heap.lt_size e
        refine hm.heap b o (fun y => ?_) (Heap.get?_push_of_some _ (Heap.get?_push_of_some _ e))
        rcases List.mem_cons.mp y with y | y
        · exact absurd y (Nat.ne_of_lt bl)
        · have := List.mem_singleton.mp y; rw [Heap.size_push] at this; exact absurd this (Nat.ne_of_lt (Nat.lt_succ_of_lt bl))
      · have hg : ((s.heap.push (freshSet led)).push { cls := .type "list_iterator", data := .fields #[.ref a, .int 0 0] }).get? s.heap.objs.size = some (freshSet led) := Heap.get?_push_of_some _ hS
        exact SetOf_congr ((setObjOf_fresh (knd := strKind prog w) led).setOf hg (by unfold scanBound; omega)) (fun k => by simp [memS, metS]) rfl
    · match r₂, hr₂ with
      | .error e, hr₂ => exact hr₂
      | .ok (.ret r), hr₂ =>
        obtain ⟨rfl, h', tk, rfl, z, kp⟩ := hr₂
        repeat (any_goals (first | assumption | wp_step))
        exact q _ _ z kp
end
/-- a set of texts, by its size -/
def hoSet (P : Program) (w : World) (a : Addr) (l : List Str) : HO := .ext fun h => h.SetOf (strKind P w) a (memS l) (metS l).length
theorem set_ext {P : Program} {w : World} {H : Hp} {h : Heap} {a : Addr} {l : List Str} (z : h.SetOf (strKind P w) a (memS l) (metS l).length) : ObjOk P w H h a (hoSet P w a l) := by
  refine ⟨z, ?_, fun h1 h2 z1 k => ?_⟩
  · obtain ⟨o, _, _, _, e, _⟩ := z; exact ⟨o, e⟩
  · obtain ⟨o, es, ep, t, e, z1⟩ := z1; exact ⟨o, es, ep, t, k o e, z1⟩
theorem call_setS {X : Cx} (hc : X.calm = true) : CallR X (.type "set") (fun xs H Q => ∃ (a : Addr) (l : List Str), xs = [.ref a] ∧ SqL X.K H a (l.map V.str) ∧ l.length ≤ 1000 ∧ ∀ p, H p = none → Q (.ref p) (upd H p (hoSet X.prog X.w p l))) := by
  intro pins s σ H xs us Q I r h
  obtain ⟨a, l, rfl, hS, hz, q⟩ := h
  obtain ⟨u, rfl, ru⟩ := vals1 r
  cases ru
  obtain ⟨its, rv, pl, _⟩ := I.list hS
  refine callSetS (I.ok.hd hc) pl.isList rv (by unfold scanBound; omega) fun h' tk z kp => ?_
  exact ⟨.ref s.heap.objs.size, _, I.laid (t' := tk) kp (Nat.le_refl _) (set_ext z), rfl, q _ (I.hok.fresh (Nat.le_refl _))⟩
theorem call_lenS {X : Cx} : CallR X (.builtin "len") (fun xs H Q => ∃ (a : Addr) (l : List Str), xs = [.ref a] ∧ H a = some (hoSet X.prog X.w a l) ∧ Q (.int (metS l).length) H) := by
  intro pins s σ H xs us Q I r h
  obtain ⟨a, l, rfl, e, q⟩ := h
  obtain ⟨u, rfl, ru⟩ := vals1 r
  cases ru
  obtain ⟨⟨o, es, ep, t, ho, hex, hd, _, _, hb, hf, hn⟩, _⟩ := I.hok a _ e
  rw [← hn] at q
  exact call_len_set ho hex hd hf (by unfold scanBound at hb; omega) ⟨.int es.size, H, I.tok _, ⟨_, rfl⟩, q⟩
end Bw
set_option Elab.async false
set_option linter.all false
set_option maxRecDepth 100000
set_option maxHeartbeats 1000000
namespace Bw
open PySem PySem.Spec PyProof.Rows L2
/-! ### isinstance of any thing whose type is known, by a built-in type -/
theorem TyOf.same {K : PySem.W.Frag} {H H' : Hp} {x : V} {t : Value} (h : TyOf K H x t) (s : Same H H') : TyOf K H' x t := by
  cases h with
  | non => exact .non
  | bl x => exact .bl x
  | int i => exact .int i
  | str x => exact .str x
  | flt x => exact .flt x
  | lst e => exact .lst (s _ _ e)
  | frz e => exact .frz (s _ _ e)
  | tup e => exact .tup (s _ _ e)
  | dK e => exact .dK (s _ _ e)
  | dT e => exact .dT (s _ _ e)
  | ins e cl ha hn ht hm => exact .ins (s _ _ e) cl ha hn ht hm
theorem TyOf.but3 {K : PySem.W.Frag} {H H' : Hp} {w : Addr} {x : V} {t : Value} (h : TyOf K H x t) (W0 : Well3 H w) (W : Well3 H' w) (s : But w H H') : TyOf K H' x t := by
  have ne : ∀ {b : Addr} {o : HO}, H b = some o → (∀ xs, o ≠ .lst xs) → b ≠ w := fun e n z => by
    obtain ⟨a, b, c, q⟩ := W0
    rw [z, q] at e
    exact n _ (Option.some.inj e).symm
  cases h with
  | non => exact .non
  | bl x => exact .bl x
  | int i => exact .int i
  | str x => exact .str x
  | flt x => exact .flt x
  | @lst p xs e =>
    by_cases z : p = w
    · obtain ⟨a, b, c, q⟩ := W
      rw [z]
      exact .lst q
    · exact .lst (s _ _ z e)
  | frz e => exact .frz (s _ _ (ne e (by intro xs z; cases z)) e)
  | tup e => exact .tup (s _ _ (ne e (by intro xs z; cases z)) e)
  | dK e => exact .dK (s _ _ (ne e (by intro xs z; cases z)) e)
  | dT e => exact .dT (s _ _ (ne e (by intro xs z; cases z)) e)
  | ins e cl ha hn ht hm => exact .ins (s _ _ (ne e (by intro xs z; cases z)) e) cl ha hn ht hm
def rIsiG (K : PySem.W.Frag) (T : String) : List V → Hp → VK → Prop := fun xs H Q => ∃ (x : V) (t : Value) (b : Bool), xs = [x, .ty T] ∧ TyOf K H x t ∧ PySem.W.kitOne K t (.type T) = some b ∧ Q (.bl b) H
theorem isiG_at {X : Cx} {K : PySem.W.Frag} {T : String} (hK : X.K = K) : CallR X (.builtin "isinstance") (rIsiG K T) := by
  subst hK
  intro pins s σ H xs us Q I r h
  obtain ⟨x, t, b, rfl, ty, e, q⟩ := h
  obtain ⟨u, w', rfl, rx, rc⟩ := vals2 r
  cases (show w' = Value.type T from rc)
  exact isinst_ok I rx ty e fun tk => ⟨.bl b, H, I.tok _, rfl, q⟩
end Bw
set_option Elab.async false
set_option linter.all false
set_option maxRecDepth 100000
set_option maxHeartbeats 8000000
namespace Bw
open PySem L2
local macro_rules | `(tactic| walk_at "w0") => `(tactic| try simp only [w_seq, w_next, w_ifS, w_ret, w_retN, w_drop, w_asg, w_gName, w_gSub, w_var, w_c, w_op, w_un, w_rU, w_rI0, w_rI, w_test, w_b, w_and, w_or, w_not, w_andV, w_orV, w_notV, w_if, w_cons, w_nil, w_tup, w_lst, w_call, w_cB, w_eq, w_ne, w_isN, w_notN, w_chain, w_sl, w_part, w_noPart, w_forL, w_for1, w_for2, w_K, w_for3, w_isnotB, w_raise, w_try, w_KX, w_cut, w_compL, w_comp1, w_comp2, w_yes, w_pick0, w_pickN, w_pickS, w_bm, w_bm0, w_tyS, w_addS, w_slS, w_blkK, w_strs, w_methD, w_makeN, w_make, w_fld, w_gTup, w_gCons, w_gNil, w_sFld, w_compS, w_tryB, w_bmake, w_noKeys, w_nev, w_never, Option.getD_some,  exists_const, false_or, or_false, exists_false, w_s1, w_s2, w_s3, w_s4, w_s5, L2.start, List.map_cons, List.map_nil, List.length_cons, List.length_nil, List.replicate, List.replicate_zero, List.replicate_succ, Nat.reduceAdd, Nat.reduceSub, Nat.reduceLeDiff, List.cons_append, List.nil_append, List.append_nil, List.set_cons_zero, List.set_cons_succ, List.getElem?_cons_zero, List.getElem?_cons_succ, Option.some.injEq, V.int.injEq, V.bl.injEq, V.ref.injEq, V.str.injEq, V.ty.injEq, List.cons.injEq, and_true, true_and, exists_eq_left, exists_eq_left', exists_and_left, exists_eq, exists_eq', and_self, decide_eq_true_eq, Bool.not_eq_true', decide_eq_false_iff_not, Bool.true_eq_false, Bool.false_eq_true, if_true, if_false, ite_true, ite_false, false_and, and_false, and_assoc, reduceCtorEq])
local macro_rules | `(tactic| walk_at "w1") => `(tactic| try simp only [Bool.not_true, w_seq, w_next, w_ifS, w_ret, w_retN, w_drop, w_asg, w_gName, w_gSub, w_var, w_c, w_op, w_un, w_rU, w_rI0, w_rI, w_test, w_b, w_and, w_or, w_not, w_andV, w_orV, w_notV, w_if, w_cons, w_nil, w_tup, w_lst, w_call, w_cB, w_eq, w_ne, w_isN, w_notN, w_chain, w_sl, w_part, w_noPart, w_forL, w_for1, w_for2, w_K, w_for3, w_isnotB, w_raise, w_try, w_KX, w_cut, w_compL, w_comp1, w_comp2, w_yes, w_pick0, w_pickN, w_pickS, w_bm, w_bm0, w_tyS, w_addS, w_slS, w_blkK, w_strs, w_methD, w_makeN, w_make, w_fld, w_gTup, w_gCons, w_gNil, w_sFld, w_compS, w_tryB, w_bmake, w_noKeys, w_nev, w_never, Option.getD_some,  exists_const, false_or, or_false, exists_false, w_s1, w_s2, w_s3, w_s4, w_s5, L2.start, List.map_cons, List.map_nil, List.length_cons, List.length_nil, List.replicate, List.replicate_zero, List.replicate_succ, Nat.reduceAdd, Nat.reduceSub, Nat.reduceLeDiff, List.cons_append, List.nil_append, List.append_nil, List.set_cons_zero, List.set_cons_succ, List.getElem?_cons_zero, List.getElem?_cons_succ, Option.some.injEq, V.int.injEq, V.bl.injEq, V.ref.injEq, V.str.injEq, V.ty.injEq, List.cons.injEq, and_true, true_and, exists_eq_left, exists_eq_left', exists_and_left, exists_eq, exists_eq', and_self, decide_eq_true_eq, Bool.not_eq_true', decide_eq_false_iff_not, Bool.true_eq_false, Bool.false_eq_true, if_true, if_false, ite_true, ite_false, false_and, and_false, and_assoc, reduceCtorEq])
local macro_rules | `(tactic| walk_at "w2") => `(tactic| try simp only [Int.reduceEq, w_seq, w_next, w_ifS, w_ret, w_retN, w_drop, w_asg, w_gName, w_gSub, w_var, w_c, w_op, w_un, w_rU, w_rI0, w_rI, w_test, w_b, w_and, w_or, w_not, w_andV, w_orV, w_notV, w_if, w_cons, w_nil, w_tup, w_lst, w_call, w_cB, w_eq, w_ne, w_isN, w_notN, w_chain, w_sl, w_part, w_noPart, w_forL, w_for1, w_for2, w_K, w_for3, w_isnotB, w_raise, w_try, w_KX, w_cut, w_compL, w_comp1, w_comp2, w_yes, w_pick0, w_pickN, w_pickS, w_bm, w_bm0, w_tyS, w_addS, w_slS, w_blkK, w_strs, w_methD, w_makeN, w_make, w_fld, w_gTup, w_gCons, w_gNil, w_sFld, w_compS, w_tryB, w_bmake, w_noKeys, w_nev, w_never, Option.getD_some,  exists_const, false_or, or_false, exists_false, w_s1, w_s2, w_s3, w_s4, w_s5, L2.start, List.map_cons, List.map_nil, List.length_cons, List.length_nil, List.replicate, List.replicate_zero, List.replicate_succ, Nat.reduceAdd, Nat.reduceSub, Nat.reduceLeDiff, List.cons_append, List.nil_append, List.append_nil, List.set_cons_zero, List.set_cons_succ, List.getElem?_cons_zero, List.getElem?_cons_succ, Option.some.injEq, V.int.injEq, V.bl.injEq, V.ref.injEq, V.str.injEq, V.ty.injEq, List.cons.injEq, and_true, true_and, exists_eq_left, exists_eq_left', exists_and_left, exists_eq, exists_eq', and_self, decide_eq_true_eq, Bool.not_eq_true', decide_eq_false_iff_not, Bool.true_eq_false, Bool.false_eq_true, if_true, if_false, ite_true, ite_false, false_and, and_false, and_assoc, reduceCtorEq])
local macro_rules | `(tactic| walk_at "w3") => `(tactic| try simp only [isStrV, w_seq, w_next, w_ifS, w_ret, w_retN, w_drop, w_asg, w_gName, w_gSub, w_var, w_c, w_op, w_un, w_rU, w_rI0, w_rI, w_test, w_b, w_and, w_or, w_not, w_andV, w_orV, w_notV, w_if, w_cons, w_nil, w_tup, w_lst, w_call, w_cB, w_eq, w_ne, w_isN, w_notN, w_chain, w_sl, w_part, w_noPart, w_forL, w_for1, w_for2, w_K, w_for3, w_isnotB, w_raise, w_try, w_KX, w_cut, w_compL, w_comp1, w_comp2, w_yes, w_pick0, w_pickN, w_pickS, w_bm, w_bm0, w_tyS, w_addS, w_slS, w_blkK, w_strs, w_methD, w_makeN, w_make, w_fld, w_gTup, w_gCons, w_gNil, w_sFld, w_compS, w_tryB, w_bmake, w_noKeys, w_nev, w_never, Option.getD_some,  exists_const, false_or, or_false, exists_false, w_s1, w_s2, w_s3, w_s4, w_s5, L2.start, List.map_cons, List.map_nil, List.length_cons, List.length_nil, List.replicate, List.replicate_zero, List.replicate_succ, Nat.reduceAdd, Nat.reduceSub, Nat.reduceLeDiff, List.cons_append, List.nil_append, List.append_nil, List.set_cons_zero, List.set_cons_succ, List.getElem?_cons_zero, List.getElem?_cons_succ, Option.some.injEq, V.int.injEq, V.bl.injEq, V.ref.injEq, V.str.injEq, V.ty.injEq, List.cons.injEq, and_true, true_and, exists_eq_left, exists_eq_left', exists_and_left, exists_eq, exists_eq', and_self, decide_eq_true_eq, Bool.not_eq_true', decide_eq_false_iff_not, Bool.true_eq_false, Bool.false_eq_true, if_true, if_false, ite_true, ite_false, false_and, and_false, and_assoc, reduceCtorEq])
local macro_rules | `(tactic| walk_at "w4") => `(tactic| try simp only [Bool.not_false, w_seq, w_next, w_ifS, w_ret, w_retN, w_drop, w_asg, w_gName, w_gSub, w_var, w_c, w_op, w_un, w_rU, w_rI0, w_rI, w_test, w_b, w_and, w_or, w_not, w_andV, w_orV, w_notV, w_if, w_cons, w_nil, w_tup, w_lst, w_call, w_cB, w_eq, w_ne, w_isN, w_notN, w_chain, w_sl, w_part, w_noPart, w_forL, w_for1, w_for2, w_K, w_for3, w_isnotB, w_raise, w_try, w_KX, w_cut, w_compL, w_comp1, w_comp2, w_yes, w_pick0, w_pickN, w_pickS, w_bm, w_bm0, w_tyS, w_addS, w_slS, w_blkK, w_strs, w_methD, w_makeN, w_make, w_fld, w_gTup, w_gCons, w_gNil, w_sFld, w_compS, w_tryB, w_bmake, w_noKeys, w_nev, w_never, Option.getD_some,  exists_const, false_or, or_false, exists_false, w_s1, w_s2, w_s3, w_s4, w_s5, L2.start, List.map_cons, List.map_nil, List.length_cons, List.length_nil, List.replicate, List.replicate_zero, List.replicate_succ, Nat.reduceAdd, Nat.reduceSub, Nat.reduceLeDiff, List.cons_append, List.nil_append, List.append_nil, List.set_cons_zero, List.set_cons_succ, List.getElem?_cons_zero, List.getElem?_cons_succ, Option.some.injEq, V.int.injEq, V.bl.injEq, V.ref.injEq, V.str.injEq, V.ty.injEq, List.cons.injEq, and_true, true_and, exists_eq_left, exists_eq_left', exists_and_left, exists_eq, exists_eq', and_self, decide_eq_true_eq, Bool.not_eq_true', decide_eq_false_iff_not, Bool.true_eq_false, Bool.false_eq_true, if_true, if_false, ite_true, ite_false, false_and, and_false, and_assoc, reduceCtorEq])
local macro_rules | `(tactic| walk_at "w5") => `(tactic| try simp only [ne_eq, not_true_eq_false, w_seq, w_next, w_ifS, w_ret, w_retN, w_drop, w_asg, w_gName, w_gSub, w_var, w_c, w_op, w_un, w_rU, w_rI0, w_rI, w_test, w_b, w_and, w_or, w_not, w_andV, w_orV, w_notV, w_if, w_cons, w_nil, w_tup, w_lst, w_call, w_cB, w_eq, w_ne, w_isN, w_notN, w_chain, w_sl, w_part, w_noPart, w_forL, w_for1, w_for2, w_K, w_for3, w_isnotB, w_raise, w_try, w_KX, w_cut, w_compL, w_comp1, w_comp2, w_yes, w_pick0, w_pickN, w_pickS, w_bm, w_bm0, w_tyS, w_addS, w_slS, w_blkK, w_strs, w_methD, w_makeN, w_make, w_fld, w_gTup, w_gCons, w_gNil, w_sFld, w_compS, w_tryB, w_bmake, w_noKeys, w_nev, w_never, Option.getD_some,  exists_const, false_or, or_false, exists_false, w_s1, w_s2, w_s3, w_s4, w_s5, L2.start, List.map_cons, List.map_nil, List.length_cons, List.length_nil, List.replicate, List.replicate_zero, List.replicate_succ, Nat.reduceAdd, Nat.reduceSub, Nat.reduceLeDiff, List.cons_append, List.nil_append, List.append_nil, List.set_cons_zero, List.set_cons_succ, List.getElem?_cons_zero, List.getElem?_cons_succ, Option.some.injEq, V.int.injEq, V.bl.injEq, V.ref.injEq, V.str.injEq, V.ty.injEq, List.cons.injEq, and_true, true_and, exists_eq_left, exists_eq_left', exists_and_left, exists_eq, exists_eq', and_self, decide_eq_true_eq, Bool.not_eq_true', decide_eq_false_iff_not, Bool.true_eq_false, Bool.false_eq_true, if_true, if_false, ite_true, ite_false, false_and, and_false, and_assoc, reduceCtorEq])
def top (i : Nat) : Stmt := PySem.Challenge.pw_bellsaway_k07_fits_made.main.body.getD i (.Pass ⟨0, 0, 0, 0⟩)
abbrev s_is_whole : Stmt := top 10
theorem sc_is_whole : FnScope ["thing"] ["thing"] (defScope s_is_whole) := ⟨rfl, rfl, rfl, by decide +kernel, rfl, by decide +kernel, by decide +kernel⟩
abbrev s_is_whole_from : Stmt := top 11
theorem sc_is_whole_from : FnScope ["thing", "least"] ["thing", "least"] (defScope s_is_whole_from) := ⟨rfl, rfl, rfl, by decide +kernel, rfl, by decide +kernel, by decide +kernel⟩
abbrev s_is_name : Stmt := top 15
theorem sc_is_name : FnScope ["thing"] ["thing"] (defScope s_is_name) := ⟨rfl, rfl, rfl, by decide +kernel, rfl, by decide +kernel, by decide +kernel⟩
abbrev s_Happening___init__ : Stmt := inClass (top 16) 0
theorem sc_Happening___init__ : FnScope ["self", "kind", "place", "weight"] ["self", "kind", "place", "weight"] (defScope s_Happening___init__) := ⟨rfl, rfl, rfl, by decide +kernel, rfl, by decide +kernel, by decide +kernel⟩
abbrev s_are_unlike_names : Stmt := top 18
theorem sc_are_unlike_names : FnScope ["thing"] ["thing"] (defScope s_are_unlike_names) := ⟨rfl, rfl, rfl, by decide +kernel, rfl, by decide +kernel, by decide +kernel⟩
abbrev s_Kind___init__ : Stmt := inClass (top 22) 0
theorem sc_Kind___init__ : FnScope ["self", "names"] ["self", "names"] (defScope s_Kind___init__) := ⟨rfl, rfl, rfl, by decide +kernel, rfl, by decide +kernel, by decide +kernel⟩
abbrev s_Place___init__ : Stmt := inClass (top 23) 0
theorem sc_Place___init__ : FnScope ["self", "names"] ["self", "names"] (defScope s_Place___init__) := ⟨rfl, rfl, rfl, by decide +kernel, rfl, by decide +kernel, by decide +kernel⟩
abbrev s_Least___init__ : Stmt := inClass (top 24) 0
theorem sc_Least___init__ : FnScope ["self", "weight"] ["self", "weight"] (defScope s_Least___init__) := ⟨rfl, rfl, rfl, by decide +kernel, rfl, by decide +kernel, by decide +kernel⟩
abbrev s_Not___init__ : Stmt := inClass (top 25) 0
theorem sc_Not___init__ : FnScope ["self", "fit"] ["self", "fit"] (defScope s_Not___init__) := ⟨rfl, rfl, rfl, by decide +kernel, rfl, by decide +kernel, by decide +kernel⟩
abbrev s_Both___init__ : Stmt := inClass (top 26) 0
theorem sc_Both___init__ : FnScope ["self", "fits"] ["self", "fits"] (defScope s_Both___init__) := ⟨rfl, rfl, rfl, by decide +kernel, rfl, by decide +kernel, by decide +kernel⟩
abbrev s_Either___init__ : Stmt := inClass (top 27) 0
theorem sc_Either___init__ : FnScope ["self", "fits"] ["self", "fits"] (defScope s_Either___init__) := ⟨rfl, rfl, rfl, by decide +kernel, rfl, by decide +kernel, by decide +kernel⟩
abbrev s_check_names : Stmt := top 28
theorem sc_check_names : FnScope ["names"] ["names"] (defScope s_check_names) := ⟨rfl, rfl, rfl, by decide +kernel, rfl, by decide +kernel, by decide +kernel⟩
abbrev s_check_fit : Stmt := top 29
theorem sc_check_fit : FnScope ["fit"] ["fit"] (defScope s_check_fit) := ⟨rfl, rfl, rfl, by decide +kernel, rfl, by decide +kernel, by decide +kernel⟩
abbrev s_check_fits : Stmt := top 30
theorem sc_check_fits : FnScope ["fits", "fit"] ["fits"] (defScope s_check_fits) := ⟨rfl, rfl, rfl, by decide +kernel, rfl, by decide +kernel, by decide +kernel⟩
abbrev s_law_begin : Stmt := top 33
theorem sc_law_begin : FnScope ["_law_cell"] ["_law_cell"] (defScope s_law_begin) := ⟨rfl, rfl, rfl, by decide +kernel, rfl, by decide +kernel, by decide +kernel⟩
abbrev s_law_next : Stmt := top 34
theorem sc_law_next : FnScope ["_law_state", "_law_base", "_law_found", "_law_number"] ["_law_state", "_law_base"] (defScope s_law_next) := ⟨rfl, rfl, rfl, by decide +kernel, rfl, by decide +kernel, by decide +kernel⟩
abbrev s_law_name : Stmt := top 35
theorem sc_law_name : FnScope ["_law_state", "_law_letters", "_law_way", "_law_some", "_law_word", "_law_at"] ["_law_state"] (defScope s_law_name) := ⟨rfl, rfl, rfl, by decide +kernel, rfl, by decide +kernel, by decide +kernel⟩
abbrev s_law_names : Stmt := top 36
theorem sc_law_names : FnScope ["_law_state", "_law_most", "_law_found", "_law_k", "_law_name_here"] ["_law_state", "_law_most"] (defScope s_law_names) := ⟨rfl, rfl, rfl, by decide +kernel, rfl, by decide +kernel, by decide +kernel⟩
abbrev s_law_kinds : Stmt := top 37
theorem sc_law_kinds : FnScope ["_law_fit", "_law_found"] ["_law_fit"] (defScope s_law_kinds) := ⟨rfl, rfl, rfl, by decide +kernel, rfl, by decide +kernel, by decide +kernel⟩
abbrev s_law_is_kind : Stmt := top 38
theorem sc_law_is_kind : FnScope ["_law_fit", "_law_at"] ["_law_fit", "_law_at"] (defScope s_law_is_kind) := ⟨rfl, rfl, rfl, by decide +kernel, rfl, by decide +kernel, by decide +kernel⟩
abbrev s_law_made : Stmt := top 39
theorem sc_law_made : FnScope ["_law_at", "_law_thing"] ["_law_at", "_law_thing"] (defScope s_law_made) := ⟨rfl, rfl, rfl, by decide +kernel, rfl, by decide +kernel, by decide +kernel⟩
abbrev s_law_refused : Stmt := top 40
theorem sc_law_refused : FnScope ["_law_at", "_law_thing", "_law_found", "e", "_law_other"] ["_law_at", "_law_thing"] (defScope s_law_refused) := ⟨rfl, rfl, rfl, by decide +kernel, rfl, by decide +kernel, by decide +kernel⟩
abbrev s_law_odd : Stmt := top 41
theorem sc_law_odd : FnScope ["_law_at", "_law_names_here", "_law_weight", "_law_fit", "_law_bad", "_law_odd_here"] ["_law_at", "_law_names_here", "_law_weight", "_law_fit"] (defScope s_law_odd) := ⟨rfl, rfl, rfl, by decide +kernel, rfl, by decide +kernel, by decide +kernel⟩
abbrev s_law_named : Stmt := top 42
theorem sc_law_named : FnScope ["_law_at", "_law_names_here", "_law_handed", "_law_fit"] ["_law_at", "_law_names_here"] (defScope s_law_named) := ⟨rfl, rfl, rfl, by decide +kernel, rfl, by decide +kernel, by decide +kernel⟩
abbrev s_law_several : Stmt := top 43
theorem sc_law_several : FnScope ["_law_at", "_law_weights", "_law_handed", "_law_fit", "_law_found"] ["_law_at", "_law_weights"] (defScope s_law_several) := ⟨rfl, rfl, rfl, by decide +kernel, rfl, by decide +kernel, by decide +kernel⟩
abbrev s_law : Stmt := top 44
theorem sc_law : FnScope ["_law_script", "_law_cell", "_law_state", "_law_names_here", "_law_weight", "_law_least", "_law_turned", "_law_weights", "_law_at", "_law_odd_here", "_law_k"] ["_law_script"] (defScope s_law) := ⟨rfl, rfl, rfl, by decide +kernel, rfl, by decide +kernel, by decide +kernel⟩
structure Ad where
  BellError : Addr
  NoClock : Addr
  NoHappening : Addr
  NoFit : Addr
  NoWish : Addr
  NoRow : Addr
  NoText : Addr
  Happening : Addr
  Fit : Addr
  Any : Addr
  Kind : Addr
  Place : Addr
  Least : Addr
  Not : Addr
  Both : Addr
  Either : Addr
  t0 : Tok
  t1 : Tok
structure Bt (K : PySem.W.Frag) (mg : Str → Option Value) (a : Ad) : Prop where
  len : mg "len" = none
  int : mg "int" = none
  bool : mg "bool" = none
  str : mg "str" = none
  tuple : mg "tuple" = none
  list : mg "list" = none
  all : mg "all" = none
  isinstance : mg "isinstance" = none
  range : mg "range" = none
  set : mg "set" = none
  ValueError : mg "ValueError" = none
  LETTERS : mg "LETTERS" = some (.str "abcdefghijklmnopqrstuvwxyz" a.t0)
  MOST_LETTERS : mg "MOST_LETTERS" = some (.int 8 a.t1)
  BellError : mg "BellError" = some (.ref a.BellError)
  NoClock : mg "NoClock" = some (.ref a.NoClock)
  NoHappening : mg "NoHappening" = some (.ref a.NoHappening)
  NoFit : mg "NoFit" = some (.ref a.NoFit)
  NoWish : mg "NoWish" = some (.ref a.NoWish)
  NoRow : mg "NoRow" = some (.ref a.NoRow)
  NoText : mg "NoText" = some (.ref a.NoText)
  Happening : mg "Happening" = some (.ref a.Happening)
  Fit : mg "Fit" = some (.ref a.Fit)
  Any : mg "Any" = some (.ref a.Any)
  Kind : mg "Kind" = some (.ref a.Kind)
  Place : mg "Place" = some (.ref a.Place)
  Least : mg "Least" = some (.ref a.Least)
  Not : mg "Not" = some (.ref a.Not)
  Both : mg "Both" = some (.ref a.Both)
  Either : mg "Either" = some (.ref a.Either)
  exc_NoFit : PySem.W.excIn K a.NoFit vbm "ValueError.__new__" = true
  excK_NoFit : ExcK K a.NoFit
  exm : PySem.W.exmOne K (.ref a.NoFit) (.ref a.BellError) = some true
  any1 : PySem.W.kitAny K (.ref a.NoFit) ([.ref a.NoClock, .ref a.NoHappening, .ref a.NoRow, .ref a.NoText, .ref a.NoWish] : List Value) = some false
  isV : PySem.W.kitOne K (.ref a.NoFit) (.type "ValueError") = some true
  isC : PySem.W.kitOne K (.ref a.NoFit) (.ref a.NoFit) = some true
  ck_Happening : ClsK K a.Happening
  na_Happening_kind : NoAttr K a.Happening "kind"
  na_Happening_place : NoAttr K a.Happening "place"
  na_Happening_weight : NoAttr K a.Happening "weight"
  ck_Any : ClsK K a.Any
  ck_Kind : ClsK K a.Kind
  na_Kind_names : NoAttr K a.Kind "names"
  ck_Place : ClsK K a.Place
  na_Place_names : NoAttr K a.Place "names"
  ck_Least : ClsK K a.Least
  na_Least_weight : NoAttr K a.Least "weight"
  ck_Not : ClsK K a.Not
  na_Not_fit : NoAttr K a.Not "fit"
  ck_Both : ClsK K a.Both
  na_Both_fits : NoAttr K a.Both "fits"
  ck_Either : ClsK K a.Either
  na_Either_fits : NoAttr K a.Either "fits"
  is_Any_Any : PySem.W.kitOne K (.ref a.Any) (.ref a.Any) = some true
  is_Any_Kind : PySem.W.kitOne K (.ref a.Any) (.ref a.Kind) = some false
  is_Any_Place : PySem.W.kitOne K (.ref a.Any) (.ref a.Place) = some false
  is_Any_Least : PySem.W.kitOne K (.ref a.Any) (.ref a.Least) = some false
  is_Any_Not : PySem.W.kitOne K (.ref a.Any) (.ref a.Not) = some false
  is_Any_Both : PySem.W.kitOne K (.ref a.Any) (.ref a.Both) = some false
  is_Any_Either : PySem.W.kitOne K (.ref a.Any) (.ref a.Either) = some false
  is_Any_Fit : PySem.W.kitOne K (.ref a.Any) (.ref a.Fit) = some true
  is_Kind_Any : PySem.W.kitOne K (.ref a.Kind) (.ref a.Any) = some false
  is_Kind_Kind : PySem.W.kitOne K (.ref a.Kind) (.ref a.Kind) = some true
  is_Kind_Place : PySem.W.kitOne K (.ref a.Kind) (.ref a.Place) = some false
  is_Kind_Least : PySem.W.kitOne K (.ref a.Kind) (.ref a.Least) = some false
  is_Kind_Not : PySem.W.kitOne K (.ref a.Kind) (.ref a.Not) = some false
  is_Kind_Both : PySem.W.kitOne K (.ref a.Kind) (.ref a.Both) = some false
  is_Kind_Either : PySem.W.kitOne K (.ref a.Kind) (.ref a.Either) = some false
  is_Kind_Fit : PySem.W.kitOne K (.ref a.Kind) (.ref a.Fit) = some true
  is_Place_Any : PySem.W.kitOne K (.ref a.Place) (.ref a.Any) = some false
  is_Place_Kind : PySem.W.kitOne K (.ref a.Place) (.ref a.Kind) = some false
  is_Place_Place : PySem.W.kitOne K (.ref a.Place) (.ref a.Place) = some true
  is_Place_Least : PySem.W.kitOne K (.ref a.Place) (.ref a.Least) = some false
  is_Place_Not : PySem.W.kitOne K (.ref a.Place) (.ref a.Not) = some false
  is_Place_Both : PySem.W.kitOne K (.ref a.Place) (.ref a.Both) = some false
  is_Place_Either : PySem.W.kitOne K (.ref a.Place) (.ref a.Either) = some false
  is_Place_Fit : PySem.W.kitOne K (.ref a.Place) (.ref a.Fit) = some true
  is_Least_Any : PySem.W.kitOne K (.ref a.Least) (.ref a.Any) = some false
  is_Least_Kind : PySem.W.kitOne K (.ref a.Least) (.ref a.Kind) = some false
  is_Least_Place : PySem.W.kitOne K (.ref a.Least) (.ref a.Place) = some false
  is_Least_Least : PySem.W.kitOne K (.ref a.Least) (.ref a.Least) = some true
  is_Least_Not : PySem.W.kitOne K (.ref a.Least) (.ref a.Not) = some false
  is_Least_Both : PySem.W.kitOne K (.ref a.Least) (.ref a.Both) = some false
  is_Least_Either : PySem.W.kitOne K (.ref a.Least) (.ref a.Either) = some false
  is_Least_Fit : PySem.W.kitOne K (.ref a.Least) (.ref a.Fit) = some true
  is_Not_Any : PySem.W.kitOne K (.ref a.Not) (.ref a.Any) = some false
  is_Not_Kind : PySem.W.kitOne K (.ref a.Not) (.ref a.Kind) = some false
  is_Not_Place : PySem.W.kitOne K (.ref a.Not) (.ref a.Place) = some false
  is_Not_Least : PySem.W.kitOne K (.ref a.Not) (.ref a.Least) = some false
  is_Not_Not : PySem.W.kitOne K (.ref a.Not) (.ref a.Not) = some true
  is_Not_Both : PySem.W.kitOne K (.ref a.Not) (.ref a.Both) = some false
  is_Not_Either : PySem.W.kitOne K (.ref a.Not) (.ref a.Either) = some false
  is_Not_Fit : PySem.W.kitOne K (.ref a.Not) (.ref a.Fit) = some true
  is_Both_Any : PySem.W.kitOne K (.ref a.Both) (.ref a.Any) = some false
  is_Both_Kind : PySem.W.kitOne K (.ref a.Both) (.ref a.Kind) = some false
  is_Both_Place : PySem.W.kitOne K (.ref a.Both) (.ref a.Place) = some false
  is_Both_Least : PySem.W.kitOne K (.ref a.Both) (.ref a.Least) = some false
  is_Both_Not : PySem.W.kitOne K (.ref a.Both) (.ref a.Not) = some false
  is_Both_Both : PySem.W.kitOne K (.ref a.Both) (.ref a.Both) = some true
  is_Both_Either : PySem.W.kitOne K (.ref a.Both) (.ref a.Either) = some false
  is_Both_Fit : PySem.W.kitOne K (.ref a.Both) (.ref a.Fit) = some true
  is_Either_Any : PySem.W.kitOne K (.ref a.Either) (.ref a.Any) = some false
  is_Either_Kind : PySem.W.kitOne K (.ref a.Either) (.ref a.Kind) = some false
  is_Either_Place : PySem.W.kitOne K (.ref a.Either) (.ref a.Place) = some false
  is_Either_Least : PySem.W.kitOne K (.ref a.Either) (.ref a.Least) = some false
  is_Either_Not : PySem.W.kitOne K (.ref a.Either) (.ref a.Not) = some false
  is_Either_Both : PySem.W.kitOne K (.ref a.Either) (.ref a.Both) = some false
  is_Either_Either : PySem.W.kitOne K (.ref a.Either) (.ref a.Either) = some true
  is_Either_Fit : PySem.W.kitOne K (.ref a.Either) (.ref a.Fit) = some true
  is_Not_int : PySem.W.kitOne K (.ref a.Not) (.type "int") = some false
  is_Not_bool : PySem.W.kitOne K (.ref a.Not) (.type "bool") = some false
  is_Not_list : PySem.W.kitOne K (.ref a.Not) (.type "list") = some false
  is_Happening_int : PySem.W.kitOne K (.ref a.Happening) (.type "int") = some false
  is_Happening_bool : PySem.W.kitOne K (.ref a.Happening) (.type "bool") = some false
  is_Happening_list : PySem.W.kitOne K (.ref a.Happening) (.type "list") = some false
  is_Happening_Fit : PySem.W.kitOne K (.ref a.Happening) (.ref a.Fit) = some false
  noFit_NoneType : PySem.W.kitOne K (.type "NoneType") (.ref a.Fit) = some false
  noFit_bool : PySem.W.kitOne K (.type "bool") (.ref a.Fit) = some false
  noFit_int : PySem.W.kitOne K (.type "int") (.ref a.Fit) = some false
  noFit_str : PySem.W.kitOne K (.type "str") (.ref a.Fit) = some false
  noFit_list : PySem.W.kitOne K (.type "list") (.ref a.Fit) = some false
  noFit_tuple : PySem.W.kitOne K (.type "tuple") (.ref a.Fit) = some false
  noFit_dict : PySem.W.kitOne K (.type "dict") (.ref a.Fit) = some false
  mk_Any : MkN K a.Any
def okI (K : PySem.W.Frag) (H : Hp) (x : V) : Prop := ∃ t, TyOf K H x t ∧ PySem.W.kitOne K t (.type "int") = some (isIntV x) ∧ PySem.W.kitOne K t (.type "bool") = some (isBoolV x)
def noL (K : PySem.W.Frag) (H : Hp) (x : V) : Prop := ∃ t, TyOf K H x t ∧ PySem.W.kitOne K t (.type "list") = some false
def okF (K : PySem.W.Frag) (a : Ad) (H : Hp) (x : V) (b : Bool) : Prop := ∃ t, TyOf K H x t ∧ PySem.W.kitOne K t (.ref a.Fit) = some b
theorem okI.same {K : PySem.W.Frag} {H H' : Hp} {x : V} (h : okI K H x) (s : Same H H') : okI K H' x := let ⟨t, y, r⟩ := h; ⟨t, TyOf.same y s, r⟩
theorem noL.same {K : PySem.W.Frag} {H H' : Hp} {x : V} (h : noL K H x) (s : Same H H') : noL K H' x := let ⟨t, y, r⟩ := h; ⟨t, TyOf.same y s, r⟩
theorem okF.same {K : PySem.W.Frag} {a : Ad} {H H' : Hp} {x : V} {b : Bool} (h : okF K a H x b) (s : Same H H') : okF K a H' x b := let ⟨t, y, r⟩ := h; ⟨t, TyOf.same y s, r⟩
theorem okI.but3 {K : PySem.W.Frag} {H H' : Hp} {w : Addr} {x : V} (h : okI K H x) (W0 : Well3 H w) (W : Well3 H' w) (s : But w H H') : okI K H' x := let ⟨t, y, r⟩ := h; ⟨t, TyOf.but3 y W0 W s, r⟩
theorem noL.but3 {K : PySem.W.Frag} {H H' : Hp} {w : Addr} {x : V} (h : noL K H x) (W0 : Well3 H w) (W : Well3 H' w) (s : But w H H') : noL K H' x := let ⟨t, y, r⟩ := h; ⟨t, TyOf.but3 y W0 W s, r⟩
theorem okF.but3 {K : PySem.W.Frag} {a : Ad} {H H' : Hp} {w : Addr} {x : V} {b : Bool} (h : okF K a H x b) (W0 : Well3 H w) (W : Well3 H' w) (s : But w H H') : okF K a H' x b := let ⟨t, y, r⟩ := h; ⟨t, TyOf.but3 y W0 W s, r⟩
def strV : V → Str
  | .str u => u
  | _ => Str.empty
def namesB (xs : List V) : Bool := xs.all nameB && decide ((xs.map strV).Nodup)
theorem nameB_str {x : V} (h : nameB x = true) : x = .str (strV x) := by cases x <;> first | rfl | cases h
theorem all_str : ∀ {xs : List V}, xs.all nameB = true → xs = (xs.map strV).map V.str
  | [], _ => rfl
  | x :: xs, h => by
    simp only [List.all_cons, Bool.and_eq_true] at h
    rw [List.map_cons, List.map_cons, ← nameB_str h.1, ← all_str h.2]
def NmIs (K : PySem.W.Frag) (H : Hp) (x : V) (b : Bool) : Prop := (∃ p xs, x = .ref p ∧ H p = some (.lst xs) ∧ xs.length ≤ 100 ∧ (∀ y ∈ xs, okN H y) ∧ b = namesB xs) ∨ (b = false ∧ noL K H x)
def NoNm (K : PySem.W.Frag) (H : Hp) (x : V) : Prop := (∃ p xs, x = .ref p ∧ H p = some (.lst xs) ∧ xs.length ≤ 100 ∧ (∀ y ∈ xs, okN H y) ∧ (namesB xs = false ∨ xs = [])) ∨ noL K H x
def GoodNm (H : Hp) (x : V) (us : List Str) : Prop := ∃ p, x = .ref p ∧ H p = some (.lst (us.map V.str)) ∧ us ≠ [] ∧ us.length ≤ 100 ∧ (∀ u ∈ us, goodN u) ∧ us.Nodup
def NoFs (K : PySem.W.Frag) (a : Ad) (H : Hp) (x : V) : Prop := (∃ p xs, x = .ref p ∧ H p = some (.lst xs) ∧ xs.length ≤ 100 ∧ (xs.length < 2 ∨ ∃ pre y post, xs = pre ++ y :: post ∧ (∀ r ∈ pre, okF K a H r true) ∧ okF K a H y false)) ∨ noL K H x
def GoodFs (K : PySem.W.Frag) (a : Ad) (H : Hp) (x : V) (rs : List V) : Prop := ∃ p, x = .ref p ∧ H p = some (.lst rs) ∧ 2 ≤ rs.length ∧ rs.length ≤ 100 ∧ ∀ r ∈ rs, okF K a H r true
def clsOf (a : Ad) : Nat → Addr
  | 0 => a.Any
  | 1 => a.Kind
  | 2 => a.Place
  | 3 => a.Least
  | 4 => a.Not
  | 5 => a.Both
  | _ => a.Either
def FitAt (a : Ad) (H : Hp) (p : Addr) (n : Nat) (fs : List (Str × V)) : Prop := ∃ dx, H p = some (.ins (clsOf a n) dx fs)
theorem FitAt.same {a : Ad} {H H' : Hp} {p : Addr} {n : Nat} {fs : List (Str × V)} (h : FitAt a H p n fs) (s : Same H H') : FitAt a H' p n fs := let ⟨dx, e⟩ := h; ⟨dx, s _ _ e⟩
theorem FitAt.but3 {a : Ad} {H H' : Hp} {w p : Addr} {n : Nat} {fs : List (Str × V)} (h : FitAt a H p n fs) (W : Well3 H w) (s : But w H H') : FitAt a H' p n fs :=
  let ⟨dx, e⟩ := h; ⟨dx, s _ _ (fun z => by obtain ⟨b, c, d, q⟩ := W; rw [z, q] at e; cases e) e⟩
def BadT (K : PySem.W.Frag) (a : Ad) (H : Hp) (k : Int) (x : V) : Prop := ((k = 1 ∨ k = 2) ∧ NoNm K H x) ∨ (k = 3 ∧ okI K H x ∧ fromV x 0 = false) ∨ (k = 4 ∧ okF K a H x false) ∨ ((k = 5 ∨ k = 6) ∧ NoFs K a H x)
def sp_is_whole (K : PySem.W.Frag) (a : Ad) : Sp := fun vs H Q E => ∃ x, vs = [x] ∧ okI K H x ∧ Q (.bl (wholeV x)) H
def sp_is_whole_from (K : PySem.W.Frag) (a : Ad) : Sp := fun vs H Q E => ∃ x lo, vs = [x, .int lo] ∧ okI K H x ∧ Q (.bl (fromV x lo)) H
def sp_is_name (K : PySem.W.Frag) (a : Ad) : Sp := fun vs H Q E => ∃ x, vs = [x] ∧ okN H x ∧ ∀ H', Same H H' → Q (.bl (nameB x)) H'
def sp_Happening___init__ (K : PySem.W.Frag) (a : Ad) : Sp := fun vs H Q E => ∃ (p dx : Addr) (k l : Str) (n : Int), vs = [.ref p, .str k, .str l, .int n] ∧ H p = some (.ins a.Happening dx []) ∧ goodN k ∧ goodN l ∧ 0 ≤ n ∧ ∀ H', But p H H' → H' p = some (.ins a.Happening dx [("kind", .str k), ("place", .str l), ("weight", .int n)]) → Q .non H'
def sp_are_unlike_names (K : PySem.W.Frag) (a : Ad) : Sp := fun vs H Q E => ∃ (x : V) (b : Bool), vs = [x] ∧ NmIs K H x b ∧ ∀ H', Same H H' → Q (.bl b) H'
def sp_Kind___init__ (K : PySem.W.Frag) (a : Ad) : Sp := fun vs H Q E => ∃ (p dx : Addr) (x : V), vs = [.ref p, x] ∧ H p = some (.ins a.Kind dx []) ∧ ((∃ us, GoodNm H x us ∧ ∀ l H', But p H H' → H l = none → H' l = some (.lst (us.map V.str)) → H' p = some (.ins a.Kind dx [("names", .ref l)]) → Q .non H') ∨ (NoNm K H x ∧ ∀ H', Same H H' → E (.ref a.NoFit) none H'))
def sp_Place___init__ (K : PySem.W.Frag) (a : Ad) : Sp := fun vs H Q E => ∃ (p dx : Addr) (x : V), vs = [.ref p, x] ∧ H p = some (.ins a.Place dx []) ∧ ((∃ us, GoodNm H x us ∧ ∀ l H', But p H H' → H l = none → H' l = some (.lst (us.map V.str)) → H' p = some (.ins a.Place dx [("names", .ref l)]) → Q .non H') ∨ (NoNm K H x ∧ ∀ H', Same H H' → E (.ref a.NoFit) none H'))
def sp_Least___init__ (K : PySem.W.Frag) (a : Ad) : Sp := fun vs H Q E => ∃ (p dx : Addr) (x : V), vs = [.ref p, x] ∧ H p = some (.ins a.Least dx []) ∧ okI K H x ∧ ((∃ n : Int, x = .int n ∧ 0 ≤ n ∧ Q .non (upd H p (.ins a.Least dx [("weight", .int n)]))) ∨ (fromV x 0 = false ∧ E (.ref a.NoFit) none H))
def sp_Not___init__ (K : PySem.W.Frag) (a : Ad) : Sp := fun vs H Q E => ∃ (p dx : Addr) (x : V), vs = [.ref p, x] ∧ H p = some (.ins a.Not dx []) ∧ ((okF K a H x true ∧ Q .non (upd H p (.ins a.Not dx [("fit", x)]))) ∨ (okF K a H x false ∧ E (.ref a.NoFit) none H))
def sp_Both___init__ (K : PySem.W.Frag) (a : Ad) : Sp := fun vs H Q E => ∃ (p dx : Addr) (x : V), vs = [.ref p, x] ∧ H p = some (.ins a.Both dx []) ∧ ((∃ rs, GoodFs K a H x rs ∧ ∀ l H', But p H H' → H l = none → H' l = some (.lst rs) → H' p = some (.ins a.Both dx [("fits", .ref l)]) → Q .non H') ∨ (NoFs K a H x ∧ ∀ H', Same H H' → E (.ref a.NoFit) none H'))
def sp_Either___init__ (K : PySem.W.Frag) (a : Ad) : Sp := fun vs H Q E => ∃ (p dx : Addr) (x : V), vs = [.ref p, x] ∧ H p = some (.ins a.Either dx []) ∧ ((∃ rs, GoodFs K a H x rs ∧ ∀ l H', But p H H' → H l = none → H' l = some (.lst rs) → H' p = some (.ins a.Either dx [("fits", .ref l)]) → Q .non H') ∨ (NoFs K a H x ∧ ∀ H', Same H H' → E (.ref a.NoFit) none H'))
def sp_check_names (K : PySem.W.Frag) (a : Ad) : Sp := fun vs H Q E => ∃ x, vs = [x] ∧ ((∃ us, GoodNm H x us ∧ ∀ H', Same H H' → Q .non H') ∨ (NoNm K H x ∧ ∀ H', Same H H' → E (.ref a.NoFit) none H'))
def sp_check_fit (K : PySem.W.Frag) (a : Ad) : Sp := fun vs H Q E => ∃ x, vs = [x] ∧ ((okF K a H x true ∧ Q .non H) ∨ (okF K a H x false ∧ E (.ref a.NoFit) none H))
def sp_check_fits (K : PySem.W.Frag) (a : Ad) : Sp := fun vs H Q E => ∃ x, vs = [x] ∧ ((∃ rs, GoodFs K a H x rs ∧ Q .non H) ∨ (NoFs K a H x ∧ E (.ref a.NoFit) none H))
def sp_law_begin (K : PySem.W.Frag) (a : Ad) : Sp := fun vs H Q E => ∃ c : Int, vs = [.int c] ∧ ∀ p a b c, H p = none → Q (.ref p) (upd H p (.lst [.int a, .int b, .int c]))
def sp_law_next (K : PySem.W.Frag) (a : Ad) : Sp := fun vs H Q E => ∃ (w : Addr) (m : Int), vs = [.ref w, .int m] ∧ Well3 H w ∧ 0 < m ∧ m < 2 ^ 62 ∧ ∀ (r : Int) (H' : Hp), 0 ≤ r → r < m → Well3 H' w → But w H H' → Q (.int r) H'
def sp_law_name (K : PySem.W.Frag) (a : Ad) : Sp := fun vs H Q E => ∃ w : Addr, vs = [.ref w] ∧ Well3 H w ∧ ∀ (u : Str) (H' : Hp), goodN u → Well3 H' w → But w H H' → Q (.str u) H'
def sp_law_names (K : PySem.W.Frag) (a : Ad) : Sp := fun vs H Q E => ∃ (w : Addr) (n : Int), vs = [.ref w, .int n] ∧ 0 < n ∧ n ≤ 50 ∧ Well3 H w ∧ ∀ (p : Addr) (us : List Str) (H' : Hp), us ≠ [] → us.length ≤ n.toNat → (∀ u ∈ us, goodN u) → us.Nodup → Well3 H' w → But w H H' → H p = none → H' p = some (.lst (us.map V.str)) → Q (.ref p) H'
def sp_law_kinds (K : PySem.W.Frag) (a : Ad) : Sp := fun vs H Q E => ∃ (p : Addr) (n : Nat) (fs : List (Str × V)), vs = [.ref p] ∧ n ≤ 6 ∧ FitAt a H p n fs ∧ ∀ (q : Addr) (H' : Hp), Same H H' → H' q = some (.lst ([.bl (n == 0), .bl (n == 1), .bl (n == 2), .bl (n == 3), .bl (n == 4), .bl (n == 5), .bl (n == 6)])) → Q (.ref q) H'
def sp_law_is_kind (K : PySem.W.Frag) (a : Ad) : Sp := fun vs H Q E => ∃ (p : Addr) (n : Nat) (fs : List (Str × V)), vs = [.ref p, .int n] ∧ n ≤ 6 ∧ FitAt a H p n fs ∧ ∀ H', Same H H' → Q (.bl true) H'
def sp_law_made (K : PySem.W.Frag) (a : Ad) : Sp := fun vs H Q E => ∃ (k : Int) (x : V), vs = [.int k, x] ∧ (((k = 1 ∨ k = 2) ∧ ∃ us, GoodNm H x us ∧ ∀ r l H', Same H H' → H l = none → H' l = some (.lst (us.map V.str)) → FitAt a H' r k.toNat [("names", .ref l)] → Q (.ref r) H') ∨ ((k = 5 ∨ k = 6) ∧ ∃ rs, GoodFs K a H x rs ∧ ∀ r l H', Same H H' → H l = none → H' l = some (.lst rs) → FitAt a H' r k.toNat [("fits", .ref l)] → Q (.ref r) H') ∨ (BadT K a H k x ∧ ∀ H', Same H H' → E (.ref a.NoFit) none H'))
def sp_law_refused (K : PySem.W.Frag) (a : Ad) : Sp := fun vs H Q E => ∃ (k : Int) (x : V), vs = [.int k, x] ∧ BadT K a H k x ∧ ∀ H', Same H H' → Q (.bl true) H'
def sp_law_odd (K : PySem.W.Frag) (a : Ad) : Sp := fun vs H Q E => ∃ (k n : Int) (np fp w0 : Addr) (us : List Str) (fs : List (Str × V)), vs = [.int k, .ref np, .int n, .ref fp] ∧ 1 ≤ k ∧ k ≤ 6 ∧ 0 ≤ n ∧ n < 1000000 ∧ H np = some (.lst (us.map V.str)) ∧ us ≠ [] ∧ us.length ≤ 6 ∧ (∀ u ∈ us, goodN u) ∧ FitAt a H fp 4 fs ∧ Well3 H w0 ∧ np ≠ w0 ∧ ∀ (p : Addr) (xs : List V) (H' : Hp), Same H H' → H p = none → H' p = some (.lst xs) → 0 < xs.length → xs.length ≤ 100 → (∀ x ∈ xs, BadT K a H' k x ∧ x ≠ .ref w0) → Q (.ref p) H'
def sp_law_named (K : PySem.W.Frag) (a : Ad) : Sp := fun vs H Q E => ∃ (k : Int) (np : Addr) (us : List Str), vs = [.int k, .ref np] ∧ (k = 1 ∨ k = 2) ∧ GoodNm H (.ref np) us ∧ ∀ H', Same H H' → Q (.bl true) H'
def sp_law_several (K : PySem.W.Frag) (a : Ad) : Sp := fun vs H Q E => ∃ (k : Int) (wp : Addr) (ns : List Int), vs = [.int k, .ref wp] ∧ (k = 5 ∨ k = 6) ∧ H wp = some (.lst (ns.map V.int)) ∧ 2 ≤ ns.length ∧ ns.length ≤ 50 ∧ (∀ n ∈ ns, 0 ≤ n) ∧ ∀ H', Same H H' → Q (.bl true) H'
def spL (K : PySem.W.Frag) : Sp := fun vs H Q _ => ∃ (a : Addr) (ns : List Int), vs = [.ref a] ∧ SqL K H a (ns.map V.int) ∧ ns.length ≤ 63 ∧ ∀ H', Q (.bl true) H'
abbrev sp_law (K : PySem.W.Frag) (_ : Ad) : Sp := spL K
section
variable {P : Program} {w : World} {K : PySem.W.Frag} {mg : Str → Option Value} {base : Heap} {f : Addr} {fd : FuncData} {a : Ad}
theorem drw3 {H : Hp} {w : Addr} {m : Int} {Q : VK} {E : XK} (W : Well3 H w) (h0 : 0 < m) (h1 : m < 2 ^ 62) (q : ∀ (r : Int) (H' : Hp), 0 ≤ r → r < m → Well3 H' w → But w H H' → Q (.int r) H') : sp_law_next K a [.ref w, .int m] H Q E := ⟨w, m, rfl, W, h0, h1, q⟩
theorem ok_is_whole (B : Bt K mg a)  (F : Fun K "is_whole" "is_whole" s_is_whole f fd) : FnOk P w K mg base CX0 1 f fd ["thing"] (sp_is_whole K a) := by
  refine F.ok sc_is_whole (fun vs H Q E h => ?_) (fun cdv A outer s H vs Q E hr h => ?_)
  · obtain ⟨x, rfl, _⟩ := h
    rfl
  obtain ⟨x, rfl, ⟨t, ty, ki, kb⟩, q⟩ := h
  refine ⟨_, (pss_of (qss_one (qs_ret (qe_of (pe_and (pe_callB (isiG_at (K := K) (T := "int") rfl) rfl B.isinstance PyProof.Rows.boot_isinstance (pa_of (qa_c (pv 0) (qa_c (pe_bltn (v := .ty "int") rfl B.int PyProof.Rows.boot_int rfl) qa_nil))) (he := star_plain _ _ _ rfl) (hpl := plain_any rfl)) (pe_one (pe_not (pe_callB (isiG_at (K := K) (T := "bool") rfl) rfl B.isinstance PyProof.Rows.boot_isinstance (pa_of (qa_c (pv 0) (qa_c (pe_bltn (v := .ty "bool") rfl B.bool PyProof.Rows.boot_bool rfl) qa_nil))) (he := star_plain _ _ _ rfl) (hpl := plain_any rfl))))))))), ?_⟩
  walk_at "w0"
  refine ⟨x, t, _, rfl, ty, ki, ?_⟩
  walk_at "w0"
  cases x <;> try simp only [isIntV, wholeV, w_seq, w_next, w_ifS, w_ret, w_retN, w_drop, w_asg, w_gName, w_gSub, w_var, w_c, w_op, w_un, w_rU, w_rI0, w_rI, w_test, w_b, w_and, w_or, w_not, w_andV, w_orV, w_notV, w_if, w_cons, w_nil, w_tup, w_lst, w_call, w_cB, w_eq, w_ne, w_isN, w_notN, w_chain, w_sl, w_part, w_noPart, w_forL, w_for1, w_for2, w_K, w_for3, w_isnotB, w_raise, w_try, w_KX, w_cut, w_compL, w_comp1, w_comp2, w_yes, w_pick0, w_pickN, w_pickS, w_bm, w_bm0, w_tyS, w_addS, w_slS, w_blkK, w_strs, w_methD, w_makeN, w_make, w_fld, w_gTup, w_gCons, w_gNil, w_sFld, w_compS, w_tryB, w_bmake, w_noKeys, w_nev, w_never, Option.getD_some,  exists_const, false_or, or_false, exists_false, w_s1, w_s2, w_s3, w_s4, w_s5, L2.start, List.map_cons, List.map_nil, List.length_cons, List.length_nil, List.replicate, List.replicate_zero, List.replicate_succ, Nat.reduceAdd, Nat.reduceSub, Nat.reduceLeDiff, List.cons_append, List.nil_append, List.append_nil, List.set_cons_zero, List.set_cons_succ, List.getElem?_cons_zero, List.getElem?_cons_succ, Option.some.injEq, V.int.injEq, V.bl.injEq, V.ref.injEq, V.str.injEq, V.ty.injEq, List.cons.injEq, and_true, true_and, exists_eq_left, exists_eq_left', exists_and_left, exists_eq, exists_eq', and_self, decide_eq_true_eq, Bool.not_eq_true', decide_eq_false_iff_not, Bool.true_eq_false, Bool.false_eq_true, if_true, if_false, ite_true, ite_false, false_and, and_false, and_assoc, reduceCtorEq] at * <;> first | exact q | exact ⟨_, t, _, rfl, ty, kb, q⟩ | (refine ⟨_, t, _, rfl, ty, kb, ?_⟩; simpa [isBoolV] using q)
theorem ok_is_whole_from (B : Bt K mg a) (C_is_whole : CalX P w K mg base "is_whole" ["thing"] 1 (sp_is_whole K a)) (F : Fun K "is_whole_from" "is_whole_from" s_is_whole_from f fd) : FnOk P w K mg base CX0 2 f fd ["thing", "least"] (sp_is_whole_from K a) := by
  refine F.ok sc_is_whole_from (fun vs H Q E h => ?_) (fun cdv A outer s H vs Q E hr h => ?_)
  · obtain ⟨x, lo, rfl, _⟩ := h
    rfl
  obtain ⟨x, lo, rfl, ox, q⟩ := h
  refine ⟨_, (pss_of (qss_one (qs_ret (qe_of (pe_and (pe_calN C_is_whole (hr.mono (by decide)) rfl (pa_of (qa_c (pv 0) qa_nil)) (he := star_plain _ _ _ rfl) (hpl := plain_any rfl)) (pe_one (pe_cmpR op_le (pv 1) (pv 0) (nomark _)))))))), ?_⟩
  walk_at "w0"
  refine ⟨x, rfl, ox, ?_⟩
  cases x <;> simp_all [wholeV, fromV]
theorem ok_is_name (B : Bt K mg a)  (F : Fun K "is_name" "is_name" s_is_name f fd) : FnOk P w K mg base CX0 1 f fd ["thing"] (sp_is_name K a) := by
  refine F.ok sc_is_name (fun vs H Q E h => ?_) (fun cdv A outer s H vs Q E hr h => ?_)
  · obtain ⟨x, rfl, _⟩ := h
    rfl
  obtain ⟨x, rfl, ox, q⟩ := h
  refine ⟨_, (pss_of (qss_cons (qs_if (L2.PW.pt (pw_or (pt_not (pt_val (pe_callB call_isi_str rfl B.isinstance PyProof.Rows.boot_isinstance (pa_of (qa_c (pv 0) (qa_c (pe_bltn (v := .ty "str") rfl B.str PyProof.Rows.boot_str rfl) qa_nil))) (he := star_plain _ _ _ rfl) (hpl := plain_any rfl)))) (pw_or (pt_cmpR op_lt (pe_callB call_len_str rfl B.len PySem.boot_len (pa_of (qa_c (pv 0) qa_nil))) pe_int (nomark _)) (pw_or1 (pt_cmpR op_gt (pe_callB call_len_str rfl B.len PySem.boot_len (pa_of (qa_c (pv 0) qa_nil))) (pe_glob (v := .int 8) rfl B.MOST_LETTERS ⟨_, rfl⟩) (nomark _)))))) (qss_one (qs_ret (qe_of pe_bl))) qss_nil) (qss_one (qs_ret (qe_of (pe_callB (call_all rfl) rfl B.all PyProof.Rows.boot_all (pa_of (qa_c (pe_compB ["sign"] [none] rfl (by kernel_rfl) (pi_str (pv 0)) (fun cl C s H fp => ⟨(pg_name (i := 0) (by decide : List.Nodup (["sign"] : List Str)) rfl (Or.inl (by kernel_rfl)) (Or.inr (by kernel_rfl))), pts_nil, (pe_cmpR op_in_str (pv 0 (hv := Or.inl (by kernel_rfl))) (pe_glob (v := .str "abcdefghijklmnopqrstuvwxyz") (gl_of (by kernel_rfl)) B.LETTERS ⟨_, rfl⟩) (by with_unfolding_all rfl))⟩)) qa_nil)) (he := star_plain _ _ _ rfl) (hpl := plain_any rfl))))))), ?_⟩
  cases x with
  | str u =>
    obtain ⟨hp, hl⟩ := id ox
    walk_at "w3"
    refine ⟨ox, sz8 hl, ?_⟩
    by_cases h1 : ((u.length : Nat) : Int) < 1
    · rw [if_pos h1]
      have e : nameB (.str u) = false := decide_eq_false fun g => by have := g.1; omega
      rw [e] at q
      exact q _ fun _ _ z => z
    rw [if_neg h1]
    refine ⟨sz8 hl, ?_⟩
    by_cases h2 : (8 : Int) < ((u.length : Nat) : Int)
    · rw [if_pos h2]
      have e : nameB (.str u) = false := decide_eq_false fun g => by have := g.2.1; omega
      rw [e] at q
      exact q _ fun _ _ z => z
    rw [if_neg h2]
    refine ⟨hp, ?_⟩
    refine CompS.by (fun i acc σ H' => acc = (u.cps.toList.take i).map (fun c => V.bl (!(Builtin.Str.occurrences letters ⟨#[c]⟩ 0 letters.length 1).isEmpty)) ∧ (∃ v, σ = [v]) ∧ H' = H) (sz8 hl) ⟨rfl, ⟨_, rfl⟩, rfl⟩ ?_ ?_ ?_
    · rintro i c acc σ H' hc ⟨rfl, ⟨v, rfl⟩, rfl⟩
      have hc' : u.cps.toList[i]? = some c := by simpa using hc
      have ea : (u.cps.toList.take i).map (fun c => V.bl (!(Builtin.Str.occurrences letters ⟨#[c]⟩ 0 letters.length 1).isEmpty)) ++ [V.bl (!(Builtin.Str.occurrences letters ⟨#[c]⟩ 0 letters.length 1).isEmpty)] = (u.cps.toList.take (i + 1)).map (fun c => V.bl (!(Builtin.Str.occurrences letters ⟨#[c]⟩ 0 letters.length 1).isEmpty)) := by
        rw [List.take_succ, hc', List.map_append]
        rfl
      walk_at "w0"
      first | exact ea | exact ⟨ea, ⟨_, rfl⟩, rfl⟩
    · rintro i acc σ H' ⟨rfl, _, _⟩
      rw [List.length_map, List.length_take]
      omega
    · rintro acc σ H' ⟨rfl, ⟨v, rfl⟩, rfl⟩ D hD
      have e : (u.cps.toList.take u.cps.size).map (fun c => V.bl (!(Builtin.Str.occurrences letters ⟨#[c]⟩ 0 letters.length 1).isEmpty)) = (u.cps.toList.map fun c => !(Builtin.Str.occurrences letters ⟨#[c]⟩ 0 letters.length 1).isEmpty).map V.bl := by
        rw [List.take_of_length_le (by simp), List.map_map]
        rfl
      rw [e]
      refine ⟨D, rfl, _, SqL.of upd_same, ?_⟩
      have e2 : nameB (.str u) = decide (∀ c ∈ u.cps.toList, 97 ≤ c ∧ c ≤ 122) := by
        rw [Bool.eq_iff_iff]
        refine ⟨fun g => ?_, fun g => ?_⟩
        · have g' : goodN u := of_decide_eq_true g
          exact decide_eq_true g'.2.2
        · exact decide_eq_true (p := goodN u) ⟨by omega, by omega, of_decide_eq_true g⟩
      rw [name_all hp, ← e2]
      exact q _ (same_new hD _)
  | non =>
    walk_at "w3"
    exact ⟨ox, q _ fun _ _ z => z⟩
  | bl b =>
    walk_at "w3"
    exact ⟨ox, q _ fun _ _ z => z⟩
  | int b =>
    walk_at "w3"
    exact ⟨ox, q _ fun _ _ z => z⟩
  | ref b =>
    walk_at "w3"
    exact ⟨ox, q _ fun _ _ z => z⟩
  | _ => exact ox.elim
theorem ok_law_begin (B : Bt K mg a)  (F : Fun K "_law_begin" "_law_begin" s_law_begin f fd) : FnOk P w K mg base CX0 1 f fd ["_law_cell"] (sp_law_begin K a) := by
  refine F.ok sc_law_begin (fun vs H Q E h => ?_) (fun cdv A outer s H vs Q E hr h => ?_)
  · obtain ⟨c, rfl, _⟩ := h
    rfl
  obtain ⟨c, rfl, q⟩ := h
  refine ⟨_, (pss_of (qss_one (qs_ret (qe_lst (qa_c (pe_op op_mul (pe_op op_fdivL (pv 0) pe_int) (pe_op op_sub pe_int (pe_op op_mod (pv 0) pe_int))) (qa_c (pe_op op_mod (pv 0) pe_int) (qa_c pe_int qa_nil))))))), ?_⟩
  walk_at "w0"
  exact ⟨⟨by decide, by decide⟩, by decide, .inr ⟨by omega, by omega⟩, by decide, by decide, fun p hp => q p _ _ _ hp⟩
theorem ok_law_next (B : Bt K mg a)  (F : Fun K "_law_next" "_law_next" s_law_next f fd) : FnOk P w K mg base CX0 1 f fd ["_law_state", "_law_base"] (sp_law_next K a) := by
  refine F.ok sc_law_next (fun vs H Q E h => ?_) (fun cdv A outer s H vs Q E hr h => ?_)
  · obtain ⟨wl, m, rfl, _⟩ := h
    rfl
  obtain ⟨wl, m, rfl, ⟨a, b, c, hw⟩, m0, m1, q⟩ := h
  refine ⟨_, (pss_of (qss_cons (qs_if (pt_cmpR op_gt (pe_ix ix_list (pv 0) pe_int (fun _ _ => rfl)) pe_int (nomark _)) (qss_cons (qs_set (i := 2) sc_law_next.nd rfl (Or.inl rfl) (qe_of (pe_op op_mod (pe_ix ix_list (pv 0) pe_int (fun _ _ => rfl)) (pv 1))) (by kernel_rfl)) (qss_cons (qs_of (ps_asg (pe_op op_fdivL (pe_ix ix_list (pv 0) pe_int (fun _ _ => rfl)) (pv 1)) (pg_sub (pv 0) pe_int set_list))) (qss_one (qs_ret (qe_of (pv 2)))))) qss_nil) (qss_cons (qs_of (ps_asg (pe_op op_add (pe_ix ix_list (pv 0) pe_int (fun _ _ => rfl)) pe_int) (pg_sub (pv 0) pe_int set_list))) (qss_cons (qs_set (i := 3) sc_law_next.nd rfl (Or.inl rfl) (qe_of (pe_op op_mod (pe_op op_mul (pe_op op_add (pe_op op_add (pe_ix ix_list (pv 0) pe_int (fun _ _ => rfl)) (pe_op op_mul pe_int (pe_ix ix_list (pv 0) pe_int (fun _ _ => rfl)))) pe_int) pe_int) pe_int)) (by kernel_rfl)) (qss_cons (qs_set (i := 3) sc_law_next.nd rfl (Or.inl rfl) (qe_of (pe_op op_mod (pe_op op_mul (pv 3) (pe_op op_add (pe_op op_fdivL (pv 3) pe_int) pe_int)) pe_int)) (by kernel_rfl)) (qss_cons (qs_set (i := 3) sc_law_next.nd rfl (Or.inl rfl) (qe_of (pe_op op_mod (pe_op op_mul (pv 3) (pe_op op_add (pe_op op_fdivL (pv 3) pe_int) pe_int)) pe_int)) (by kernel_rfl)) (qss_one (qs_ret (qe_of (pe_op op_mod (pe_op op_fdivL (pv 3) pe_int) (pv 1))))))))))), ?_⟩
  have em : ∀ x k : Int, 0 < k → 0 ≤ x % k ∧ x % k < k := fun x k h => ⟨Int.emod_nonneg _ (by omega), Int.emod_lt_of_pos _ h⟩
  walk_at "w0"
  refine ixl (SqL.of hw) (v := .int a) rfl ?_
  walk_at "w0"
  split
  · refine ixl (SqL.of hw) (v := .int a) rfl ?_
    walk_at "w0"
    refine ⟨m0, ?_⟩
    refine ixl (SqL.of hw) (v := .int a) rfl ?_
    walk_at "w0"
    refine ⟨⟨m0, m1⟩, ?_⟩
    refine setl hw (j := 0) rfl ?_
    exact q _ _ (em a m m0).1 (em a m m0).2 ⟨_, _, _, upd_same⟩ (But.upd _)
  · refine ixl (SqL.of hw) (v := .int c) rfl ?_
    walk_at "w0"
    refine setl hw (j := 2) rfl ?_
    refine ixl (SqL.of upd_same) (v := .int b) rfl ?_
    refine ixl (SqL.of upd_same) (v := .int (c + 1)) rfl ?_
    walk_at "w0"
    generalize hn1 : (b + 7919 * (c + 1) + 1) * 48271 % 2147483647 = n1
    have b1 : 0 ≤ n1 ∧ n1 < 2147483647 := hn1 ▸ em _ _ (by decide)
    generalize hn2 : n1 * (n1 / 1009 + 69621) % 2147483647 = n2
    have b2 : 0 ≤ n2 ∧ n2 < 2147483647 := hn2 ▸ em _ _ (by decide)
    refine ⟨.inl ⟨by decide, by decide⟩, .inr ⟨by decide, by decide⟩, by decide, ⟨by decide, by decide⟩, .inl ⟨by omega, by omega⟩, by decide, ⟨by decide, by decide⟩, .inl ⟨by omega, by omega⟩, by decide, ⟨by decide, by decide⟩, m0, ?_⟩
    exact q _ _ (em _ m m0).1 (em _ m m0).2 ⟨_, _, _, upd_same⟩ (But.upd _)
theorem ok_check_fit (B : Bt K mg a)  (F : Fun K "check_fit" "check_fit" s_check_fit f fd) : FnOk P w K mg base (CXF P w) 1 f fd ["fit"] (sp_check_fit K a) := by
  refine Fun.okX F sc_check_fit (fun vs H Q E h => ?_) (fun cdv A outer s H vs Q E hr h => ?_)
  · obtain ⟨x, rfl, _⟩ := h
    rfl
  obtain ⟨x, rfl, h⟩ := h
  refine ⟨_, (pss_of (qss_one (qs_if (pt_not (pt_val (pe_callB (isiV_at (K := K) rfl) rfl B.isinstance PyProof.Rows.boot_isinstance (pa_of (qa_c (pv 0) (qa_c (pe_glob (v := .ref _) rfl B.Fit rfl) qa_nil))) (he := star_plain _ _ _ rfl) (hpl := plain_any rfl)))) (qss_of (pss_one (ps_raise (R := fun H9 => E (.ref a.NoFit) none H9) rfl rfl B.NoFit B.exc_NoFit (fun _ _ _ _ _ _ _ I hx hE => raiseX I hx hE)))) qss_nil))), ?_⟩
  walk_at "w0"
  rcases h with ⟨⟨t, ty, e⟩, q⟩ | ⟨⟨t, ty, e⟩, q⟩
  · refine ⟨x, _, t, true, rfl, ty, e, ?_⟩
    walk_at "w1"
    exact q
  · refine ⟨x, _, t, false, rfl, ty, e, ?_⟩
    walk_at "w4"
    exact q
theorem ok_Least___init__ (B : Bt K mg a) (C_is_whole_from : CalX P w K mg base "is_whole_from" ["thing", "least"] 2 (sp_is_whole_from K a)) (F : Fun K "__init__" "Least.__init__" s_Least___init__ f fd) : FnOk P w K mg base (CXF P w) 3 f fd ["self", "weight"] (sp_Least___init__ K a) := by
  refine Fun.okX F sc_Least___init__ (fun vs H Q E h => ?_) (fun cdv A outer s H vs Q E hr h => ?_)
  · obtain ⟨p, dx, x, rfl, _⟩ := h
    rfl
  obtain ⟨p, dx, x, rfl, hp, ox, h⟩ := h
  refine ⟨_, (pss_of (qss_cons (qs_if (pt_not (pt_val (pe_calX C_is_whole_from (hr.mono (by decide)) rfl (pa_of (qa_c (pv 1) (qa_c pe_int qa_nil))) (he := star_plain _ _ _ rfl) (hpl := plain_any rfl)))) (qss_of (pss_one (ps_raise (R := fun H9 => E (.ref a.NoFit) none H9) rfl rfl B.NoFit B.exc_NoFit (fun _ _ _ _ _ _ _ I hx hE => raiseX I hx hE)))) qss_nil) (qss_one (qs_of (ps_fld (pv 0) (pv 1) rfl))))), ?_⟩
  walk_at "w0"
  refine ⟨_, _, rfl, ox, ?_⟩
  rcases h with ⟨n, rfl, n0, q⟩ | ⟨hb, q⟩
  · have e : fromV (.int n) 0 = true := decide_eq_true n0
    try simp only [e, w_seq, w_next, w_ifS, w_ret, w_retN, w_drop, w_asg, w_gName, w_gSub, w_var, w_c, w_op, w_un, w_rU, w_rI0, w_rI, w_test, w_b, w_and, w_or, w_not, w_andV, w_orV, w_notV, w_if, w_cons, w_nil, w_tup, w_lst, w_call, w_cB, w_eq, w_ne, w_isN, w_notN, w_chain, w_sl, w_part, w_noPart, w_forL, w_for1, w_for2, w_K, w_for3, w_isnotB, w_raise, w_try, w_KX, w_cut, w_compL, w_comp1, w_comp2, w_yes, w_pick0, w_pickN, w_pickS, w_bm, w_bm0, w_tyS, w_addS, w_slS, w_blkK, w_strs, w_methD, w_makeN, w_make, w_fld, w_gTup, w_gCons, w_gNil, w_sFld, w_compS, w_tryB, w_bmake, w_noKeys, w_nev, w_never, Option.getD_some,  exists_const, false_or, or_false, exists_false, w_s1, w_s2, w_s3, w_s4, w_s5, L2.start, List.map_cons, List.map_nil, List.length_cons, List.length_nil, List.replicate, List.replicate_zero, List.replicate_succ, Nat.reduceAdd, Nat.reduceSub, Nat.reduceLeDiff, List.cons_append, List.nil_append, List.append_nil, List.set_cons_zero, List.set_cons_succ, List.getElem?_cons_zero, List.getElem?_cons_succ, Option.some.injEq, V.int.injEq, V.bl.injEq, V.ref.injEq, V.str.injEq, V.ty.injEq, List.cons.injEq, and_true, true_and, exists_eq_left, exists_eq_left', exists_and_left, exists_eq, exists_eq', and_self, decide_eq_true_eq, Bool.not_eq_true', decide_eq_false_iff_not, Bool.true_eq_false, Bool.false_eq_true, if_true, if_false, ite_true, ite_false, false_and, and_false, and_assoc, reduceCtorEq]
    exact ⟨_, _, _, hp, B.ck_Least.cl, B.na_Least_weight, by decide, q⟩
  · try simp only [hb, w_seq, w_next, w_ifS, w_ret, w_retN, w_drop, w_asg, w_gName, w_gSub, w_var, w_c, w_op, w_un, w_rU, w_rI0, w_rI, w_test, w_b, w_and, w_or, w_not, w_andV, w_orV, w_notV, w_if, w_cons, w_nil, w_tup, w_lst, w_call, w_cB, w_eq, w_ne, w_isN, w_notN, w_chain, w_sl, w_part, w_noPart, w_forL, w_for1, w_for2, w_K, w_for3, w_isnotB, w_raise, w_try, w_KX, w_cut, w_compL, w_comp1, w_comp2, w_yes, w_pick0, w_pickN, w_pickS, w_bm, w_bm0, w_tyS, w_addS, w_slS, w_blkK, w_strs, w_methD, w_makeN, w_make, w_fld, w_gTup, w_gCons, w_gNil, w_sFld, w_compS, w_tryB, w_bmake, w_noKeys, w_nev, w_never, Option.getD_some,  exists_const, false_or, or_false, exists_false, w_s1, w_s2, w_s3, w_s4, w_s5, L2.start, List.map_cons, List.map_nil, List.length_cons, List.length_nil, List.replicate, List.replicate_zero, List.replicate_succ, Nat.reduceAdd, Nat.reduceSub, Nat.reduceLeDiff, List.cons_append, List.nil_append, List.append_nil, List.set_cons_zero, List.set_cons_succ, List.getElem?_cons_zero, List.getElem?_cons_succ, Option.some.injEq, V.int.injEq, V.bl.injEq, V.ref.injEq, V.str.injEq, V.ty.injEq, List.cons.injEq, and_true, true_and, exists_eq_left, exists_eq_left', exists_and_left, exists_eq, exists_eq', and_self, decide_eq_true_eq, Bool.not_eq_true', decide_eq_false_iff_not, Bool.true_eq_false, Bool.false_eq_true, if_true, if_false, ite_true, ite_false, false_and, and_false, and_assoc, reduceCtorEq]
    exact q
theorem ok_Not___init__ (B : Bt K mg a) (C_check_fit : CalX P w K mg base "check_fit" ["fit"] 1 (sp_check_fit K a)) (F : Fun K "__init__" "Not.__init__" s_Not___init__ f fd) : FnOk P w K mg base (CXF P w) 2 f fd ["self", "fit"] (sp_Not___init__ K a) := by
  refine Fun.okX F sc_Not___init__ (fun vs H Q E h => ?_) (fun cdv A outer s H vs Q E hr h => ?_)
  · obtain ⟨p, dx, x, rfl, _⟩ := h
    rfl
  obtain ⟨p, dx, x, rfl, hp, h⟩ := h
  refine ⟨_, (pss_of (qss_cons (qs_of (ps_expr (pe_calX C_check_fit (hr.mono (by decide)) rfl (pa_of (qa_c (pv 1) qa_nil)) (he := star_plain _ _ _ rfl) (hpl := plain_any rfl)))) (qss_one (qs_of (ps_fld (pv 0) (pv 1) rfl))))), ?_⟩
  walk_at "w0"
  rcases h with ⟨o, q⟩ | ⟨o, q⟩
  · refine ⟨x, rfl, .inl ⟨o, ?_⟩⟩
    walk_at "w0"
    exact ⟨_, _, _, hp, B.ck_Not.cl, B.na_Not_fit, by decide, q⟩
  · exact ⟨x, rfl, .inr ⟨o, q⟩⟩
theorem ok_are_unlike_names (B : Bt K mg a) (C_is_name : CalX P w K mg base "is_name" ["thing"] 1 (sp_is_name K a)) (F : Fun K "are_unlike_names" "are_unlike_names" s_are_unlike_names f fd) : FnOk P w K mg base CX0 2 f fd ["thing"] (sp_are_unlike_names K a) := by
  refine F.ok sc_are_unlike_names (fun vs H Q E h => ?_) (fun cdv A outer s H vs Q E hr h => ?_)
  · obtain ⟨x, b, rfl, _⟩ := h
    rfl
  obtain ⟨x, b, rfl, hx, q⟩ := h
  refine ⟨_, (pss_of (qss_cons (qs_if (L2.PW.pt (pw_or (pt_not (pt_val (pe_callB (isiG_at (K := K) (T := "list") rfl) rfl B.isinstance PyProof.Rows.boot_isinstance (pa_of (qa_c (pv 0) (qa_c (pe_bltn (v := .ty "list") rfl B.list PyProof.Rows.boot_list rfl) qa_nil))) (he := star_plain _ _ _ rfl) (hpl := plain_any rfl)))) (pw_or1 (pt_not (pt_val (pe_callB (call_all rfl) rfl B.all PyProof.Rows.boot_all (pa_of (qa_c (pe_compB ["name"] [none] rfl (by kernel_rfl) (pi_list (pv 0)) (fun cl C s H fp => ⟨(pg_name (i := 0) (by decide : List.Nodup (["name"] : List Str)) rfl (Or.inl (by kernel_rfl)) (Or.inr (by kernel_rfl))), pts_nil, (pe_calN C_is_name (hr.mono (by decide)) (gl_of (by kernel_rfl)) (pa_of (qa_c (pv 0 (hv := Or.inl (by kernel_rfl))) qa_nil)) (he := star_plain _ _ _ rfl) (hpl := plain_any rfl))⟩)) qa_nil)) (he := star_plain _ _ _ rfl) (hpl := plain_any rfl))))))) (qss_one (qs_ret (qe_of pe_bl))) qss_nil) (qss_one (qs_ret (qe_of (pe_cmpR op_eq (pe_callB call_lenS rfl B.len PySem.boot_len (pa_of (qa_c (pe_callTy (call_setS rfl) rfl B.set PyProof.Rows.boot_set (pa_of (qa_c (pv 0) qa_nil))) qa_nil))) (pe_callB call_len_seq rfl B.len PySem.boot_len (pa_of (qa_c (pv 0) qa_nil))) (nomark _))))))), ?_⟩
  walk_at "w0"
  rcases hx with ⟨p, xs, rfl, hp, hl, hn, rfl⟩ | ⟨rfl, t, ty, e⟩
  · refine ⟨_, _, true, rfl, .lst hp, by kernel_rfl, ?_⟩
    walk_at "w1"
    refine ⟨⟨xs, SqL.of hp⟩, ?_⟩
    refine CompL.by (xs := xs) (fun i acc σ H' => acc = ((xs.take i).map nameB).map V.bl ∧ (∃ v, σ = [v]) ∧ Same H H') (sz8 (by omega)) ⟨rfl, ⟨_, rfl⟩, fun _ _ z => z⟩ (fun i acc σ H' _ h => SqL.of (h.2.2 _ _ hp)) ?_ ?_ ?_
    · rintro i y acc σ H' hy ⟨rfl, ⟨v, rfl⟩, S1⟩
      have ea : ((xs.take i).map nameB).map V.bl ++ [V.bl (nameB y)] = ((xs.take (i + 1)).map nameB).map V.bl := by
        rw [List.take_succ, hy, List.map_append, List.map_append]
        rfl
      walk_at "w0"
      refine ⟨y, rfl, (hn y (List.mem_of_getElem? hy)).same S1, fun H2 S2 => ?_⟩
      first | exact ⟨ea, ⟨_, rfl⟩, S1.trans S2⟩ | exact ⟨ea, S1.trans S2⟩
    · rintro i acc σ H' ⟨rfl, _, _⟩
      rw [List.length_map, List.length_map, List.length_take]
      omega
    · rintro acc σ H' ⟨rfl, ⟨v, rfl⟩, S1⟩ D hD
      rw [List.take_length]
      have S2 := S1.trans (same_new hD (.lst ((xs.map nameB).map V.bl)))
      refine ⟨D, rfl, _, SqL.of upd_same, ?_⟩
      have eall : (xs.map nameB).all id = xs.all nameB := by rw [List.all_map]; rfl
      rw [eall]
      generalize upd H' D (.lst ((xs.map nameB).map V.bl)) = H2 at *
      by_cases ha : xs.all nameB = true
      · try simp only [ha, Bool.not_true, w_seq, w_next, w_ifS, w_ret, w_retN, w_drop, w_asg, w_gName, w_gSub, w_var, w_c, w_op, w_un, w_rU, w_rI0, w_rI, w_test, w_b, w_and, w_or, w_not, w_andV, w_orV, w_notV, w_if, w_cons, w_nil, w_tup, w_lst, w_call, w_cB, w_eq, w_ne, w_isN, w_notN, w_chain, w_sl, w_part, w_noPart, w_forL, w_for1, w_for2, w_K, w_for3, w_isnotB, w_raise, w_try, w_KX, w_cut, w_compL, w_comp1, w_comp2, w_yes, w_pick0, w_pickN, w_pickS, w_bm, w_bm0, w_tyS, w_addS, w_slS, w_blkK, w_strs, w_methD, w_makeN, w_make, w_fld, w_gTup, w_gCons, w_gNil, w_sFld, w_compS, w_tryB, w_bmake, w_noKeys, w_nev, w_never, Option.getD_some,  exists_const, false_or, or_false, exists_false, w_s1, w_s2, w_s3, w_s4, w_s5, L2.start, List.map_cons, List.map_nil, List.length_cons, List.length_nil, List.replicate, List.replicate_zero, List.replicate_succ, Nat.reduceAdd, Nat.reduceSub, Nat.reduceLeDiff, List.cons_append, List.nil_append, List.append_nil, List.set_cons_zero, List.set_cons_succ, List.getElem?_cons_zero, List.getElem?_cons_succ, Option.some.injEq, V.int.injEq, V.bl.injEq, V.ref.injEq, V.str.injEq, V.ty.injEq, List.cons.injEq, and_true, true_and, exists_eq_left, exists_eq_left', exists_and_left, exists_eq, exists_eq', and_self, decide_eq_true_eq, Bool.not_eq_true', decide_eq_false_iff_not, Bool.true_eq_false, Bool.false_eq_true, if_true, if_false, ite_true, ite_false, false_and, and_false, and_assoc, reduceCtorEq]
        have es := all_str ha
        have hz : (xs.map strV).length = xs.length := List.length_map ..
        refine ⟨xs.map strV, by rw [← es]; exact SqL.of (S2 _ _ hp), by omega, fun p3 h3 => ?_⟩
        have S3 := same_new h3 (hoSet P w p3 (xs.map strV))
        refine ⟨xs.map strV, upd_same, ?_⟩
        walk_at "w0"
        refine ⟨xs, .inl (SqL.of (S3 _ _ (S2 _ _ hp))), ?_⟩
        walk_at "w0"
        have hq := q _ (S2.trans S3)
        have ed : namesB xs = decide ((((metS (xs.map strV)).length : Nat) : Int) = ((xs.length : Nat) : Int)) := by
          unfold namesB
          rw [ha, Bool.true_and]
          have := metS_all (xs.map strV)
          rw [hz] at this
          by_cases c : (xs.map strV).Nodup
          · rw [decide_eq_true c, decide_eq_true (by have := this.mpr c; omega)]
          · rw [decide_eq_false c, decide_eq_false (fun z => c (this.mp (by omega)))]
        rw [ed] at hq
        exact hq
      · have ha' := Bool.eq_false_iff.mpr ha
        try simp only [ha', Bool.not_false, w_seq, w_next, w_ifS, w_ret, w_retN, w_drop, w_asg, w_gName, w_gSub, w_var, w_c, w_op, w_un, w_rU, w_rI0, w_rI, w_test, w_b, w_and, w_or, w_not, w_andV, w_orV, w_notV, w_if, w_cons, w_nil, w_tup, w_lst, w_call, w_cB, w_eq, w_ne, w_isN, w_notN, w_chain, w_sl, w_part, w_noPart, w_forL, w_for1, w_for2, w_K, w_for3, w_isnotB, w_raise, w_try, w_KX, w_cut, w_compL, w_comp1, w_comp2, w_yes, w_pick0, w_pickN, w_pickS, w_bm, w_bm0, w_tyS, w_addS, w_slS, w_blkK, w_strs, w_methD, w_makeN, w_make, w_fld, w_gTup, w_gCons, w_gNil, w_sFld, w_compS, w_tryB, w_bmake, w_noKeys, w_nev, w_never, Option.getD_some,  exists_const, false_or, or_false, exists_false, w_s1, w_s2, w_s3, w_s4, w_s5, L2.start, List.map_cons, List.map_nil, List.length_cons, List.length_nil, List.replicate, List.replicate_zero, List.replicate_succ, Nat.reduceAdd, Nat.reduceSub, Nat.reduceLeDiff, List.cons_append, List.nil_append, List.append_nil, List.set_cons_zero, List.set_cons_succ, List.getElem?_cons_zero, List.getElem?_cons_succ, Option.some.injEq, V.int.injEq, V.bl.injEq, V.ref.injEq, V.str.injEq, V.ty.injEq, List.cons.injEq, and_true, true_and, exists_eq_left, exists_eq_left', exists_and_left, exists_eq, exists_eq', and_self, decide_eq_true_eq, Bool.not_eq_true', decide_eq_false_iff_not, Bool.true_eq_false, Bool.false_eq_true, if_true, if_false, ite_true, ite_false, false_and, and_false, and_assoc, reduceCtorEq]
        have hq := q _ S2
        unfold namesB at hq
        rw [ha', Bool.false_and] at hq
        exact hq
  · refine ⟨x, t, false, rfl, ty, e, ?_⟩
    walk_at "w4"
    exact q _ fun _ _ z => z
theorem ok_check_names (B : Bt K mg a) (C_are_unlike_names : CalX P w K mg base "are_unlike_names" ["thing"] 2 (sp_are_unlike_names K a)) (F : Fun K "check_names" "check_names" s_check_names f fd) : FnOk P w K mg base (CXF P w) 3 f fd ["names"] (sp_check_names K a) := by
  refine Fun.okX F sc_check_names (fun vs H Q E h => ?_) (fun cdv A outer s H vs Q E hr h => ?_)
  · obtain ⟨x, rfl, _⟩ := h
    rfl
  obtain ⟨x, rfl, h⟩ := h
  refine ⟨_, (pss_of (qss_one (qs_if (L2.PW.pt (pw_or (pt_not (pt_val (pe_calX C_are_unlike_names (hr.mono (by decide)) rfl (pa_of (qa_c (pv 0) qa_nil)) (he := star_plain _ _ _ rfl) (hpl := plain_any rfl)))) (pw_or1 (pt_cmpR op_eq (pe_callB call_len_seq rfl B.len PySem.boot_len (pa_of (qa_c (pv 0) qa_nil))) pe_int (nomark _))))) (qss_of (pss_one (ps_raise (R := fun H9 => E (.ref a.NoFit) none H9) rfl rfl B.NoFit B.exc_NoFit (fun _ _ _ _ _ _ _ I hx hE => raiseX I hx hE)))) qss_nil))), ?_⟩
  walk_at "w0"
  rcases h with ⟨us, ⟨p, rfl, hp, ne, hl, hg, nd⟩, q⟩ | ⟨h, q⟩
  · have hB : namesB (us.map V.str) = true := by
      unfold namesB
      have e1 : (us.map V.str).all nameB = true := by
        rw [List.all_map, List.all_eq_true]
        intro u hu
        exact decide_eq_true (hg u hu)
      have e2 : (us.map V.str).map strV = us := by rw [List.map_map]; exact List.map_id us
      rw [e1, e2, decide_eq_true nd]
      rfl
    have hN : ∀ y ∈ us.map V.str, okN H y := fun y hy => by
      obtain ⟨u, hu, rfl⟩ := List.mem_map.mp hy
      exact ⟨(good_sm (hg u hu)).1, by have := (good_sm (hg u hu)).2; omega⟩
    refine ⟨_, true, rfl, .inl ⟨p, _, rfl, hp, by rw [List.length_map]; omega, hN, hB.symm⟩, fun H1 S1 => ?_⟩
    walk_at "w1"
    refine ⟨_, .inl (SqL.of (S1 _ _ hp)), ?_⟩
    have l0 : us.length ≠ 0 := fun z => ne (List.eq_nil_of_length_eq_zero z)
    try simp only [List.length_map, w_seq, w_next, w_ifS, w_ret, w_retN, w_drop, w_asg, w_gName, w_gSub, w_var, w_c, w_op, w_un, w_rU, w_rI0, w_rI, w_test, w_b, w_and, w_or, w_not, w_andV, w_orV, w_notV, w_if, w_cons, w_nil, w_tup, w_lst, w_call, w_cB, w_eq, w_ne, w_isN, w_notN, w_chain, w_sl, w_part, w_noPart, w_forL, w_for1, w_for2, w_K, w_for3, w_isnotB, w_raise, w_try, w_KX, w_cut, w_compL, w_comp1, w_comp2, w_yes, w_pick0, w_pickN, w_pickS, w_bm, w_bm0, w_tyS, w_addS, w_slS, w_blkK, w_strs, w_methD, w_makeN, w_make, w_fld, w_gTup, w_gCons, w_gNil, w_sFld, w_compS, w_tryB, w_bmake, w_noKeys, w_nev, w_never, Option.getD_some,  exists_const, false_or, or_false, exists_false, w_s1, w_s2, w_s3, w_s4, w_s5, L2.start, List.map_cons, List.map_nil, List.length_cons, List.length_nil, List.replicate, List.replicate_zero, List.replicate_succ, Nat.reduceAdd, Nat.reduceSub, Nat.reduceLeDiff, List.cons_append, List.nil_append, List.append_nil, List.set_cons_zero, List.set_cons_succ, List.getElem?_cons_zero, List.getElem?_cons_succ, Option.some.injEq, V.int.injEq, V.bl.injEq, V.ref.injEq, V.str.injEq, V.ty.injEq, List.cons.injEq, and_true, true_and, exists_eq_left, exists_eq_left', exists_and_left, exists_eq, exists_eq', and_self, decide_eq_true_eq, Bool.not_eq_true', decide_eq_false_iff_not, Bool.true_eq_false, Bool.false_eq_true, if_true, if_false, ite_true, ite_false, false_and, and_false, and_assoc, reduceCtorEq]
    rw [if_neg (by omega)]
    exact q _ S1
  · rcases h with ⟨p, xs, rfl, hp, hl, hN, hb⟩ | hno
    · refine ⟨_, namesB xs, rfl, .inl ⟨p, xs, rfl, hp, hl, hN, rfl⟩, fun H1 S1 => ?_⟩
      by_cases c : namesB xs = true
      · try simp only [c, Bool.not_true, w_seq, w_next, w_ifS, w_ret, w_retN, w_drop, w_asg, w_gName, w_gSub, w_var, w_c, w_op, w_un, w_rU, w_rI0, w_rI, w_test, w_b, w_and, w_or, w_not, w_andV, w_orV, w_notV, w_if, w_cons, w_nil, w_tup, w_lst, w_call, w_cB, w_eq, w_ne, w_isN, w_notN, w_chain, w_sl, w_part, w_noPart, w_forL, w_for1, w_for2, w_K, w_for3, w_isnotB, w_raise, w_try, w_KX, w_cut, w_compL, w_comp1, w_comp2, w_yes, w_pick0, w_pickN, w_pickS, w_bm, w_bm0, w_tyS, w_addS, w_slS, w_blkK, w_strs, w_methD, w_makeN, w_make, w_fld, w_gTup, w_gCons, w_gNil, w_sFld, w_compS, w_tryB, w_bmake, w_noKeys, w_nev, w_never, Option.getD_some,  exists_const, false_or, or_false, exists_false, w_s1, w_s2, w_s3, w_s4, w_s5, L2.start, List.map_cons, List.map_nil, List.length_cons, List.length_nil, List.replicate, List.replicate_zero, List.replicate_succ, Nat.reduceAdd, Nat.reduceSub, Nat.reduceLeDiff, List.cons_append, List.nil_append, List.append_nil, List.set_cons_zero, List.set_cons_succ, List.getElem?_cons_zero, List.getElem?_cons_succ, Option.some.injEq, V.int.injEq, V.bl.injEq, V.ref.injEq, V.str.injEq, V.ty.injEq, List.cons.injEq, and_true, true_and, exists_eq_left, exists_eq_left', exists_and_left, exists_eq, exists_eq', and_self, decide_eq_true_eq, Bool.not_eq_true', decide_eq_false_iff_not, Bool.true_eq_false, Bool.false_eq_true, if_true, if_false, ite_true, ite_false, false_and, and_false, and_assoc, reduceCtorEq]
        have e0 : xs = [] := by
          rcases hb with hb | hb
          · rw [c] at hb; cases hb
          · exact hb
        refine ⟨xs, .inl (SqL.of (S1 _ _ hp)), ?_⟩
        subst e0
        walk_at "w0"
        exact q _ S1
      · have c' := Bool.eq_false_iff.mpr c
        try simp only [c', Bool.not_false, w_seq, w_next, w_ifS, w_ret, w_retN, w_drop, w_asg, w_gName, w_gSub, w_var, w_c, w_op, w_un, w_rU, w_rI0, w_rI, w_test, w_b, w_and, w_or, w_not, w_andV, w_orV, w_notV, w_if, w_cons, w_nil, w_tup, w_lst, w_call, w_cB, w_eq, w_ne, w_isN, w_notN, w_chain, w_sl, w_part, w_noPart, w_forL, w_for1, w_for2, w_K, w_for3, w_isnotB, w_raise, w_try, w_KX, w_cut, w_compL, w_comp1, w_comp2, w_yes, w_pick0, w_pickN, w_pickS, w_bm, w_bm0, w_tyS, w_addS, w_slS, w_blkK, w_strs, w_methD, w_makeN, w_make, w_fld, w_gTup, w_gCons, w_gNil, w_sFld, w_compS, w_tryB, w_bmake, w_noKeys, w_nev, w_never, Option.getD_some,  exists_const, false_or, or_false, exists_false, w_s1, w_s2, w_s3, w_s4, w_s5, L2.start, List.map_cons, List.map_nil, List.length_cons, List.length_nil, List.replicate, List.replicate_zero, List.replicate_succ, Nat.reduceAdd, Nat.reduceSub, Nat.reduceLeDiff, List.cons_append, List.nil_append, List.append_nil, List.set_cons_zero, List.set_cons_succ, List.getElem?_cons_zero, List.getElem?_cons_succ, Option.some.injEq, V.int.injEq, V.bl.injEq, V.ref.injEq, V.str.injEq, V.ty.injEq, List.cons.injEq, and_true, true_and, exists_eq_left, exists_eq_left', exists_and_left, exists_eq, exists_eq', and_self, decide_eq_true_eq, Bool.not_eq_true', decide_eq_false_iff_not, Bool.true_eq_false, Bool.false_eq_true, if_true, if_false, ite_true, ite_false, false_and, and_false, and_assoc, reduceCtorEq]
        exact q _ S1
    · refine ⟨x, false, rfl, .inr ⟨rfl, hno⟩, fun H1 S1 => ?_⟩
      walk_at "w4"
      exact q _ S1
theorem ok_check_fits (B : Bt K mg a) (C_check_fit : CalX P w K mg base "check_fit" ["fit"] 1 (sp_check_fit K a)) (F : Fun K "check_fits" "check_fits" s_check_fits f fd) : FnOk P w K mg base (CXF P w) 2 f fd ["fits"] (sp_check_fits K a) := by
  refine Fun.okX F sc_check_fits (fun vs H Q E h => ?_) (fun cdv A outer s H vs Q E hr h => ?_)
  · obtain ⟨x, rfl, _⟩ := h
    rfl
  obtain ⟨x, rfl, h⟩ := h
  refine ⟨_, (pss_of (qss_cons (qs_if (L2.PW.pt (pw_or (pt_not (pt_val (pe_callB (isiG_at (K := K) (T := "list") rfl) rfl B.isinstance PyProof.Rows.boot_isinstance (pa_of (qa_c (pv 0) (qa_c (pe_bltn (v := .ty "list") rfl B.list PyProof.Rows.boot_list rfl) qa_nil))) (he := star_plain _ _ _ rfl) (hpl := plain_any rfl)))) (pw_or1 (pt_cmpR op_lt (pe_callB call_len_seq rfl B.len PySem.boot_len (pa_of (qa_c (pv 0) qa_nil))) pe_int (nomark _))))) (qss_of (pss_one (ps_raise (R := fun H9 => E (.ref a.NoFit) none H9) rfl rfl B.NoFit B.exc_NoFit (fun _ _ _ _ _ _ _ I hx hE => raiseX I hx hE)))) qss_nil) (qss_one (qs_of (ps_for PassesOwn.leaving rfl (pi_list (pv 0)) (pg_name (i := 1) sc_check_fits.nd rfl (Or.inl rfl)) (pss_of (qss_one (qs_of (ps_expr (pe_calX C_check_fit (hr.mono (by decide)) rfl (pa_of (qa_c (pv 1) qa_nil)) (he := star_plain _ _ _ rfl) (hpl := plain_any rfl))))))))))), ?_⟩
  walk_at "w0"
  rcases h with ⟨rs, ⟨p, rfl, hp, l2, hl, hg⟩, q⟩ | ⟨h, q⟩
  · refine ⟨_, _, true, rfl, .lst hp, by kernel_rfl, ?_⟩
    walk_at "w1"
    refine ⟨_, .inl (SqL.of hp), ?_⟩
    rw [if_neg (by omega)]
    refine ⟨⟨_, SqL.of hp⟩, ?_⟩
    refine ForL.by (xs := rs) (fun _ σ H1 => (∃ v, σ = [some (.ref p), v]) ∧ H1 = H) ⟨⟨_, rfl⟩, rfl⟩ (fun i σ H1 _ h => by rw [h.2]; exact SqL.of hp) ?_ ?_
    · rintro i y σ H1 hy ⟨⟨v, rfl⟩, rfl⟩
      walk_at "w0"
      refine ⟨y, rfl, .inl ⟨hg y (List.mem_of_getElem? hy), ?_⟩⟩
      first | exact ⟨⟨_, rfl⟩, rfl⟩ | trivial
    · rintro σ H1 ⟨⟨v, rfl⟩, rfl⟩
      first | exact q | (walk_at "w0"; exact q)
  · rcases h with ⟨p, xs, rfl, hp, hl, hb⟩ | ⟨t, ty, e⟩
    · refine ⟨_, _, true, rfl, .lst hp, by kernel_rfl, ?_⟩
      walk_at "w1"
      refine ⟨_, .inl (SqL.of hp), ?_⟩
      by_cases c : xs.length < 2
      · rw [if_pos (by omega)]
        exact q
      · rw [if_neg (by omega)]
        rcases hb with hb | ⟨pre, y0, post, rfl, hpre, hy0⟩
        · exact absurd hb c
        refine ⟨⟨_, SqL.of hp⟩, ?_⟩
        refine ForL.by (xs := pre ++ y0 :: post) (fun i σ H1 => i ≤ pre.length ∧ (∃ v, σ = [some (.ref p), v]) ∧ H1 = H) ⟨Nat.zero_le _, ⟨_, rfl⟩, rfl⟩ (fun i σ H1 _ h => by rw [h.2.2]; exact SqL.of hp) ?_ ?_
        · rintro i y σ H1 hy ⟨hi, ⟨v, rfl⟩, rfl⟩
          walk_at "w0"
          by_cases ci : i = pre.length
          · have ey : y = y0 := by
              rw [ci, List.getElem?_append_right (Nat.le_refl _), Nat.sub_self] at hy
              simpa using hy.symm
            subst ey
            exact ⟨y, rfl, .inr ⟨hy0, q⟩⟩
          · have hm : y ∈ pre := by
              rw [List.getElem?_append_left (by omega)] at hy
              exact List.mem_of_getElem? hy
            refine ⟨y, rfl, .inl ⟨hpre y hm, ?_⟩⟩
            first | exact ⟨by omega, ⟨_, rfl⟩, rfl⟩ | exact (by omega : i + 1 ≤ pre.length) | exact ⟨by omega, rfl⟩ | (skip; done)
        · rintro σ H1 ⟨hi, ⟨v, rfl⟩, rfl⟩
          rw [List.length_append, List.length_cons] at hi
          omega
    · refine ⟨x, t, false, rfl, ty, e, ?_⟩
      walk_at "w4"
      exact q
theorem ok_Kind___init__ (B : Bt K mg a) (C_check_names : CalX P w K mg base "check_names" ["names"] 3 (sp_check_names K a)) (F : Fun K "__init__" "Kind.__init__" s_Kind___init__ f fd) : FnOk P w K mg base (CXF P w) 4 f fd ["self", "names"] (sp_Kind___init__ K a) := by
  refine Fun.okX F sc_Kind___init__ (fun vs H Q E h => ?_) (fun cdv A outer s H vs Q E hr h => ?_)
  · obtain ⟨p, dx, x, rfl, _⟩ := h
    rfl
  obtain ⟨p, dx, x, rfl, hp, h⟩ := h
  refine ⟨_, (pss_of (qss_cons (qs_of (ps_expr (pe_calX C_check_names (hr.mono (by decide)) rfl (pa_of (qa_c (pv 1) qa_nil)) (he := star_plain _ _ _ rfl) (hpl := plain_any rfl)))) (qss_one (qs_of (ps_fld (pv 0) (pe_callTy call_list_of rfl B.list PyProof.Rows.boot_list (pa_of (qa_c (pv 1) qa_nil))) rfl))))), ?_⟩
  walk_at "w0"
  rcases h with ⟨us, hg, q⟩ | ⟨hb, q⟩
  · refine ⟨x, rfl, .inl ⟨us, hg, fun H1 S1 => ?_⟩⟩
    obtain ⟨l, rfl, hl, _⟩ := hg
    walk_at "w0"
    refine ⟨_, .inl (SqL.of (S1 _ _ hl)), fun p2 h2 => ?_⟩
    have S2 := same_new h2 (.lst (us.map V.str))
    have hp2 := S2 _ _ (S1 _ _ hp)
    refine ⟨_, _, _, hp2, B.ck_Kind.cl, B.na_Kind_names, by decide, ?_⟩
    refine q p2 _ (fun b o n e => ?_) (S1.free h2) ?_ upd_same
    · rw [upd_ne n]
      exact S2 _ _ (S1 _ _ e)
    · rw [upd_ne (ne_of_none (S1 _ _ hp) h2).symm]
      exact upd_same
  · exact ⟨x, rfl, .inr ⟨hb, q⟩⟩
theorem ok_Place___init__ (B : Bt K mg a) (C_check_names : CalX P w K mg base "check_names" ["names"] 3 (sp_check_names K a)) (F : Fun K "__init__" "Place.__init__" s_Place___init__ f fd) : FnOk P w K mg base (CXF P w) 4 f fd ["self", "names"] (sp_Place___init__ K a) := by
  refine Fun.okX F sc_Place___init__ (fun vs H Q E h => ?_) (fun cdv A outer s H vs Q E hr h => ?_)
  · obtain ⟨p, dx, x, rfl, _⟩ := h
    rfl
  obtain ⟨p, dx, x, rfl, hp, h⟩ := h
  refine ⟨_, (pss_of (qss_cons (qs_of (ps_expr (pe_calX C_check_names (hr.mono (by decide)) rfl (pa_of (qa_c (pv 1) qa_nil)) (he := star_plain _ _ _ rfl) (hpl := plain_any rfl)))) (qss_one (qs_of (ps_fld (pv 0) (pe_callTy call_list_of rfl B.list PyProof.Rows.boot_list (pa_of (qa_c (pv 1) qa_nil))) rfl))))), ?_⟩
  walk_at "w0"
  rcases h with ⟨us, hg, q⟩ | ⟨hb, q⟩
  · refine ⟨x, rfl, .inl ⟨us, hg, fun H1 S1 => ?_⟩⟩
    obtain ⟨l, rfl, hl, _⟩ := hg
    walk_at "w0"
    refine ⟨_, .inl (SqL.of (S1 _ _ hl)), fun p2 h2 => ?_⟩
    have S2 := same_new h2 (.lst (us.map V.str))
    have hp2 := S2 _ _ (S1 _ _ hp)
    refine ⟨_, _, _, hp2, B.ck_Place.cl, B.na_Place_names, by decide, ?_⟩
    refine q p2 _ (fun b o n e => ?_) (S1.free h2) ?_ upd_same
    · rw [upd_ne n]
      exact S2 _ _ (S1 _ _ e)
    · rw [upd_ne (ne_of_none (S1 _ _ hp) h2).symm]
      exact upd_same
  · exact ⟨x, rfl, .inr ⟨hb, q⟩⟩
theorem ok_Both___init__ (B : Bt K mg a) (C_check_fits : CalX P w K mg base "check_fits" ["fits"] 2 (sp_check_fits K a)) (F : Fun K "__init__" "Both.__init__" s_Both___init__ f fd) : FnOk P w K mg base (CXF P w) 3 f fd ["self", "fits"] (sp_Both___init__ K a) := by
  refine Fun.okX F sc_Both___init__ (fun vs H Q E h => ?_) (fun cdv A outer s H vs Q E hr h => ?_)
  · obtain ⟨p, dx, x, rfl, _⟩ := h
    rfl
  obtain ⟨p, dx, x, rfl, hp, h⟩ := h
  refine ⟨_, (pss_of (qss_cons (qs_of (ps_expr (pe_calX C_check_fits (hr.mono (by decide)) rfl (pa_of (qa_c (pv 1) qa_nil)) (he := star_plain _ _ _ rfl) (hpl := plain_any rfl)))) (qss_one (qs_of (ps_fld (pv 0) (pe_callTy call_list_of rfl B.list PyProof.Rows.boot_list (pa_of (qa_c (pv 1) qa_nil))) rfl))))), ?_⟩
  walk_at "w0"
  rcases h with ⟨rs, hg, q⟩ | ⟨hb, q⟩
  · refine ⟨x, rfl, .inl ⟨rs, hg, ?_⟩⟩
    obtain ⟨l, rfl, hl, _⟩ := hg
    walk_at "w0"
    refine ⟨_, .inl (SqL.of hl), fun p2 h2 => ?_⟩
    have S2 := same_new h2 (.lst rs)
    have hp2 := S2 _ _ hp
    refine ⟨_, _, _, hp2, B.ck_Both.cl, B.na_Both_fits, by decide, ?_⟩
    refine q p2 _ (fun b o n e => ?_) h2 ?_ upd_same
    · rw [upd_ne n]
      exact S2 _ _ e
    · rw [upd_ne (ne_of_none hp h2).symm]
      exact upd_same
  · exact ⟨x, rfl, .inr ⟨hb, q _ fun _ _ z => z⟩⟩
theorem ok_Either___init__ (B : Bt K mg a) (C_check_fits : CalX P w K mg base "check_fits" ["fits"] 2 (sp_check_fits K a)) (F : Fun K "__init__" "Either.__init__" s_Either___init__ f fd) : FnOk P w K mg base (CXF P w) 3 f fd ["self", "fits"] (sp_Either___init__ K a) := by
  refine Fun.okX F sc_Either___init__ (fun vs H Q E h => ?_) (fun cdv A outer s H vs Q E hr h => ?_)
  · obtain ⟨p, dx, x, rfl, _⟩ := h
    rfl
  obtain ⟨p, dx, x, rfl, hp, h⟩ := h
  refine ⟨_, (pss_of (qss_cons (qs_of (ps_expr (pe_calX C_check_fits (hr.mono (by decide)) rfl (pa_of (qa_c (pv 1) qa_nil)) (he := star_plain _ _ _ rfl) (hpl := plain_any rfl)))) (qss_one (qs_of (ps_fld (pv 0) (pe_callTy call_list_of rfl B.list PyProof.Rows.boot_list (pa_of (qa_c (pv 1) qa_nil))) rfl))))), ?_⟩
  walk_at "w0"
  rcases h with ⟨rs, hg, q⟩ | ⟨hb, q⟩
  · refine ⟨x, rfl, .inl ⟨rs, hg, ?_⟩⟩
    obtain ⟨l, rfl, hl, _⟩ := hg
    walk_at "w0"
    refine ⟨_, .inl (SqL.of hl), fun p2 h2 => ?_⟩
    have S2 := same_new h2 (.lst rs)
    have hp2 := S2 _ _ hp
    refine ⟨_, _, _, hp2, B.ck_Either.cl, B.na_Either_fits, by decide, ?_⟩
    refine q p2 _ (fun b o n e => ?_) h2 ?_ upd_same
    · rw [upd_ne n]
      exact S2 _ _ e
    · rw [upd_ne (ne_of_none hp h2).symm]
      exact upd_same
  · exact ⟨x, rfl, .inr ⟨hb, q _ fun _ _ z => z⟩⟩
theorem GoodNm.same {H H' : Hp} {x : V} {us : List Str} (h : GoodNm H x us) (s : Same H H') : GoodNm H' x us := let ⟨p, e, hp, r⟩ := h; ⟨p, e, s _ _ hp, r⟩
theorem NoNm.same {H H' : Hp} {x : V} (h : NoNm K H x) (s : Same H H') : NoNm K H' x := by
  rcases h with ⟨p, xs, e, hp, hl, hn, r⟩ | h
  · exact .inl ⟨p, xs, e, s _ _ hp, hl, fun y hy => (hn y hy).same s, r⟩
  · exact .inr (h.same s)
theorem GoodFs.same {H H' : Hp} {x : V} {rs : List V} (h : GoodFs K a H x rs) (s : Same H H') : GoodFs K a H' x rs := let ⟨p, e, hp, l, l2, r⟩ := h; ⟨p, e, s _ _ hp, l, l2, fun y hy => (r y hy).same s⟩
theorem NoFs.same {H H' : Hp} {x : V} (h : NoFs K a H x) (s : Same H H') : NoFs K a H' x := by
  rcases h with ⟨p, xs, e, hp, hl, r⟩ | h
  · refine .inl ⟨p, xs, e, s _ _ hp, hl, ?_⟩
    rcases r with r | ⟨pre, y, post, e2, r1, r2⟩
    · exact .inl r
    · exact .inr ⟨pre, y, post, e2, fun z hz => (r1 z hz).same s, r2.same s⟩
  · exact .inr (h.same s)
theorem BadT.same {H H' : Hp} {k : Int} {x : V} (h : BadT K a H k x) (s : Same H H') : BadT K a H' k x := by
  rcases h with ⟨e, h⟩ | ⟨e, h, r⟩ | ⟨e, h⟩ | ⟨e, h⟩
  · exact .inl ⟨e, h.same s⟩
  · exact .inr (.inl ⟨e, h.same s, r⟩)
  · exact .inr (.inr (.inl ⟨e, h.same s⟩))
  · exact .inr (.inr (.inr ⟨e, h.same s⟩))
theorem kits (B : Bt K mg a) {n : Nat} (h : n ≤ 6) : PySem.W.kitOne K (.ref (clsOf a n)) (.ref a.Any) = some (n == 0) ∧ PySem.W.kitOne K (.ref (clsOf a n)) (.ref a.Kind) = some (n == 1) ∧ PySem.W.kitOne K (.ref (clsOf a n)) (.ref a.Place) = some (n == 2) ∧ PySem.W.kitOne K (.ref (clsOf a n)) (.ref a.Least) = some (n == 3) ∧ PySem.W.kitOne K (.ref (clsOf a n)) (.ref a.Not) = some (n == 4) ∧ PySem.W.kitOne K (.ref (clsOf a n)) (.ref a.Both) = some (n == 5) ∧ PySem.W.kitOne K (.ref (clsOf a n)) (.ref a.Either) = some (n == 6) ∧ PySem.W.kitOne K (.ref (clsOf a n)) (.ref a.Fit) = some true := by
  match n, h with
  | 0, _ => exact ⟨B.is_Any_Any, B.is_Any_Kind, B.is_Any_Place, B.is_Any_Least, B.is_Any_Not, B.is_Any_Both, B.is_Any_Either, B.is_Any_Fit⟩
  | 1, _ => exact ⟨B.is_Kind_Any, B.is_Kind_Kind, B.is_Kind_Place, B.is_Kind_Least, B.is_Kind_Not, B.is_Kind_Both, B.is_Kind_Either, B.is_Kind_Fit⟩
  | 2, _ => exact ⟨B.is_Place_Any, B.is_Place_Kind, B.is_Place_Place, B.is_Place_Least, B.is_Place_Not, B.is_Place_Both, B.is_Place_Either, B.is_Place_Fit⟩
  | 3, _ => exact ⟨B.is_Least_Any, B.is_Least_Kind, B.is_Least_Place, B.is_Least_Least, B.is_Least_Not, B.is_Least_Both, B.is_Least_Either, B.is_Least_Fit⟩
  | 4, _ => exact ⟨B.is_Not_Any, B.is_Not_Kind, B.is_Not_Place, B.is_Not_Least, B.is_Not_Not, B.is_Not_Both, B.is_Not_Either, B.is_Not_Fit⟩
  | 5, _ => exact ⟨B.is_Both_Any, B.is_Both_Kind, B.is_Both_Place, B.is_Both_Least, B.is_Both_Not, B.is_Both_Both, B.is_Both_Either, B.is_Both_Fit⟩
  | 6, _ => exact ⟨B.is_Either_Any, B.is_Either_Kind, B.is_Either_Place, B.is_Either_Least, B.is_Either_Not, B.is_Either_Both, B.is_Either_Either, B.is_Either_Fit⟩
  | n + 7, h => omega
theorem fit_ty (B : Bt K mg a) {H : Hp} {p : Addr} {n : Nat} {fs : List (Str × V)} (h6 : n ≤ 6) (h : FitAt a H p n fs) : TyOf K H (.ref p) (.ref (clsOf a n)) := by
  obtain ⟨dx, e⟩ := h
  match n, h6, e with
  | 0, _, e => exact B.ck_Any.ty e
  | 1, _, e => exact B.ck_Kind.ty e
  | 2, _, e => exact B.ck_Place.ty e
  | 3, _, e => exact B.ck_Least.ty e
  | 4, _, e => exact B.ck_Not.ty e
  | 5, _, e => exact B.ck_Both.ty e
  | 6, _, e => exact B.ck_Either.ty e
  | n + 7, h, _ => omega
theorem made_but {H H' : Hp} {x dx : Addr} {o o' : HO} (hx : H x = none) (hd : H dx = none) (b : But x (upd (upd H dx o) x o') H') : Same H H' := fun c u e => b c u (ne_of_none e hx) (made_same hx hd c u e)
theorem ok_Happening___init__ (B : Bt K mg a) (C_is_whole_from : CalX P w K mg base "is_whole_from" ["thing", "least"] 2 (sp_is_whole_from K a)) (C_is_name : CalX P w K mg base "is_name" ["thing"] 1 (sp_is_name K a)) (F : Fun K "__init__" "Happening.__init__" s_Happening___init__ f fd) : FnOk P w K mg base CX0 3 f fd ["self", "kind", "place", "weight"] (sp_Happening___init__ K a) := by
  refine F.ok sc_Happening___init__ (fun vs H Q E h => ?_) (fun cdv A outer s H vs Q E hr h => ?_)
  · obtain ⟨p, dx, k, l, n, rfl, _⟩ := h
    rfl
  obtain ⟨p, dx, k, l, n, rfl, hp, gk, gl, n0, q⟩ := h
  refine ⟨_, (pss_of (qss_cons (qs_if (L2.PW.pt (pw_or (pt_not (pt_val (pe_calN C_is_name (hr.mono (by decide)) rfl (pa_of (qa_c (pv 1) qa_nil)) (he := star_plain _ _ _ rfl) (hpl := plain_any rfl)))) (pw_or1 (pt_not (pt_val (pe_calN C_is_name (hr.mono (by decide)) rfl (pa_of (qa_c (pv 2) qa_nil)) (he := star_plain _ _ _ rfl) (hpl := plain_any rfl))))))) (qss_of pss_never) qss_nil) (qss_cons (qs_if (pt_not (pt_val (pe_calN C_is_whole_from (hr.mono (by decide)) rfl (pa_of (qa_c (pv 3) (qa_c pe_int qa_nil))) (he := star_plain _ _ _ rfl) (hpl := plain_any rfl)))) (qss_of pss_never) qss_nil) (qss_cons (qs_of (ps_fld (pv 0) (pv 1) rfl)) (qss_cons (qs_of (ps_fld (pv 0) (pv 2) rfl)) (qss_one (qs_of (ps_fld (pv 0) (pv 3) rfl)))))))), ?_⟩
  have ok1 : ∀ {H : Hp} {u : Str}, goodN u → okN H (.str u) := fun g => ⟨(good_sm g).1, by have := (good_sm g).2; omega⟩
  have bk : nameB (.str k) = true := decide_eq_true gk
  have bl : nameB (.str l) = true := decide_eq_true gl
  have bn : fromV (.int n) 0 = true := decide_eq_true n0
  walk_at "w0"
  refine ⟨_, rfl, ok1 gk, fun H1 S1 => ?_⟩
  try simp only [bk, w_seq, w_next, w_ifS, w_ret, w_retN, w_drop, w_asg, w_gName, w_gSub, w_var, w_c, w_op, w_un, w_rU, w_rI0, w_rI, w_test, w_b, w_and, w_or, w_not, w_andV, w_orV, w_notV, w_if, w_cons, w_nil, w_tup, w_lst, w_call, w_cB, w_eq, w_ne, w_isN, w_notN, w_chain, w_sl, w_part, w_noPart, w_forL, w_for1, w_for2, w_K, w_for3, w_isnotB, w_raise, w_try, w_KX, w_cut, w_compL, w_comp1, w_comp2, w_yes, w_pick0, w_pickN, w_pickS, w_bm, w_bm0, w_tyS, w_addS, w_slS, w_blkK, w_strs, w_methD, w_makeN, w_make, w_fld, w_gTup, w_gCons, w_gNil, w_sFld, w_compS, w_tryB, w_bmake, w_noKeys, w_nev, w_never, Option.getD_some,  exists_const, false_or, or_false, exists_false, w_s1, w_s2, w_s3, w_s4, w_s5, L2.start, List.map_cons, List.map_nil, List.length_cons, List.length_nil, List.replicate, List.replicate_zero, List.replicate_succ, Nat.reduceAdd, Nat.reduceSub, Nat.reduceLeDiff, List.cons_append, List.nil_append, List.append_nil, List.set_cons_zero, List.set_cons_succ, List.getElem?_cons_zero, List.getElem?_cons_succ, Option.some.injEq, V.int.injEq, V.bl.injEq, V.ref.injEq, V.str.injEq, V.ty.injEq, List.cons.injEq, and_true, true_and, exists_eq_left, exists_eq_left', exists_and_left, exists_eq, exists_eq', and_self, decide_eq_true_eq, Bool.not_eq_true', decide_eq_false_iff_not, Bool.true_eq_false, Bool.false_eq_true, if_true, if_false, ite_true, ite_false, false_and, and_false, and_assoc, reduceCtorEq]
  refine ⟨_, rfl, ok1 gl, fun H2 S2 => ?_⟩
  try simp only [bl, w_seq, w_next, w_ifS, w_ret, w_retN, w_drop, w_asg, w_gName, w_gSub, w_var, w_c, w_op, w_un, w_rU, w_rI0, w_rI, w_test, w_b, w_and, w_or, w_not, w_andV, w_orV, w_notV, w_if, w_cons, w_nil, w_tup, w_lst, w_call, w_cB, w_eq, w_ne, w_isN, w_notN, w_chain, w_sl, w_part, w_noPart, w_forL, w_for1, w_for2, w_K, w_for3, w_isnotB, w_raise, w_try, w_KX, w_cut, w_compL, w_comp1, w_comp2, w_yes, w_pick0, w_pickN, w_pickS, w_bm, w_bm0, w_tyS, w_addS, w_slS, w_blkK, w_strs, w_methD, w_makeN, w_make, w_fld, w_gTup, w_gCons, w_gNil, w_sFld, w_compS, w_tryB, w_bmake, w_noKeys, w_nev, w_never, Option.getD_some,  exists_const, false_or, or_false, exists_false, w_s1, w_s2, w_s3, w_s4, w_s5, L2.start, List.map_cons, List.map_nil, List.length_cons, List.length_nil, List.replicate, List.replicate_zero, List.replicate_succ, Nat.reduceAdd, Nat.reduceSub, Nat.reduceLeDiff, List.cons_append, List.nil_append, List.append_nil, List.set_cons_zero, List.set_cons_succ, List.getElem?_cons_zero, List.getElem?_cons_succ, Option.some.injEq, V.int.injEq, V.bl.injEq, V.ref.injEq, V.str.injEq, V.ty.injEq, List.cons.injEq, and_true, true_and, exists_eq_left, exists_eq_left', exists_and_left, exists_eq, exists_eq', and_self, decide_eq_true_eq, Bool.not_eq_true', decide_eq_false_iff_not, Bool.true_eq_false, Bool.false_eq_true, if_true, if_false, ite_true, ite_false, false_and, and_false, and_assoc, reduceCtorEq]
  refine ⟨_, _, rfl, ⟨_, .int n, by kernel_rfl, by kernel_rfl⟩, ?_⟩
  try simp only [bn, w_seq, w_next, w_ifS, w_ret, w_retN, w_drop, w_asg, w_gName, w_gSub, w_var, w_c, w_op, w_un, w_rU, w_rI0, w_rI, w_test, w_b, w_and, w_or, w_not, w_andV, w_orV, w_notV, w_if, w_cons, w_nil, w_tup, w_lst, w_call, w_cB, w_eq, w_ne, w_isN, w_notN, w_chain, w_sl, w_part, w_noPart, w_forL, w_for1, w_for2, w_K, w_for3, w_isnotB, w_raise, w_try, w_KX, w_cut, w_compL, w_comp1, w_comp2, w_yes, w_pick0, w_pickN, w_pickS, w_bm, w_bm0, w_tyS, w_addS, w_slS, w_blkK, w_strs, w_methD, w_makeN, w_make, w_fld, w_gTup, w_gCons, w_gNil, w_sFld, w_compS, w_tryB, w_bmake, w_noKeys, w_nev, w_never, Option.getD_some,  exists_const, false_or, or_false, exists_false, w_s1, w_s2, w_s3, w_s4, w_s5, L2.start, List.map_cons, List.map_nil, List.length_cons, List.length_nil, List.replicate, List.replicate_zero, List.replicate_succ, Nat.reduceAdd, Nat.reduceSub, Nat.reduceLeDiff, List.cons_append, List.nil_append, List.append_nil, List.set_cons_zero, List.set_cons_succ, List.getElem?_cons_zero, List.getElem?_cons_succ, Option.some.injEq, V.int.injEq, V.bl.injEq, V.ref.injEq, V.str.injEq, V.ty.injEq, List.cons.injEq, and_true, true_and, exists_eq_left, exists_eq_left', exists_and_left, exists_eq, exists_eq', and_self, decide_eq_true_eq, Bool.not_eq_true', decide_eq_false_iff_not, Bool.true_eq_false, Bool.false_eq_true, if_true, if_false, ite_true, ite_false, false_and, and_false, and_assoc, reduceCtorEq]
  refine ⟨_, _, _, (S1.trans S2) _ _ hp, B.ck_Happening.cl, B.na_Happening_kind, by decide, _, _, _, upd_same, B.ck_Happening.cl, B.na_Happening_place, by simp only [putF, List.length_cons, List.length_nil]; decide, _, _, _, upd_same, B.ck_Happening.cl, B.na_Happening_weight, ?_, ?_⟩
  · have e : (putF ("place" : Str) (.str l) (putF ("kind" : Str) (.str k) [])).length = 2 := by
      show (if ("kind" : Str) = "place" then _ else _ : List (Str × V)).length = 2
      rw [if_neg (by decide)]
      rfl
    rw [e]
    decide
  · refine q _ (fun b o n e => ?_) ?_
    · rw [upd_ne n, upd_ne n, upd_ne n]
      exact (S1.trans S2) b o e
    · rw [upd_same]
      have e : putF ("weight" : Str) (.int n) (putF ("place" : Str) (.str l) (putF ("kind" : Str) (.str k) [])) = ([("kind", .str k), ("place", .str l), ("weight", .int n)] : List (Str × V)) := by
        show putF ("weight" : Str) _ (if ("kind" : Str) = "place" then _ else _ : List (Str × V)) = _
        rw [if_neg (by decide)]
        show (if ("kind" : Str) = "weight" then _ else _ : List (Str × V)) = _
        rw [if_neg (by decide)]
        show _ :: (if ("place" : Str) = "weight" then _ else _ : List (Str × V)) = _
        rw [if_neg (by decide)]
        rfl
      rw [e]
theorem ok_law_name (B : Bt K mg a) (C_law_next : CalX P w K mg base "_law_next" ["_law_state", "_law_base"] 1 (sp_law_next K a)) (F : Fun K "_law_name" "_law_name" s_law_name f fd) : FnOk P w K mg base CX0 2 f fd ["_law_state"] (sp_law_name K a) := by
  refine F.ok sc_law_name (fun vs H Q E h => ?_) (fun cdv A outer s H vs Q E hr h => ?_)
  · obtain ⟨wl, rfl, _⟩ := h
    rfl
  obtain ⟨wl, rfl, W, q⟩ := h
  refine ⟨_, (pss_of (qss_cons (qs_set (i := 1) sc_law_name.nd rfl (Or.inr rfl) (qe_of pe_str) (by kernel_rfl)) (qss_cons (qs_set (i := 2) sc_law_name.nd rfl (Or.inl rfl) (qe_of (pe_calN C_law_next (hr.mono (by decide)) rfl (pa_of (qa_c (pv 0) (qa_c pe_int qa_nil))) (he := star_plain _ _ _ rfl) (hpl := plain_any rfl))) (by kernel_rfl)) (qss_cons (qs_if (pt_cmpR op_eq (pv 2) pe_int (nomark _)) (qss_cons (qs_set (i := 3) sc_law_name.nd rfl (Or.inl rfl) (qe_lst (qa_c pe_str (qa_c pe_str (qa_c pe_str (qa_c pe_str (qa_c pe_str (qa_c pe_str (qa_c pe_str (qa_c pe_str (qa_c pe_str (qa_c pe_str (qa_c pe_str (qa_c pe_str (qa_c pe_str qa_nil)))))))))))))) (by kernel_rfl)) (qss_one (qs_ret (qe_ix ix_list (qe_op op_cat (qe_of (pv 3)) (qe_lst (qa_c pe_str (qa_c pe_str (qa_c pe_str qa_nil))))) (qe_of (pe_calN C_law_next (hr.mono (by decide)) rfl (pa_of (qa_c (pv 0) (qa_c pe_int qa_nil))) (he := star_plain _ _ _ rfl) (hpl := plain_any rfl))) (fun _ _ => rfl))))) qss_nil) (qss_cons (qs_if (pt_cmpR op_eq (pv 2) pe_int (nomark _)) (qss_cons (qs_set (i := 4) sc_law_name.nd rfl (Or.inl rfl) (qe_of (pe_slice sl_str pe_str po_none (po_some (pe_op op_add pe_int (pe_calN C_law_next (hr.mono (by decide)) rfl (pa_of (qa_c (pv 0) (qa_c pe_int qa_nil))) (he := star_plain _ _ _ rfl) (hpl := plain_any rfl)))))) (by kernel_rfl)) (qss_cons (qs_set (i := 5) sc_law_name.nd rfl (Or.inl rfl) (qe_of (pe_calN C_law_next (hr.mono (by decide)) rfl (pa_of (qa_c (pv 0) (qa_c (pe_callB call_len_str rfl B.len PySem.boot_len (pa_of (qa_c (pv 4) qa_nil))) qa_nil))) (he := star_plain _ _ _ rfl) (hpl := plain_any rfl))) (by kernel_rfl)) (qss_one (qs_ret (qe_of (pe_op op_add_str (pe_op op_add_str (pe_slice sl_str (pv 4) po_none (po_some (pv 5))) (pe_ix ix_str pe_str (pe_calN C_law_next (hr.mono (by decide)) rfl (pa_of (qa_c (pv 0) (qa_c pe_int qa_nil))) (he := star_plain _ _ _ rfl) (hpl := plain_any rfl)) (fun _ _ => rfl))) (pe_slice sl_str (pv 4) (po_some (pe_op op_add (pv 5) pe_int)) po_none))))))) qss_nil) (qss_one (qs_ret (qe_of (pe_bm PySem.F.plainAttrs_str PySem.F.slot_str_join PySem.F.type_str_join mt_join pe_str (pa_of (qa_c (pe_compB ["_law_k", "_law_letters", "_law_state"] [none, some 1, some 0] rfl (by kernel_rfl) (pi_range1 rfl B.range (pa_of (qa_c (pe_op op_add pe_int (pe_calN C_law_next (hr.mono (by decide)) rfl (pa_of (qa_c (pv 0) (qa_c pe_int qa_nil))) (he := star_plain _ _ _ rfl) (hpl := plain_any rfl))) qa_nil))) (fun cl C s H fp => ⟨(pg_name (i := 0) (by decide : List.Nodup (["_law_k", "_law_letters", "_law_state"] : List Str)) rfl (Or.inl (by kernel_rfl)) (Or.inr (by kernel_rfl))), pts_nil, (pe_ix ix_str (pv 1 (hv := Or.inr (Or.inl (by kernel_rfl)))) (pe_calN C_law_next (hr.mono (by decide)) (gl_of (by kernel_rfl)) (pa_of (qa_c (pv 2 (hv := Or.inr (Or.inl (by kernel_rfl)))) (qa_c pe_int qa_nil))) (he := star_plain _ _ _ rfl) (hpl := plain_any rfl)) (fun _ _ => rfl))⟩)) qa_nil))))))))))), ?_⟩
  walk_at "w0"
  refine drw3 W (by decide) (by decide) fun r1 H1 a1 b1 W1 B1 => ?_
  walk_at "w0"
  by_cases h0 : r1 = 0
  · rw [if_pos h0]
    refine ⟨sz8 (by decide), fun p hp => ?_⟩
    have S1 := same_new hp (.lst [.str "any", .str "kind", .str "place", .str "weight", .str "not", .str "by", .str "now", .str "hour", .str "day", .str "never", .str "sure", .str "raise", .str "zone"])
    have e1 : upd H1 p (.lst [.str "any", .str "kind", .str "place", .str "weight", .str "not", .str "by", .str "now", .str "hour", .str "day", .str "never", .str "sure", .str "raise", .str "zone"]) p = some (.lst [.str "any", .str "kind", .str "place", .str "weight", .str "not", .str "by", .str "now", .str "hour", .str "day", .str "never", .str "sure", .str "raise", .str "zone"]) := upd_same
    generalize upd H1 p (.lst [.str "any", .str "kind", .str "place", .str "weight", .str "not", .str "by", .str "now", .str "hour", .str "day", .str "never", .str "sure", .str "raise", .str "zone"]) = H2 at *
    refine ⟨sz8 (by decide), fun p2 hp2 => ?_⟩
    have S2 := same_new hp2 (.lst [.str "quiet", .str "a", .str "to"])
    have e2 : upd H2 p2 (.lst [.str "quiet", .str "a", .str "to"]) p2 = some (.lst [.str "quiet", .str "a", .str "to"]) := upd_same
    have e1' := S2 _ _ e1
    generalize upd H2 p2 (.lst [.str "quiet", .str "a", .str "to"]) = H3 at *
    refine ⟨p, p2, [.str "any", .str "kind", .str "place", .str "weight", .str "not", .str "by", .str "now", .str "hour", .str "day", .str "never", .str "sure", .str "raise", .str "zone"], [.str "quiet", .str "a", .str "to"], rfl, rfl, e1', e2, sz8 (by decide), fun p3 hp3 => ?_⟩
    have S3 := same_new hp3 (.lst ([.str "any", .str "kind", .str "place", .str "weight", .str "not", .str "by", .str "now", .str "hour", .str "day", .str "never", .str "sure", .str "raise", .str "zone"] ++ [.str "quiet", .str "a", .str "to"]))
    have e3 : upd H3 p3 (.lst ([.str "any", .str "kind", .str "place", .str "weight", .str "not", .str "by", .str "now", .str "hour", .str "day", .str "never", .str "sure", .str "raise", .str "zone"] ++ [.str "quiet", .str "a", .str "to"])) p3 = some (.lst ([.str "any", .str "kind", .str "place", .str "weight", .str "not", .str "by", .str "now", .str "hour", .str "day", .str "never", .str "sure", .str "raise", .str "zone"] ++ [.str "quiet", .str "a", .str "to"])) := upd_same
    have n3 := (W1.same (S1.trans S2)).ne hp3
    generalize upd H3 p3 (.lst ([.str "any", .str "kind", .str "place", .str "weight", .str "not", .str "by", .str "now", .str "hour", .str "day", .str "never", .str "sure", .str "raise", .str "zone"] ++ [.str "quiet", .str "a", .str "to"])) = H4 at *
    have SS := S1.trans (S2.trans S3)
    refine drw3 (W1.same SS) (by decide) (by decide) fun r4 H5 a4 b4 W5 B5 => ?_
    have e5 := B5 p3 _ n3 e3
    obtain ⟨v, hv, ev⟩ := at_memV (xs := ([.str "any", .str "kind", .str "place", .str "weight", .str "not", .str "by", .str "now", .str "hour", .str "day", .str "never", .str "sure", .str "raise", .str "zone"] : List V) ++ [.str "quiet", .str "a", .str "to"]) a4 (by simp only [List.length_append, List.length_cons, List.length_nil]; omega)
    refine ixl (SqL.of e5) ev ?_
    obtain ⟨u, rfl, g⟩ : ∃ u, v = .str u ∧ goodN u := by
      simp only [List.cons_append, List.nil_append, List.mem_cons, List.not_mem_nil, or_false] at hv
      rcases hv with rfl | rfl | rfl | rfl | rfl | rfl | rfl | rfl | rfl | rfl | rfl | rfl | rfl | rfl | rfl | rfl <;> exact ⟨_, rfl, by decide +kernel⟩
    exact q u H5 g W5 (B1.trans ((Same.but SS).trans B5))
  rw [if_neg h0]
  by_cases h1 : r1 = 1
  · rw [if_pos h1]
    refine drw3 W1 (by decide) (by decide) fun r2 H2 a2 b2 W2 B2 => ?_
    walk_at "w0"
    have e8 : Str.ofString "bcdefghi" = w8 := rfl
    have e3 : Str.ofString "axz" = axz := rfl
    rw [e8]
    have hw := way_len a2 b2
    have hl : (Txt.slice w8 none (some (1 + r2))).length ≤ 8 := slice_le8 w8 (by decide) _ _
    refine ⟨sz8 (by decide), sz8 (by omega), ?_⟩
    refine drw3 W2 (by rw [hw]; omega) (by rw [hw]; omega) fun r3 H3 a3 b3 W3 B3 => ?_
    have b3' : r3 < r2 + 1 := by rw [hw] at b3; omega
    walk_at "w0"
    refine ⟨sz8 (by omega), ?_⟩
    refine drw3 W3 (by decide) (by decide) fun r4 H4 a4 b4 W4 B4 => ?_
    obtain ⟨c, ec, gd⟩ := way_good a2 b2 a3 b3' a4 b4
    refine ixs (u := axz) (sz8 (by decide)) ec ?_
    walk_at "w0"
    have l1 := slice_le8 (Txt.slice w8 none (some (1 + r2))) hl none (some r3)
    have l2 := slice_le8 (Txt.slice w8 none (some (1 + r2))) hl (some (r3 + 1)) none
    have l3 : (⟨#[c]⟩ : Str).length = 1 := rfl
    refine ⟨sz8 (by rw [l3]; omega), sz8 (by omega), sz8 (by rw [Str.length_append, l3]; omega), ?_⟩
    exact q _ H4 gd W4 (B1.trans (B2.trans (B3.trans B4)))
  · rw [if_neg h1]
    refine drw3 W1 (by decide) (by decide) fun r2 H2 a2 b2 W2 B2 => ?_
    walk_at "w0"
    refine ⟨by omega, by omega, ?_⟩
    refine CompR.by (fun i acc σ H' => (∃ ts : List Str, acc = ts.map V.str ∧ ts.length = i ∧ ∀ t ∈ ts, ∃ c, t = ⟨#[c]⟩ ∧ 97 ≤ c ∧ c ≤ 122) ∧ (∃ v, σ = [v, some (.str letters), some (.ref wl)]) ∧ Well3 H' wl ∧ But wl H2 H') (sz8 (by omega)) ⟨⟨[], rfl, rfl, fun t ht => by cases ht⟩, ⟨_, rfl⟩, W2, But.refl _ _⟩ ?_ ?_ ?_
    · rintro i acc σ H' hi ⟨⟨ts, rfl, hl, ht⟩, ⟨v, rfl⟩, W3, B3⟩
      walk_at "w0"
      refine drw3 W3 (by decide) (by decide) fun r3 H3 a3 b3 W4 B4 => ?_
      obtain ⟨c, ec, c0, c1⟩ := letter_at a3 b3
      refine ixs (u := letters) (sz8 (by decide)) ec ?_
      have new : ∃ us : List Str, ts.map V.str ++ [V.str ⟨#[c]⟩] = us.map V.str ∧ us.length = i + 1 ∧ ∀ t ∈ us, ∃ c, t = ⟨#[c]⟩ ∧ 97 ≤ c ∧ c ≤ 122 := by
        refine ⟨ts ++ [⟨#[c]⟩], by rw [List.map_append]; rfl, by rw [List.length_append, hl]; rfl, fun t h => ?_⟩
        rcases List.mem_append.mp h with z | z
        · exact ht t z
        · rw [List.mem_singleton.mp z]
          exact ⟨c, rfl, c0, c1⟩
      first | exact ⟨new, ⟨_, rfl⟩, W4, B3.trans B4⟩ | exact ⟨new, W4, B3.trans B4⟩
    · rintro i acc σ H' ⟨⟨ts, rfl, hl, _⟩, _⟩
      rw [List.length_map, hl]
      exact Nat.le_refl _
    · rintro acc σ H' ⟨⟨ts, rfl, hl, ht⟩, ⟨v, rfl⟩, W3, B3⟩ D hD
      have hn : ts.length = (1 + r2).toNat := hl
      obtain ⟨j1, j2⟩ := join_good ht (by omega) (by omega)
      have n0 := W3.ne hD
      have S9 := same_new hD (.lst (ts.map V.str))
      refine ⟨Str.empty, D, ts, rfl, rfl, upd_same, j1, ?_⟩
      exact q _ _ j2 (W3.same S9) (B1.trans (B2.trans (B3.trans (Same.but S9))))
theorem ok_law_kinds (B : Bt K mg a)  (F : Fun K "_law_kinds" "_law_kinds" s_law_kinds f fd) : FnOk P w K mg base CX0 1 f fd ["_law_fit"] (sp_law_kinds K a) := by
  refine F.ok sc_law_kinds (fun vs H Q E h => ?_) (fun cdv A outer s H vs Q E hr h => ?_)
  · obtain ⟨p, n, fs, rfl, _⟩ := h
    rfl
  obtain ⟨p, n, fs, rfl, h6, hf, q⟩ := h
  refine ⟨_, (pss_of (qss_cons (qs_set (i := 1) sc_law_kinds.nd rfl (Or.inl rfl) (qe_lst (qa_c (pe_callB (isiV_at (K := K) rfl) rfl B.isinstance PyProof.Rows.boot_isinstance (pa_of (qa_c (pv 0) (qa_c (pe_glob (v := .ref _) rfl B.Any rfl) qa_nil))) (he := star_plain _ _ _ rfl) (hpl := plain_any rfl)) (qa_c (pe_callB (isiV_at (K := K) rfl) rfl B.isinstance PyProof.Rows.boot_isinstance (pa_of (qa_c (pv 0) (qa_c (pe_glob (v := .ref _) rfl B.Kind rfl) qa_nil))) (he := star_plain _ _ _ rfl) (hpl := plain_any rfl)) (qa_c (pe_callB (isiV_at (K := K) rfl) rfl B.isinstance PyProof.Rows.boot_isinstance (pa_of (qa_c (pv 0) (qa_c (pe_glob (v := .ref _) rfl B.Place rfl) qa_nil))) (he := star_plain _ _ _ rfl) (hpl := plain_any rfl)) (qa_c (pe_callB (isiV_at (K := K) rfl) rfl B.isinstance PyProof.Rows.boot_isinstance (pa_of (qa_c (pv 0) (qa_c (pe_glob (v := .ref _) rfl B.Least rfl) qa_nil))) (he := star_plain _ _ _ rfl) (hpl := plain_any rfl)) qa_nil))))) (by kernel_rfl)) (qss_one (qs_ret (qe_op op_cat (qe_of (pv 1)) (qe_lst (qa_c (pe_callB (isiV_at (K := K) rfl) rfl B.isinstance PyProof.Rows.boot_isinstance (pa_of (qa_c (pv 0) (qa_c (pe_glob (v := .ref _) rfl B.Not rfl) qa_nil))) (he := star_plain _ _ _ rfl) (hpl := plain_any rfl)) (qa_c (pe_callB (isiV_at (K := K) rfl) rfl B.isinstance PyProof.Rows.boot_isinstance (pa_of (qa_c (pv 0) (qa_c (pe_glob (v := .ref _) rfl B.Both rfl) qa_nil))) (he := star_plain _ _ _ rfl) (hpl := plain_any rfl)) (qa_c (pe_callB (isiV_at (K := K) rfl) rfl B.isinstance PyProof.Rows.boot_isinstance (pa_of (qa_c (pv 0) (qa_c (pe_glob (v := .ref _) rfl B.Either rfl) qa_nil))) (he := star_plain _ _ _ rfl) (hpl := plain_any rfl)) qa_nil))))))))), ?_⟩
  obtain ⟨i0, i1, i2, i3, i4, i5, i6, iF⟩ := kits B h6
  walk_at "w0"
  refine ⟨_, _, _, _, rfl, fit_ty B h6 hf, i0, ?_⟩
  walk_at "w0"
  refine ⟨_, _, _, _, rfl, fit_ty B h6 hf, i1, ?_⟩
  walk_at "w0"
  refine ⟨_, _, _, _, rfl, fit_ty B h6 hf, i2, ?_⟩
  walk_at "w0"
  refine ⟨_, _, _, _, rfl, fit_ty B h6 hf, i3, ?_⟩
  walk_at "w0"
  refine ⟨sz8 (by decide), fun p1 h1 => ?_⟩
  have S1 := same_new h1 (.lst [.bl (n == 0), .bl (n == 1), .bl (n == 2), .bl (n == 3)])
  have e1 : upd H p1 (.lst [.bl (n == 0), .bl (n == 1), .bl (n == 2), .bl (n == 3)]) p1 = _ := upd_same
  have hf1 := hf.same S1
  generalize upd H p1 (.lst [.bl (n == 0), .bl (n == 1), .bl (n == 2), .bl (n == 3)]) = H1 at *
  refine ⟨_, _, _, _, rfl, fit_ty B h6 hf1, i4, ?_⟩
  walk_at "w0"
  refine ⟨_, _, _, _, rfl, fit_ty B h6 hf1, i5, ?_⟩
  walk_at "w0"
  refine ⟨_, _, _, _, rfl, fit_ty B h6 hf1, i6, ?_⟩
  walk_at "w0"
  refine ⟨sz8 (by decide), fun p2 h2 => ?_⟩
  have S2 := same_new h2 (.lst [.bl (n == 4), .bl (n == 5), .bl (n == 6)])
  have e2 : upd H1 p2 (.lst [.bl (n == 4), .bl (n == 5), .bl (n == 6)]) p2 = _ := upd_same
  have e1' := S2 _ _ e1
  generalize upd H1 p2 (.lst [.bl (n == 4), .bl (n == 5), .bl (n == 6)]) = H2 at *
  refine ⟨p1, p2, _, _, rfl, rfl, e1', e2, sz8 (by simp only [List.length_cons, List.length_nil]; decide), fun p3 h3 => ?_⟩
  exact q p3 _ (S1.trans (S2.trans (same_new h3 _))) upd_same
theorem ok_law_is_kind (B : Bt K mg a) (C_law_kinds : CalX P w K mg base "_law_kinds" ["_law_fit"] 1 (sp_law_kinds K a)) (F : Fun K "_law_is_kind" "_law_is_kind" s_law_is_kind f fd) : FnOk P w K mg base CX0 2 f fd ["_law_fit", "_law_at"] (sp_law_is_kind K a) := by
  refine F.ok sc_law_is_kind (fun vs H Q E h => ?_) (fun cdv A outer s H vs Q E hr h => ?_)
  · obtain ⟨p, n, fs, rfl, _⟩ := h
    rfl
  obtain ⟨p, n, fs, rfl, h6, hf, q⟩ := h
  refine ⟨_, (pss_of (qss_one (qs_ret (qe_of (pe_and (pe_callB (isiV_at (K := K) rfl) rfl B.isinstance PyProof.Rows.boot_isinstance (pa_of (qa_c (pv 0) (qa_c (pe_glob (v := .ref _) rfl B.Fit rfl) qa_nil))) (he := star_plain _ _ _ rfl) (hpl := plain_any rfl)) (pe_one (pe_cmpR (op_eqD hr.units) (pe_calN C_law_kinds (hr.mono (by decide)) rfl (pa_of (qa_c (pv 0) qa_nil)) (he := star_plain _ _ _ rfl) (hpl := plain_any rfl)) (pe_compB ["_law_k", "_law_at"] [none, some 1] rfl (by kernel_rfl) (pi_range1 rfl B.range (pa_of (qa_c pe_int qa_nil))) (fun cl C s H fp => ⟨(pg_name (i := 0) (by decide : List.Nodup (["_law_k", "_law_at"] : List Str)) rfl (Or.inl (by kernel_rfl)) (Or.inr (by kernel_rfl))), pts_nil, (pe_cmpR op_eq (pv 0 (hv := Or.inl (by kernel_rfl))) (pv 1 (hv := Or.inr (Or.inl (by kernel_rfl)))) (nomark _))⟩)) (nomark _)))))))), ?_⟩
  obtain ⟨_, _, _, _, _, _, _, iF⟩ := kits B h6
  walk_at "w0"
  refine ⟨_, _, _, true, rfl, fit_ty B h6 hf, iF, ?_⟩
  walk_at "w0"
  refine ⟨p, n, fs, rfl, h6, hf, fun q1 H1 S1 e1 => ?_⟩
  walk_at "w0"
  refine ⟨by decide, by decide, ?_⟩
  refine CompR.by (fun i acc σ H' => acc = (List.range i).map (fun j => V.bl (decide (((j : Nat) : Int) = (n : Nat)))) ∧ (∃ v, σ = [v, some (.int (n : Nat))]) ∧ H' = H1) (sz8 (by decide)) ⟨rfl, ⟨_, rfl⟩, rfl⟩ ?_ ?_ ?_
  · rintro i acc σ H' hi ⟨rfl, ⟨v, rfl⟩, rfl⟩
    have ea : (List.range i).map (fun j => V.bl (decide (((j : Nat) : Int) = (n : Nat)))) ++ [V.bl (decide ((0 : Int) + ((i : Nat) : Int) = (n : Nat)))] = (List.range (i + 1)).map (fun j => V.bl (decide (((j : Nat) : Int) = (n : Nat)))) := by
      rw [List.range_succ, List.map_append, Int.zero_add]
      rfl
    walk_at "w0"
    first | exact ⟨ea, ⟨_, rfl⟩, rfl⟩ | exact ea
  · rintro i acc σ H' ⟨rfl, _, _⟩
    rw [List.length_map, List.length_range]
    exact Nat.le_refl _
  · rintro acc σ H' ⟨rfl, ⟨v, rfl⟩, rfl⟩ D hD
    have el : (List.range (Int.toNat 7)).map (fun j => V.bl (decide (((j : Nat) : Int) = (n : Nat)))) = ([.bl (n == 0), .bl (n == 1), .bl (n == 2), .bl (n == 3), .bl (n == 4), .bl (n == 5), .bl (n == 6)] : List V) := by
      match n, h6 with
      | 0, _ => rfl
      | 1, _ => rfl
      | 2, _ => rfl
      | 3, _ => rfl
      | 4, _ => rfl
      | 5, _ => rfl
      | 6, _ => rfl
      | n + 7, h => omega
    rw [el]
    have S2 := same_new hD (.lst [.bl (n == 0), .bl (n == 1), .bl (n == 2), .bl (n == 3), .bl (n == 4), .bl (n == 5), .bl (n == 6)])
    have rd : ∀ H0 : Hp, RDs H0 [.bl (n == 0), .bl (n == 1), .bl (n == 2), .bl (n == 3), .bl (n == 4), .bl (n == 5), .bl (n == 6)] [.bool (n == 0), .bool (n == 1), .bool (n == 2), .bool (n == 3), .bool (n == 4), .bool (n == 5), .bool (n == 6)] := fun H0 => .cons (.bl _) (.cons (.bl _) (.cons (.bl _) (.cons (.bl _) (.cons (.bl _) (.cons (.bl _) (.cons (.bl _) .nil))))))
    refine eqd (.lst (S2 _ _ e1) (rd _)) (.lst upd_same (rd _)) (by rfl) ?_
    exact q _ (S1.trans S2)
theorem ok_law_made (B : Bt K mg a) (CC_Either : CalC P w K mg base "Either" a.Either ["self", "fits"] 3 (sp_Either___init__ K a)) (CC_Kind : CalC P w K mg base "Kind" a.Kind ["self", "names"] 4 (sp_Kind___init__ K a)) (CC_Place : CalC P w K mg base "Place" a.Place ["self", "names"] 4 (sp_Place___init__ K a)) (CC_Least : CalC P w K mg base "Least" a.Least ["self", "weight"] 3 (sp_Least___init__ K a)) (CC_Not : CalC P w K mg base "Not" a.Not ["self", "fit"] 2 (sp_Not___init__ K a)) (CC_Both : CalC P w K mg base "Both" a.Both ["self", "fits"] 3 (sp_Both___init__ K a)) (F : Fun K "_law_made" "_law_made" s_law_made f fd) : FnOk P w K mg base (CXF P w) 6 f fd ["_law_at", "_law_thing"] (sp_law_made K a) := by
  refine Fun.okX F sc_law_made (fun vs H Q E h => ?_) (fun cdv A outer s H vs Q E hr h => ?_)
  · obtain ⟨k, x, rfl, _⟩ := h
    rfl
  obtain ⟨k, x, rfl, h⟩ := h
  refine ⟨_, (pss_of (qss_cons (qs_if (pt_cmpR op_eq (pv 0) pe_int (nomark _)) (qss_one (qs_ret (qe_of (pe_mak CC_Kind passX (hr.mono (by decide)) rfl (pa_of (qa_c (pv 1) qa_nil)) (he := star_plain _ _ _ rfl) (hpl := plain_any rfl))))) qss_nil) (qss_cons (qs_if (pt_cmpR op_eq (pv 0) pe_int (nomark _)) (qss_one (qs_ret (qe_of (pe_mak CC_Place passX (hr.mono (by decide)) rfl (pa_of (qa_c (pv 1) qa_nil)) (he := star_plain _ _ _ rfl) (hpl := plain_any rfl))))) qss_nil) (qss_cons (qs_if (pt_cmpR op_eq (pv 0) pe_int (nomark _)) (qss_one (qs_ret (qe_of (pe_mak CC_Least passX (hr.mono (by decide)) rfl (pa_of (qa_c (pv 1) qa_nil)) (he := star_plain _ _ _ rfl) (hpl := plain_any rfl))))) qss_nil) (qss_cons (qs_if (pt_cmpR op_eq (pv 0) pe_int (nomark _)) (qss_one (qs_ret (qe_of (pe_mak CC_Not passX (hr.mono (by decide)) rfl (pa_of (qa_c (pv 1) qa_nil)) (he := star_plain _ _ _ rfl) (hpl := plain_any rfl))))) qss_nil) (qss_cons (qs_if (pt_cmpR op_eq (pv 0) pe_int (nomark _)) (qss_one (qs_ret (qe_of (pe_mak CC_Both passX (hr.mono (by decide)) rfl (pa_of (qa_c (pv 1) qa_nil)) (he := star_plain _ _ _ rfl) (hpl := plain_any rfl))))) qss_nil) (qss_one (qs_ret (qe_of (pe_mak CC_Either passX (hr.mono (by decide)) rfl (pa_of (qa_c (pv 1) qa_nil)) (he := star_plain _ _ _ rfl) (hpl := plain_any rfl))))))))))), ?_⟩
  rcases h with ⟨hk, us, hg, q⟩ | ⟨hk, rs, hg, q⟩ | ⟨hb, q⟩
  · rcases hk with rfl | rfl
    all_goals
      walk_at "w2"
      intro r dx hr1 hd ne
      refine ⟨r, dx, x, rfl, upd_same, .inl ⟨us, hg.same (made_same hr1 hd), fun l H' b hl e1 e2 => ?_⟩⟩
      exact ⟨rfl, q r l H' (made_but hr1 hd b) ((made_same hr1 hd).free hl) e1 ⟨dx, e2⟩⟩
  · rcases hk with rfl | rfl
    all_goals
      walk_at "w2"
      intro r dx hr1 hd ne
      refine ⟨r, dx, x, rfl, upd_same, .inl ⟨rs, hg.same (made_same hr1 hd), fun l H' b hl e1 e2 => ?_⟩⟩
      exact ⟨rfl, q r l H' (made_but hr1 hd b) ((made_same hr1 hd).free hl) e1 ⟨dx, e2⟩⟩
  · rcases hb with ⟨hk, hb⟩ | ⟨rfl, hb, hf⟩ | ⟨rfl, hb⟩ | ⟨hk, hb⟩
    · rcases hk with rfl | rfl
      all_goals
        walk_at "w2"
        intro r dx hr1 hd ne
        exact ⟨r, dx, x, rfl, upd_same, .inr ⟨hb.same (made_same hr1 hd), fun H' s => q _ ((made_same hr1 hd).trans s)⟩⟩
    · walk_at "w2"
      intro r dx hr1 hd ne
      exact ⟨r, dx, x, rfl, upd_same, hb.same (made_same hr1 hd), .inr ⟨hf, q _ (made_same hr1 hd)⟩⟩
    · walk_at "w2"
      intro r dx hr1 hd ne
      exact ⟨r, dx, x, rfl, upd_same, .inr ⟨hb.same (made_same hr1 hd), q _ (made_same hr1 hd)⟩⟩
    · rcases hk with rfl | rfl
      all_goals
        walk_at "w2"
        intro r dx hr1 hd ne
        exact ⟨r, dx, x, rfl, upd_same, .inr ⟨hb.same (made_same hr1 hd), fun H' s => q _ ((made_same hr1 hd).trans s)⟩⟩
theorem ok_law_refused (B : Bt K mg a) (C_law_made : CalX P w K mg base "_law_made" ["_law_at", "_law_thing"] 6 (sp_law_made K a)) (F : Fun K "_law_refused" "_law_refused" s_law_refused f fd) : FnOk P w K mg base CX0 7 f fd ["_law_at", "_law_thing"] (sp_law_refused K a) := by
  refine F.ok sc_law_refused (fun vs H Q E h => ?_) (fun cdv A outer s H vs Q E hr h => ?_)
  · obtain ⟨k, x, rfl, _⟩ := h
    rfl
  obtain ⟨k, x, rfl, hb, q⟩ := h
  refine ⟨_, (pss_of (qss_cons (qs_set (i := 2) sc_law_refused.nd rfl (Or.inl rfl) (qe_of pe_bl) (by kernel_rfl)) (qss_cons (qs_of (ps_tryC (i := 3) rfl rfl (fun _ _ z => z) C_law_made (hr.mono (by decide)) rfl (pa_of (qa_c (pv 0) (qa_c (pv 1) qa_nil))) rfl B.BellError sc_law_refused.nd rfl rfl (fun v => (pss_of (qss_cons (qs_set (i := 4) sc_law_refused.nd rfl (Or.inl rfl) (qe_of (pe_callB (isiT_at (K := K) (C := a.NoFit) rfl B.excK_NoFit) rfl B.isinstance PyProof.Rows.boot_isinstance (pa_of (qa_c (pv 3) (qa_c (pe_tup (pa_of (qa_c (pe_glob (v := .ref _) rfl B.NoClock rfl) (qa_c (pe_glob (v := .ref _) rfl B.NoHappening rfl) (qa_c (pe_glob (v := .ref _) rfl B.NoRow rfl) (qa_c (pe_glob (v := .ref _) rfl B.NoText rfl) (qa_c (pe_glob (v := .ref _) rfl B.NoWish rfl) qa_nil))))))) qa_nil))) (he := star_plain _ _ _ rfl) (hpl := plain_any rfl))) (by kernel_rfl)) (qss_one (qs_set (i := 2) sc_law_refused.nd rfl (Or.inl rfl) (qe_of (pe_and (pe_callB (isiE_at (K := K) (C := a.NoFit) rfl B.excK_NoFit) rfl B.isinstance PyProof.Rows.boot_isinstance (pa_of (qa_c (pv 3) (qa_c (pe_glob (v := .ref _) rfl B.NoFit rfl) qa_nil))) (he := star_plain _ _ _ rfl) (hpl := plain_any rfl)) (pe_and (pe_callB (isiE_at (K := K) (C := a.NoFit) rfl B.excK_NoFit) rfl B.isinstance PyProof.Rows.boot_isinstance (pa_of (qa_c (pv 3) (qa_c (pe_bltn (v := .ty "ValueError") rfl B.ValueError boot_ValueError rfl) qa_nil))) (he := star_plain _ _ _ rfl) (hpl := plain_any rfl)) (pe_one (pe_not (pv 4)))))) (by kernel_rfl)))))) (he := star_plain _ _ _ rfl) (hpl := plain_any rfl))) (qss_one (qs_ret (qe_of (pv 2))))))), ?_⟩
  walk_at "w0"
  refine ⟨k, x, rfl, .inr (.inr ⟨hb, fun H0 S0 => ⟨B.exm, fun y hy => ?_⟩⟩)⟩
  have S1 := same_new hy (hoExc y (.ref a.NoFit))
  have e1 : upd H0 y (hoExc y (.ref a.NoFit)) y = some (hoExc y (.ref a.NoFit)) := upd_same
  generalize upd H0 y (hoExc y (.ref a.NoFit)) = H1 at *
  walk_at "w0"
  refine ⟨sz8 (by decide), fun t1 ht1 => ?_⟩
  have S2 := same_new ht1 (.tup [.ref a.NoClock, .ref a.NoHappening, .ref a.NoRow, .ref a.NoText, .ref a.NoWish])
  refine ⟨y, t1, [a.NoClock, a.NoHappening, a.NoRow, a.NoText, a.NoWish], false, rfl, S2 _ _ e1, upd_same, B.any1, ?_⟩
  have e2 := S2 _ _ e1
  generalize upd H1 t1 (.tup [.ref a.NoClock, .ref a.NoHappening, .ref a.NoRow, .ref a.NoText, .ref a.NoWish]) = H2 at *
  walk_at "w0"
  refine ⟨y, _, _, true, rfl, rfl, e2, B.isC, ?_⟩
  walk_at "w0"
  refine ⟨y, _, _, true, rfl, rfl, e2, B.isV, ?_⟩
  walk_at "w4"
  exact q _ (S0.trans (S1.trans S2))
theorem inV_str (u : Str) : ∀ us : List Str, inV (.str u) (us.map V.str) = decide (u ∈ us)
  | [] => rfl
  | v :: us => by
    have e : inV (.str u) ((v :: us).map V.str) = (eqV (.str v) (.str u) || inV (.str u) (us.map V.str)) := rfl
    rw [e, inV_str u us]
    have e2 : eqV (.str v) (.str u) = decide (v = u) := by
      first | rfl | (unfold eqV; by_cases c : v = u <;> simp [c])
    rw [e2]
    by_cases c : v = u
    · simp [c]
    · have c' : ¬ u = v := fun z => c z.symm
      simp [c, c']
theorem flat_strs : ∀ us : List Str, (us.map V.str).all flatV = true
  | [] => rfl
  | v :: us => by rw [List.map_cons, List.all_cons, flat_strs us]; rfl
theorem ok_law_names (B : Bt K mg a) (C_law_name : CalX P w K mg base "_law_name" ["_law_state"] 2 (sp_law_name K a)) (C_law_next : CalX P w K mg base "_law_next" ["_law_state", "_law_base"] 1 (sp_law_next K a)) (F : Fun K "_law_names" "_law_names" s_law_names f fd) : FnOk P w K mg base CX0 3 f fd ["_law_state", "_law_most"] (sp_law_names K a) := by
  refine F.ok sc_law_names (fun vs H Q E h => ?_) (fun cdv A outer s H vs Q E hr h => ?_)
  · obtain ⟨wl, n, rfl, _⟩ := h
    rfl
  obtain ⟨wl, n, rfl, n0, n1, W, q⟩ := h
  refine ⟨_, (pss_of (qss_cons (qs_set (i := 2) sc_law_names.nd rfl (Or.inl rfl) (qe_lst qa_nil) (by kernel_rfl)) (qss_cons (qs_of (ps_for PassesOwn.never rfl (pi_range1 rfl B.range (pa_of (qa_c (pe_op op_add pe_int (pe_calN C_law_next (hr.mono (by decide)) rfl (pa_of (qa_c (pv 0) (qa_c (pv 1) qa_nil))) (he := star_plain _ _ _ rfl) (hpl := plain_any rfl))) qa_nil))) (pg_name (i := 3) sc_law_names.nd rfl (Or.inl rfl)) (pss_of (qss_cons (qs_set (i := 4) sc_law_names.nd rfl (Or.inl rfl) (qe_of (pe_calN C_law_name (hr.mono (by decide)) rfl (pa_of (qa_c (pv 0) qa_nil)) (he := star_plain _ _ _ rfl) (hpl := plain_any rfl))) (by kernel_rfl)) (qss_one (qs_if (pt_cmpR op_notIn_seq (pv 4) (pv 2) (by with_unfolding_all rfl)) (qss_one (qs_of (ps_expr (pe_bm PySem.F.plainAttrs_list PySem.F.slot_list_append PySem.F.type_list_append mt_append (pv 2) (pa_of (qa_c (pv 4) qa_nil)))))) qss_nil)))))) (qss_one (qs_ret (qe_of (pv 2))))))), ?_⟩
  walk_at "w0"
  refine ⟨Nat.zero_le _, fun pf hf => ?_⟩
  have nw := W.ne hf
  have S1 := same_new hf (.lst [])
  have W1 := W.same S1
  have e1 : upd H pf (.lst []) pf = some (.lst (([] : List Str).map V.str)) := upd_same
  generalize upd H pf (.lst []) = H1 at *
  refine drw3 W1 n0 (by omega) fun r H2 a2 b2 W2 B2 => ?_
  have e2 := B2 pf _ nw e1
  walk_at "w0"
  refine ⟨by omega, by omega, ?_⟩
  refine ForR.by (fun i σ H' => (∃ us : List Str, us.length ≤ i ∧ (0 < i → us ≠ []) ∧ (∀ u ∈ us, goodN u) ∧ us.Nodup ∧ H' pf = some (.lst (us.map V.str))) ∧ (∃ v8 v9, σ = [some (.ref wl), some (.int n), some (.ref pf), v8, v9]) ∧ Well3 H' wl ∧ But wl H H') ⟨⟨[], Nat.le_refl _, fun z => absurd z (Nat.lt_irrefl _), (fun u hu => absurd hu List.not_mem_nil), List.nodup_nil, e2⟩, ⟨_, _, rfl⟩, W2, (Same.but S1).trans B2⟩ ?_ ?_
  · rintro i σ H9 hi ⟨⟨us, ul, u0, ug, un, ue⟩, ⟨v8, v9, rfl⟩, W9, B9⟩
    walk_at "w0"
    refine ⟨wl, rfl, W9, fun u H3 g W3 B3 => ?_⟩
    have ue3 := B3 pf _ nw ue
    walk_at "w0"
    refine ⟨pf, _, rfl, .inl (SqL.of ue3), rfl, flat_strs us, ?_⟩
    rw [inV_str]
    by_cases c : u ∈ us
    · try simp only [decide_eq_true c, Bool.not_true, w_seq, w_next, w_ifS, w_ret, w_retN, w_drop, w_asg, w_gName, w_gSub, w_var, w_c, w_op, w_un, w_rU, w_rI0, w_rI, w_test, w_b, w_and, w_or, w_not, w_andV, w_orV, w_notV, w_if, w_cons, w_nil, w_tup, w_lst, w_call, w_cB, w_eq, w_ne, w_isN, w_notN, w_chain, w_sl, w_part, w_noPart, w_forL, w_for1, w_for2, w_K, w_for3, w_isnotB, w_raise, w_try, w_KX, w_cut, w_compL, w_comp1, w_comp2, w_yes, w_pick0, w_pickN, w_pickS, w_bm, w_bm0, w_tyS, w_addS, w_slS, w_blkK, w_strs, w_methD, w_makeN, w_make, w_fld, w_gTup, w_gCons, w_gNil, w_sFld, w_compS, w_tryB, w_bmake, w_noKeys, w_nev, w_never, Option.getD_some,  exists_const, false_or, or_false, exists_false, w_s1, w_s2, w_s3, w_s4, w_s5, L2.start, List.map_cons, List.map_nil, List.length_cons, List.length_nil, List.replicate, List.replicate_zero, List.replicate_succ, Nat.reduceAdd, Nat.reduceSub, Nat.reduceLeDiff, List.cons_append, List.nil_append, List.append_nil, List.set_cons_zero, List.set_cons_succ, List.getElem?_cons_zero, List.getElem?_cons_succ, Option.some.injEq, V.int.injEq, V.bl.injEq, V.ref.injEq, V.str.injEq, V.ty.injEq, List.cons.injEq, and_true, true_and, exists_eq_left, exists_eq_left', exists_and_left, exists_eq, exists_eq', and_self, decide_eq_true_eq, Bool.not_eq_true', decide_eq_false_iff_not, Bool.true_eq_false, Bool.false_eq_true, if_true, if_false, ite_true, ite_false, false_and, and_false, and_assoc, reduceCtorEq]
      exact ⟨⟨us, by omega, (fun _ z => by rw [z] at c; exact absurd c List.not_mem_nil), ug, un, ue3⟩, W3, B9.trans B3⟩
    · try simp only [decide_eq_false c, Bool.not_false, w_seq, w_next, w_ifS, w_ret, w_retN, w_drop, w_asg, w_gName, w_gSub, w_var, w_c, w_op, w_un, w_rU, w_rI0, w_rI, w_test, w_b, w_and, w_or, w_not, w_andV, w_orV, w_notV, w_if, w_cons, w_nil, w_tup, w_lst, w_call, w_cB, w_eq, w_ne, w_isN, w_notN, w_chain, w_sl, w_part, w_noPart, w_forL, w_for1, w_for2, w_K, w_for3, w_isnotB, w_raise, w_try, w_KX, w_cut, w_compL, w_comp1, w_comp2, w_yes, w_pick0, w_pickN, w_pickS, w_bm, w_bm0, w_tyS, w_addS, w_slS, w_blkK, w_strs, w_methD, w_makeN, w_make, w_fld, w_gTup, w_gCons, w_gNil, w_sFld, w_compS, w_tryB, w_bmake, w_noKeys, w_nev, w_never, Option.getD_some,  exists_const, false_or, or_false, exists_false, w_s1, w_s2, w_s3, w_s4, w_s5, L2.start, List.map_cons, List.map_nil, List.length_cons, List.length_nil, List.replicate, List.replicate_zero, List.replicate_succ, Nat.reduceAdd, Nat.reduceSub, Nat.reduceLeDiff, List.cons_append, List.nil_append, List.append_nil, List.set_cons_zero, List.set_cons_succ, List.getElem?_cons_zero, List.getElem?_cons_succ, Option.some.injEq, V.int.injEq, V.bl.injEq, V.ref.injEq, V.str.injEq, V.ty.injEq, List.cons.injEq, and_true, true_and, exists_eq_left, exists_eq_left', exists_and_left, exists_eq, exists_eq', and_self, decide_eq_true_eq, Bool.not_eq_true', decide_eq_false_iff_not, Bool.true_eq_false, Bool.false_eq_true, if_true, if_false, ite_true, ite_false, false_and, and_false, and_assoc, reduceCtorEq]
      refine ⟨.inl ⟨rfl, _, SqL.of ue3⟩, pf, _, _, rfl, rfl, ue3, ?_, ?_⟩
      · rw [List.length_map]
        exact Nat.lt_of_le_of_lt (by omega : us.length ≤ 1000) (by decide)
      · have W12 : Well3 (upd H3 pf (.lst (us.map V.str ++ [.str u]))) wl := by
          obtain ⟨x1, x2, x3, e⟩ := W3
          exact ⟨x1, x2, x3, by rw [upd_ne (fun z => nw z.symm)]; exact e⟩
        refine ⟨⟨us ++ [u], by rw [List.length_append, List.length_singleton]; omega, fun _ z => by simp at z, fun y hy => ?_, ?_, by rw [upd_same, List.map_append]; rfl⟩, W12, fun b o nb e => ?_⟩
        · rcases List.mem_append.mp hy with z | z
          · exact ug y z
          · rw [List.mem_singleton.mp z]; exact g
        · rw [List.nodup_append]
          exact ⟨un, by simp, fun x hx y hy e => c (by rw [List.mem_singleton.mp hy] at e; rw [← e]; exact hx)⟩
        · rw [upd_ne (ne_of_none e hf)]
          exact B3 b o nb (B9 b o nb e)
  · rintro σ H9 ⟨⟨us, ul, u0, ug, un, ue⟩, ⟨v8, v9, rfl⟩, W9, B9⟩
    walk_at "w0"
    exact q pf us H9 (u0 (by omega)) (by omega) ug un W9 B9 hf ue
theorem clsN (B : Bt K mg a) {k : Int} (hk : k = 1 ∨ k = 2) : Cls K (clsOf a k.toNat) ∧ NoAttr K (clsOf a k.toNat) "names" := by
  rcases hk with rfl | rfl
  · exact ⟨B.ck_Kind.cl, B.na_Kind_names⟩
  · exact ⟨B.ck_Place.cl, B.na_Place_names⟩
theorem clsF (B : Bt K mg a) {k : Int} (hk : k = 5 ∨ k = 6) : Cls K (clsOf a k.toNat) ∧ NoAttr K (clsOf a k.toNat) "fits" := by
  rcases hk with rfl | rfl
  · exact ⟨B.ck_Both.cl, B.na_Both_fits⟩
  · exact ⟨B.ck_Either.cl, B.na_Either_fits⟩
theorem ix0 (n : Nat) : ixN (n + 1) 0 = some 0 := by
  unfold ixN
  rw [if_pos (Int.le_refl _), if_pos (by omega)]
  rfl
theorem ins_ne {H : Hp} {p l C dx : Addr} {fs : List (Str × V)} {xs : List V} (h : H p = some (.ins C dx fs)) (h2 : H l = some (.lst xs)) : p ≠ l := ne_of h h2 (by intro z; cases z)
theorem ok_law_named (B : Bt K mg a) (C_law_made : CalX P w K mg base "_law_made" ["_law_at", "_law_thing"] 6 (sp_law_made K a)) (C_law_is_kind : CalX P w K mg base "_law_is_kind" ["_law_fit", "_law_at"] 2 (sp_law_is_kind K a)) (F : Fun K "_law_named" "_law_named" s_law_named f fd) : FnOk P w K mg base CX0 7 f fd ["_law_at", "_law_names_here"] (sp_law_named K a) := by
  refine F.ok sc_law_named (fun vs H Q E h => ?_) (fun cdv A outer s H vs Q E hr h => ?_)
  · obtain ⟨k, np, us, rfl, _⟩ := h
    rfl
  obtain ⟨k, np, us, rfl, hk, hg, q⟩ := h
  refine ⟨_, (pss_of (qss_cons (qs_set (i := 2) sc_law_named.nd rfl (Or.inl rfl) (qe_of (pe_callTy call_list_of rfl B.list PyProof.Rows.boot_list (pa_of (qa_c (pv 1) qa_nil)))) (by kernel_rfl)) (qss_cons (qs_set (i := 3) sc_law_named.nd rfl (Or.inl rfl) (qe_of (pe_calN C_law_made (hr.mono (by decide)) rfl (pa_of (qa_c (pv 0) (qa_c (pv 2) qa_nil))) (he := star_plain _ _ _ rfl) (hpl := plain_any rfl))) (by kernel_rfl)) (qss_cons (qs_if (L2.PW.pt (pw_or (pt_cmpR (op_neD hr.units) (pv 2) (pv 1) (nomark _)) (pw_or (pt_not (pt_val (pe_calN C_law_is_kind (hr.mono (by decide)) rfl (pa_of (qa_c (pv 3) (qa_c (pv 0) qa_nil))) (he := star_plain _ _ _ rfl) (hpl := plain_any rfl)))) (pw_or (pt_not (pt_val (pe_callB (isiG_at (K := K) (T := "list") rfl) rfl B.isinstance PyProof.Rows.boot_isinstance (pa_of (qa_c (pe_fld (pv 3) rfl) (qa_c (pe_bltn (v := .ty "list") rfl B.list PyProof.Rows.boot_list rfl) qa_nil))) (he := star_plain _ _ _ rfl) (hpl := plain_any rfl)))) (pw_or1 (pt_cmpR (op_neD hr.units) (pe_fld (pv 3) rfl) (pv 1) (nomark _))))))) (qss_one (qs_ret (qe_of pe_bl))) qss_nil) (qss_cons (qs_of (ps_expr (pe_bm PySem.F.plainAttrs_list PySem.F.slot_list_append PySem.F.type_list_append mt_append (pv 2) (pa_of (qa_c pe_str qa_nil))))) (qss_cons (qs_of (ps_asg pe_str (pg_sub (pv 2) pe_int set_list))) (qss_one (qs_ret (qe_of (pe_cmpR (op_eqD hr.units) (pe_fld (pv 3) rfl) (pv 1) (nomark _))))))))))), ?_⟩
  obtain ⟨np', ee, hp, ne, hl, hgd, nd⟩ := id hg
  cases ee
  obtain ⟨c1, c2⟩ := clsN B hk
  have gsh : SeqAt.shaped (.list (us.map PyData.str)) = true := (shaped_of (Nat.zero_le _) (lay_strs fun u hu => good_str (hgd u hu))).1
  walk_at "w0"
  refine ⟨_, .inl (SqL.of hp), fun h1 hh1 => ?_⟩
  have S1 := same_new hh1 (.lst (us.map V.str))
  have e1 : upd H h1 (.lst (us.map V.str)) h1 = some (.lst (us.map V.str)) := upd_same
  generalize upd H h1 (.lst (us.map V.str)) = H1 at *
  refine ⟨k, .ref h1, rfl, .inl ⟨hk, us, ⟨h1, rfl, e1, ne, hl, hgd, nd⟩, fun r l H2 S2 hl0 e2 f2 => ?_⟩⟩
  walk_at "w0"
  refine eqd (.lst (S2 _ _ e1) (rds_strs us)) (.lst ((S1.trans S2) _ _ hp) (rds_strs us)) gsh ?_
  walk_at "w0"
  refine ⟨r, k.toNat, _, by rw [Int.toNat_of_nonneg (by omega)], by omega, f2, fun H3 S3 => ?_⟩
  obtain ⟨dx, f3⟩ := f2.same S3
  have e3 := S3 _ _ e2
  walk_at "w1"
  refine ⟨_, _, _, f3, c1, c2, .ref l, rfl, ?_⟩
  walk_at "w0"
  refine ⟨_, _, true, rfl, .lst e3, by kernel_rfl, ?_⟩
  walk_at "w1"
  refine ⟨_, _, _, f3, c1, c2, .ref l, rfl, ?_⟩
  walk_at "w0"
  have h3 := (S2.trans S3) _ _ e1
  have n3 := (S1.trans (S2.trans S3)) _ _ hp
  refine eqd (.lst e3 (rds_strs us)) (.lst n3 (rds_strs us)) gsh ?_
  walk_at "w0"
  have ln : l ≠ h1 := fun z => by rw [z, e1] at hl0; cases hl0
  have rn : r ≠ h1 := ins_ne f3 h3
  have nn : np ≠ h1 := ne_of_none hp hh1
  refine ⟨.inl ⟨rfl, _, SqL.of h3⟩, h1, _, _, rfl, rfl, h3, ?_, ?_⟩
  · rw [List.length_map]
    exact Nat.lt_of_le_of_lt (by omega : us.length ≤ 1000) (by decide)
  · refine setl upd_same (j := 0) (by rw [List.length_append]; exact ix0 _) ?_
    have k1 : ∀ {b : Addr} {o o' o'' : HO}, b ≠ h1 → H3 b = some o → upd (upd H3 h1 o') h1 o'' b = some o := fun nb e => by
      rw [upd_ne nb, upd_ne nb]
      exact e
    refine ⟨_, _, _, k1 rn f3, c1, c2, .ref l, rfl, ?_⟩
    walk_at "w0"
    refine eqd (.lst (k1 ln e3) (rds_strs us)) (.lst (k1 nn n3) (rds_strs us)) gsh ?_
    exact q _ fun b o e => k1 (ne_of_none e hh1) ((S1.trans (S2.trans S3)) b o e)
def LsAt (a : Ad) (H : Hp) : List Addr → List Int → Prop
  | [], [] => True
  | p :: ps, n :: ns => FitAt a H p 3 [("weight", .int n)] ∧ LsAt a H ps ns
  | _, _ => False
theorem LsAt.same {H H' : Hp} (s : Same H H') : ∀ {ps : List Addr} {ns : List Int}, LsAt a H ps ns → LsAt a H' ps ns
  | [], [], _ => trivial
  | _ :: _, _ :: _, h => ⟨h.1.same s, LsAt.same s h.2⟩
  | [], _ :: _, h => h.elim
  | _ :: _, [], h => h.elim
theorem LsAt.snoc {H : Hp} {p : Addr} {n : Int} (h : FitAt a H p 3 [("weight", .int n)]) : ∀ {ps : List Addr} {ns : List Int}, LsAt a H ps ns → LsAt a H (ps ++ [p]) (ns ++ [n])
  | [], [], _ => ⟨h, trivial⟩
  | _ :: _, _ :: _, k => ⟨k.1, LsAt.snoc h k.2⟩
  | [], _ :: _, k => k.elim
  | _ :: _, [], k => k.elim
theorem LsAt.len {H : Hp} : ∀ {ps : List Addr} {ns : List Int}, LsAt a H ps ns → ps.length = ns.length
  | [], [], _ => rfl
  | _ :: _, _ :: _, k => by rw [List.length_cons, List.length_cons, LsAt.len k.2]
  | [], _ :: _, k => k.elim
  | _ :: _, [], k => k.elim
theorem LsAt.at {H : Hp} : ∀ {ps : List Addr} {ns : List Int} {i : Nat} {p : Addr}, LsAt a H ps ns → ps[i]? = some p → ∃ n, ns[i]? = some n ∧ FitAt a H p 3 [("weight", .int n)]
  | p0 :: _, n0 :: _, 0, p, k, e => by
    have : p0 = p := by simpa using e
    exact ⟨n0, rfl, this ▸ k.1⟩
  | _ :: ps, _ :: ns, i + 1, p, k, e => by
    obtain ⟨n, e1, f⟩ := LsAt.at (ps := ps) (ns := ns) (i := i) k.2 (by simpa using e)
    exact ⟨n, by simpa using e1, f⟩
  | [], _, _, _, _, e => by simp at e
  | _ :: _, [], _, _, k, _ => k.elim
theorem LsAt.ins {H H' : Hp} (s : ∀ (b C dx : Addr) (fs : List (Str × V)), H b = some (.ins C dx fs) → H' b = some (.ins C dx fs)) : ∀ {ps : List Addr} {ns : List Int}, LsAt a H ps ns → LsAt a H' ps ns
  | [], [], _ => trivial
  | _ :: _, _ :: _, h => ⟨let ⟨dx, e⟩ := h.1; ⟨dx, s _ _ _ _ e⟩, LsAt.ins s h.2⟩
  | [], _ :: _, h => h.elim
  | _ :: _, [], h => h.elim
theorem ok_law_several (B : Bt K mg a) (C_law_made : CalX P w K mg base "_law_made" ["_law_at", "_law_thing"] 6 (sp_law_made K a)) (CC_Least : CalC P w K mg base "Least" a.Least ["self", "weight"] 3 (sp_Least___init__ K a)) (C_law_is_kind : CalX P w K mg base "_law_is_kind" ["_law_fit", "_law_at"] 2 (sp_law_is_kind K a)) (F : Fun K "_law_several" "_law_several" s_law_several f fd) : FnOk P w K mg base CX0 7 f fd ["_law_at", "_law_weights"] (sp_law_several K a) := by
  refine F.ok sc_law_several (fun vs H Q E h => ?_) (fun cdv A outer s H vs Q E hr h => ?_)
  · obtain ⟨k, wp, ns, rfl, _⟩ := h
    rfl
  obtain ⟨k, wp, ns, rfl, hk, hw, l2, l50, n0, q⟩ := h
  refine ⟨_, (pss_of (qss_cons (qs_of (ps_compB (i := 2) ["_law_weight"] [none] rfl (by kernel_rfl) sc_law_several.nd rfl rfl (pi_list (pv 1)) (fun cl C s H fp => ⟨(pg_name (i := 0) (by decide : List.Nodup (["_law_weight"] : List Str)) rfl (Or.inl (by kernel_rfl)) (Or.inr (by kernel_rfl))), pts_nil, (pe_mak CC_Least pass00 (hr.mono (by decide)) (gl_of (by kernel_rfl)) (pa_of (qa_c (pv 0 (hv := Or.inl (by kernel_rfl))) qa_nil)) (he := star_plain _ _ _ rfl) (hpl := plain_any rfl))⟩))) (qss_cons (qs_set (i := 3) sc_law_several.nd rfl (Or.inl rfl) (qe_of (pe_calN C_law_made (hr.mono (by decide)) rfl (pa_of (qa_c (pv 0) (qa_c (pv 2) qa_nil))) (he := star_plain _ _ _ rfl) (hpl := plain_any rfl))) (by kernel_rfl)) (qss_cons (qs_if (L2.PW.pt (pw_or (pt_cmpR op_ne (pe_callB call_len_seq rfl B.len PySem.boot_len (pa_of (qa_c (pv 2) qa_nil))) (pe_callB call_len_seq rfl B.len PySem.boot_len (pa_of (qa_c (pv 1) qa_nil))) (nomark _)) (pw_or (pt_not (pt_val (pe_calN C_law_is_kind (hr.mono (by decide)) rfl (pa_of (qa_c (pv 3) (qa_c (pv 0) qa_nil))) (he := star_plain _ _ _ rfl) (hpl := plain_any rfl)))) (pw_or1 (pt_not (pt_val (pe_callB (isiG_at (K := K) (T := "list") rfl) rfl B.isinstance PyProof.Rows.boot_isinstance (pa_of (qa_c (pe_fld (pv 3) rfl) (qa_c (pe_bltn (v := .ty "list") rfl B.list PyProof.Rows.boot_list rfl) qa_nil))) (he := star_plain _ _ _ rfl) (hpl := plain_any rfl)))))))) (qss_one (qs_ret (qe_of pe_bl))) qss_nil) (qss_cons (qs_of (ps_expr (pe_bm PySem.F.plainAttrs_list PySem.F.slot_list_append PySem.F.type_list_append mt_append (pv 2) (pa_of (qa_c (pe_makN B.mk_Any rfl B.Any) qa_nil))))) (qss_cons (qs_of (ps_asg (pe_makN B.mk_Any rfl B.Any) (pg_sub (pv 2) pe_int set_list))) (qss_cons (qs_of (ps_compB (i := 4) ["_law_one"] [none] rfl (by kernel_rfl) sc_law_several.nd rfl rfl (pi_list (pe_fld (pv 3) rfl)) (fun cl C s H fp => ⟨(pg_name (i := 0) (by decide : List.Nodup (["_law_one"] : List Str)) rfl (Or.inl (by kernel_rfl)) (Or.inr (by kernel_rfl))), (pts_one (pt_val (pe_callB (isiV_at (K := K) rfl) (gl_of (by kernel_rfl)) B.isinstance PyProof.Rows.boot_isinstance (pa_of (qa_c (pv 0 (hv := Or.inl (by kernel_rfl))) (qa_c (pe_glob (v := .ref _) (gl_of (by kernel_rfl)) B.Least rfl) qa_nil))) (he := star_plain _ _ _ rfl) (hpl := plain_any rfl)))), (pv 0 (hv := Or.inl (by kernel_rfl)))⟩))) (qss_one (qs_ret (qe_of (pe_and (pe_cmpR op_eq (pe_callB call_len_seq rfl B.len PySem.boot_len (pa_of (qa_c (pe_fld (pv 3) rfl) qa_nil))) (pe_callB call_len_seq rfl B.len PySem.boot_len (pa_of (qa_c (pv 1) qa_nil))) (nomark _)) (pe_one (pe_cmpR (op_eqD hr.units) (pe_compB ["_law_one"] [none] rfl (by kernel_rfl) (pi_list (pv 4)) (fun cl C s H fp => ⟨(pg_name (i := 0) (by decide : List.Nodup (["_law_one"] : List Str)) rfl (Or.inl (by kernel_rfl)) (Or.inr (by kernel_rfl))), pts_nil, (fld_at (K := K) rfl (pv 0 (hv := Or.inl (by kernel_rfl))) rfl)⟩)) (pv 1) (nomark _)))))))))))))), ?_⟩
  obtain ⟨c1, c2⟩ := clsF B hk
  obtain ⟨_, _, _, i3, _, _, _, iF⟩ := kits B (n := 3) (by decide)
  walk_at "w0"
  refine ⟨⟨_, SqL.of hw⟩, ?_⟩
  refine CompL.by (xs := ns.map V.int) (fun i acc σ H' => (∃ ps : List Addr, acc = ps.map V.ref ∧ LsAt a H' ps (ns.take i)) ∧ (∃ v, σ = [v]) ∧ Same H H') (sz8 (by rw [List.length_map]; omega)) ⟨⟨[], rfl, trivial⟩, ⟨_, rfl⟩, fun _ _ z => z⟩ (fun i acc σ H' _ h => SqL.of (h.2.2 _ _ hw)) ?_ ?_ ?_
  · rintro i y acc σ H' hy ⟨⟨ps, rfl, hL⟩, ⟨v, rfl⟩, S1⟩
    rw [List.getElem?_map] at hy
    obtain ⟨n, en, ey⟩ := Option.map_eq_some_iff.mp hy
    subst ey
    have ea : ns.take (i + 1) = ns.take i ++ [n] := by
      rw [List.take_succ, en]
      rfl
    walk_at "w0"
    intro x dx hx hd hne
    have S2 := made_same (o := .own x) (o' := .ins a.Least dx []) hx hd
    refine ⟨x, dx, _, rfl, upd_same, ⟨_, .int n, by kernel_rfl, by kernel_rfl⟩, .inl ⟨n, rfl, n0 n (List.mem_of_getElem? en), ?_⟩⟩
    have S3 : Same H' (upd (upd (upd H' dx (.own x)) x (.ins a.Least dx [])) x (.ins a.Least dx [("weight", .int n)])) := fun b o e => by
      rw [upd_ne (ne_of_none e hx)]
      exact S2 b o e
    have new : ∃ qs : List Addr, ps.map V.ref ++ [V.ref x] = qs.map V.ref ∧ LsAt a (upd (upd (upd H' dx (.own x)) x (.ins a.Least dx [])) x (.ins a.Least dx [("weight", .int n)])) qs (ns.take (i + 1)) := by
      refine ⟨ps ++ [x], by rw [List.map_append]; rfl, ?_⟩
      rw [ea]
      exact LsAt.snoc ⟨dx, upd_same⟩ (hL.same S3)
    first | exact ⟨rfl, new, ⟨_, rfl⟩, S1.trans S3⟩ | exact ⟨rfl, new, S1.trans S3⟩ | exact ⟨new, S1.trans S3⟩
  · rintro i acc σ H' ⟨⟨ps, rfl, hL⟩, _, _⟩
    rw [List.length_map, hL.len, List.length_take]
    omega
  · rintro acc σ H0 ⟨⟨ps, rfl, hL⟩, ⟨v, rfl⟩, S0⟩ h1 hh1
    rw [List.length_map, List.take_length] at hL
    have pl := hL.len
    have S1 := same_new hh1 (.lst (ps.map V.ref))
    have e1 : upd H0 h1 (.lst (ps.map V.ref)) h1 = some (.lst (ps.map V.ref)) := upd_same
    have hh := S0.free hh1
    generalize upd H0 h1 (.lst (ps.map V.ref)) = H1 at *
    have hL1 := hL.same S1
    have SA := S0.trans S1
    have okf : ∀ r ∈ ps.map V.ref, okF K a H1 r true := fun r hr => by
      obtain ⟨p, hp, rfl⟩ := List.mem_map.mp hr
      obtain ⟨j, hj, ej⟩ := List.getElem_of_mem hp
      obtain ⟨n, _, f⟩ := hL1.at (i := j) (p := p) (by rw [List.getElem?_eq_getElem hj, ej])
      exact ⟨_, fit_ty B (by decide) f, iF⟩
    walk_at "w0"
    refine ⟨k, .ref h1, rfl, .inr (.inl ⟨hk, _, ⟨h1, rfl, e1, by rw [List.length_map]; omega, by rw [List.length_map]; omega, okf⟩, fun r l H2 S2 hl0 e2 f2 => ?_⟩)⟩
    walk_at "w0"
    refine ⟨_, .inl (SqL.of (S2 _ _ e1)), _, .inl (SqL.of ((SA.trans S2) _ _ hw)), ?_⟩
    rw [if_neg (fun z => z (by rw [List.length_map, List.length_map, pl]))]
    refine ⟨r, k.toNat, _, by rw [Int.toNat_of_nonneg (by omega)], by omega, f2, fun H3 S3 => ?_⟩
    obtain ⟨dx, f3⟩ := f2.same S3
    have e3 := S3 _ _ e2
    have h3 := (S2.trans S3) _ _ e1
    have w3 := (SA.trans (S2.trans S3)) _ _ hw
    have hL3 := hL1.same (S2.trans S3)
    have SB := SA.trans (S2.trans S3)
    have ln : l ≠ h1 := fun z => by rw [z, e1] at hl0; cases hl0
    have rn : r ≠ h1 := ins_ne f3 h3
    have wn : wp ≠ h1 := ne_of_none hw hh
    walk_at "w0"
    refine ⟨_, _, _, f3, c1, c2, .ref l, rfl, ?_⟩
    walk_at "w0"
    refine ⟨_, _, true, rfl, .lst e3, by kernel_rfl, ?_⟩
    walk_at "w0"
    refine ⟨.inl ⟨rfl, _, SqL.of h3⟩, fun x dx1 hx hd hne => ?_⟩
    have T1 := made_same (o := .own x) (o' := .ins a.Any dx1 []) hx hd
    have h4 := T1 _ _ h3
    generalize upd (upd H3 dx1 (.own x)) x (.ins a.Any dx1 []) = H4 at *
    refine ⟨h1, _, _, rfl, rfl, h4, ?_, ?_⟩
    · rw [List.length_map]
      exact Nat.lt_of_le_of_lt (by omega : ps.length ≤ 1000) (by decide)
    · have e5 : upd H4 h1 (.lst (ps.map V.ref ++ [.ref x])) h1 = some (.lst (ps.map V.ref ++ [.ref x])) := upd_same
      have K5 : ∀ {b : Addr} {o : HO}, b ≠ h1 → H4 b = some o → upd H4 h1 (.lst (ps.map V.ref ++ [.ref x])) b = some o := fun nb e => by rw [upd_ne nb]; exact e
      generalize upd H4 h1 (.lst (ps.map V.ref ++ [.ref x])) = H5 at *
      intro y dy hy hd2 hne2
      have T2 := made_same (o := .own y) (o' := .ins a.Any dy []) hy hd2
      have e6 := T2 _ _ e5
      generalize upd (upd H5 dy (.own y)) y (.ins a.Any dy []) = H6 at *
      refine setl e6 (j := 0) (by rw [List.length_append]; exact ix0 _) ?_
      have K7 : ∀ {b : Addr} {o o' : HO}, b ≠ h1 → H3 b = some o → upd H6 h1 o' b = some o := fun nb e => by rw [upd_ne nb]; exact T2 _ _ (K5 nb (T1 _ _ e))
      have f7 := K7 (o' := .lst ((ps.map V.ref ++ [V.ref x]).set 0 (.ref y))) rn f3
      have e7 := K7 (o' := .lst ((ps.map V.ref ++ [V.ref x]).set 0 (.ref y))) ln e3
      have w7 := K7 (o' := .lst ((ps.map V.ref ++ [V.ref x]).set 0 (.ref y))) wn w3
      have hL7 := hL3.ins (H' := upd H6 h1 (.lst ((ps.map V.ref ++ [V.ref x]).set 0 (.ref y)))) fun b C dx fs e => K7 (ins_ne e h3) e
      have S7 : Same H (upd H6 h1 (.lst ((ps.map V.ref ++ [V.ref x]).set 0 (.ref y)))) := fun b o e => K7 (ne_of_none e hh) (SB b o e)
      generalize upd H6 h1 (.lst ((ps.map V.ref ++ [V.ref x]).set 0 (.ref y))) = H7 at *
      clear K7 K5 T1 T2 e5 e6 h4 hy hd2 hx hd hne hne2
      walk_at "w0"
      refine ⟨_, _, _, f7, c1, c2, .ref l, rfl, ?_⟩
      walk_at "w0"
      refine ⟨⟨_, SqL.of e7⟩, ?_⟩
      refine CompL.by (xs := ps.map V.ref) (fun i acc σ H' => acc = (ps.take i).map V.ref ∧ (∃ v, σ = [v]) ∧ H' = H7) (sz8 (by rw [List.length_map]; omega)) ⟨rfl, ⟨_, rfl⟩, rfl⟩ (fun i acc σ H' _ h => by rw [h.2.2]; exact SqL.of e7) ?_ ?_ ?_
      · rintro i z acc σ H' hz ⟨rfl, ⟨v, rfl⟩, rfl⟩
        rw [List.getElem?_map] at hz
        obtain ⟨p, ep, ez⟩ := Option.map_eq_some_iff.mp hz
        subst ez
        obtain ⟨n, en, fp⟩ := hL7.at ep
        have ea : (ps.take i).map V.ref ++ [V.ref p] = (ps.take (i + 1)).map V.ref := by
          rw [List.take_succ, ep, List.map_append]
          rfl
        walk_at "w0"
        refine ⟨_, _, _, true, rfl, fit_ty B (by decide) fp, i3, ?_⟩
        walk_at "w0"
        first | exact ⟨ea, ⟨_, rfl⟩, rfl⟩ | exact ea
      · rintro i acc σ H' ⟨rfl, _, _⟩
        rw [List.length_map, List.length_take]
        omega
      · rintro acc σ H' ⟨rfl, ⟨v, rfl⟩, rfl⟩ D hD
        rw [List.length_map, List.take_length]
        have S8 := same_new hD (.lst (ps.map V.ref))
        have e8 : upd H' D (.lst (ps.map V.ref)) D = some (.lst (ps.map V.ref)) := upd_same
        have f8 := S8 _ _ f7
        have l8 := S8 _ _ e7
        have w8 := S8 _ _ w7
        have hL8 := hL7.same S8
        have S9 := S7.trans S8
        generalize upd H' D (.lst (ps.map V.ref)) = H8 at *
        walk_at "w0"
        refine ⟨_, _, _, f8, c1, c2, .ref l, rfl, ?_⟩
        walk_at "w0"
        refine ⟨_, .inl (SqL.of l8), _, .inl (SqL.of w8), ?_⟩
        rw [if_pos (by rw [List.length_map, List.length_map, pl])]
        refine ⟨⟨_, SqL.of e8⟩, ?_⟩
        refine CompL.by (xs := ps.map V.ref) (fun i acc σ H' => acc = (ns.take i).map V.int ∧ (∃ v, σ = [v]) ∧ H' = H8) (sz8 (by rw [List.length_map]; omega)) ⟨rfl, ⟨_, rfl⟩, rfl⟩ (fun i acc σ H' _ h => by rw [h.2.2]; exact SqL.of e8) ?_ ?_ ?_
        · rintro i z acc σ H' hz ⟨rfl, ⟨v, rfl⟩, rfl⟩
          rw [List.getElem?_map] at hz
          obtain ⟨p, ep, ez⟩ := Option.map_eq_some_iff.mp hz
          subst ez
          obtain ⟨n, en, dz, fp⟩ := hL8.at ep
          have ea : (ns.take i).map V.int ++ [V.int n] = (ns.take (i + 1)).map V.int := by
            rw [List.take_succ, en, List.map_append]
            rfl
          walk_at "w0"
          refine ⟨_, _, _, fp, B.ck_Least.cl, B.na_Least_weight, .int n, rfl, ?_⟩
          first | exact ⟨ea, ⟨_, rfl⟩, rfl⟩ | exact ea
        · rintro i acc σ H' ⟨rfl, _, _⟩
          rw [List.length_map, List.length_take]
          omega
        · rintro acc σ H' ⟨rfl, ⟨v, rfl⟩, rfl⟩ D2 hD2
          rw [List.length_map, pl, List.take_length]
          refine eqd (.lst upd_same (rds_ints ns)) (.lst (same_new hD2 _ _ _ w8) (rds_ints ns)) (shaped_of (Nat.zero_le _) (lay_ints ns)).1 ?_
          exact q _ (S9.trans (same_new hD2 _))
theorem NoNm.but3 {H H' : Hp} {w : Addr} {x : V} (h : NoNm K H x) (nx : x ≠ .ref w) (W0 : Well3 H w) (W : Well3 H' w) (s : But w H H') : NoNm K H' x := by
  rcases h with ⟨p, xs, e, hp, hl, hn, r⟩ | h
  · exact .inl ⟨p, xs, e, s _ _ (fun z => nx (by rw [e, z])) hp, hl, fun y hy => (hn y hy).but W s, r⟩
  · exact .inr (h.but3 W0 W s)
theorem NoFs.but3 {H H' : Hp} {w : Addr} {x : V} (h : NoFs K a H x) (nx : x ≠ .ref w) (W0 : Well3 H w) (W : Well3 H' w) (s : But w H H') : NoFs K a H' x := by
  rcases h with ⟨p, xs, e, hp, hl, r⟩ | h
  · refine .inl ⟨p, xs, e, s _ _ (fun z => nx (by rw [e, z])) hp, hl, ?_⟩
    rcases r with r | ⟨pre, y, post, e2, r1, r2⟩
    · exact .inl r
    · exact .inr ⟨pre, y, post, e2, fun z hz => (r1 z hz).but3 W0 W s, r2.but3 W0 W s⟩
  · exact .inr (h.but3 W0 W s)
theorem BadT.but3 {H H' : Hp} {w : Addr} {k : Int} {x : V} (h : BadT K a H k x) (nx : x ≠ .ref w) (W0 : Well3 H w) (W : Well3 H' w) (s : But w H H') : BadT K a H' k x := by
  rcases h with ⟨e, h⟩ | ⟨e, h, r⟩ | ⟨e, h⟩ | ⟨e, h⟩
  · exact .inl ⟨e, h.but3 nx W0 W s⟩
  · exact .inr (.inl ⟨e, h.but3 W0 W s, r⟩)
  · exact .inr (.inr (.inl ⟨e, h.but3 W0 W s⟩))
  · exact .inr (.inr (.inr ⟨e, h.but3 nx W0 W s⟩))
/-- what is no fit and no list, by its type -/
theorem okF_no (B : Bt K mg a) {H : Hp} {x : V} (h : okN H x) : okF K a H x false := by
  cases x with
  | non => exact ⟨_, .non, B.noFit_NoneType⟩
  | bl b => exact ⟨_, .bl b, B.noFit_bool⟩
  | int i => exact ⟨_, .int i, B.noFit_int⟩
  | str u => exact ⟨_, .str u, B.noFit_str⟩
  | ref p =>
    rcases h with ⟨xs, e⟩ | ⟨xs, e⟩ | ⟨xs, e⟩
    · exact ⟨_, .lst e, B.noFit_list⟩
    · exact ⟨_, .tup e, B.noFit_tuple⟩
    · exact ⟨_, .dK e, B.noFit_dict⟩
  | _ => exact h.elim
theorem noL_no {H : Hp} {x : V} (h : okN H x) (n : ∀ p xs, x = .ref p → H p ≠ some (.lst xs)) : noL K H x := by
  cases x with
  | non => exact ⟨_, .non, by kernel_rfl⟩
  | bl b => exact ⟨_, .bl b, by kernel_rfl⟩
  | int i => exact ⟨_, .int i, by kernel_rfl⟩
  | str u => exact ⟨_, .str u, by kernel_rfl⟩
  | ref p =>
    rcases h with ⟨xs, e⟩ | ⟨xs, e⟩ | ⟨xs, e⟩
    · exact absurd e (n p xs rfl)
    · exact ⟨_, .tup e, by kernel_rfl⟩
    · exact ⟨_, .dK e, by kernel_rfl⟩
  | _ => exact h.elim
theorem okI_no {H : Hp} {x : V} (h : okV H x) : okI K H x := by
  obtain ⟨T, ty, e1, e2, _⟩ := h.ty (K := K)
  exact ⟨_, ty, e1, e2⟩
theorem okI_fit (B : Bt K mg a) {H : Hp} {p : Addr} {fs : List (Str × V)} (h : FitAt a H p 4 fs) : okI K H (.ref p) := ⟨_, fit_ty B (by decide) h, B.is_Not_int, B.is_Not_bool⟩
theorem noL_fit (B : Bt K mg a) {H : Hp} {p : Addr} {fs : List (Str × V)} (h : FitAt a H p 4 fs) : noL K H (.ref p) := ⟨_, fit_ty B (by decide) h, B.is_Not_list⟩
theorem okF_fit (B : Bt K mg a) {H : Hp} {p : Addr} {n : Nat} {fs : List (Str × V)} (h6 : n ≤ 6) (h : FitAt a H p n fs) : okF K a H (.ref p) true := ⟨_, fit_ty B h6 h, (kits B h6).2.2.2.2.2.2.2⟩
theorem okF_hap (B : Bt K mg a) {H : Hp} {p dx : Addr} {fs : List (Str × V)} (h : H p = some (.ins a.Happening dx fs)) : okF K a H (.ref p) false := ⟨_, B.ck_Happening.ty h, B.is_Happening_Fit⟩
def eHold (t : TE) : TE := t
theorem w_eHold {t : TE} {σ : L2.St} {H : Hp} {Q : VK} : eHold t σ H Q = t σ H Q := rfl
theorem pe_hold {X : Cx} {e : Expr} {t : TE} (h : PE X e t) : PE X e (eHold t) := h
theorem same_id (H : Hp) : Same H H := fun _ _ z => z
def tHold (t : TS) : TS := t
theorem w_hold {t : TS} {D : Ends} {σ : L2.St} {H : Hp} : tHold t D σ H = t D σ H := rfl
theorem hold_ret {t : TE} {nx : L2.St → Hp → Prop} {rt : VK} {bk ct : L2.St → Hp → Prop} {σ : L2.St} {H : Hp} (h : t σ H rt) : tHold (tRet t) { nx := nx, rt := rt, bk := bk, ct := ct } σ H := h
theorem qss_hold {X : Cx} {b : List Stmt} {t : TS} (h : QSs X b t) : QSs X b (tHold t) := h
theorem nf_short {H : Hp} {p : Addr} {xs : List V} (e : H p = some (.lst xs)) (l : xs.length < 2) : NoFs K a H (.ref p) := .inl ⟨p, xs, rfl, e, by omega, .inl l⟩
theorem nf_at {H : Hp} {p : Addr} {pre : List V} {y : V} {post : List V} (e : H p = some (.lst (pre ++ y :: post))) (l : (pre ++ y :: post).length ≤ 100) (h1 : ∀ r ∈ pre, okF K a H r true) (h2 : okF K a H y false) : NoFs K a H (.ref p) := .inl ⟨p, _, rfl, e, l, .inr ⟨pre, y, post, rfl, h1, h2⟩⟩
theorem nn_at {H : Hp} {p : Addr} {xs : List V} (e : H p = some (.lst xs)) (l : xs.length ≤ 100) (ok : ∀ z ∈ xs, okN H z) {y : V} (m : y ∈ xs) (b : nameB y = false) : NoNm K H (.ref p) := by
  refine .inl ⟨p, xs, rfl, e, l, ok, .inl ?_⟩
  unfold namesB
  have : xs.all nameB = false := by
    rw [List.all_eq_false]
    exact ⟨y, m, by rw [b]; exact Bool.false_ne_true⟩
  rw [this, Bool.false_and]
theorem nn_dup {H : Hp} {p : Addr} {xs : List V} (e : H p = some (.lst xs)) (l : xs.length ≤ 100) (ok : ∀ z ∈ xs, okN H z) (nd : ¬ (xs.map strV).Nodup) : NoNm K H (.ref p) := by
  refine .inl ⟨p, xs, rfl, e, l, ok, .inl ?_⟩
  unfold namesB
  rw [decide_eq_false nd, Bool.and_false]
theorem str_ok {H : Hp} {us : List Str} (ug : ∀ u ∈ us, goodN u) {z : V} (hz : z ∈ us.map V.str) : okN H z := by
  obtain ⟨u, hu, rfl⟩ := List.mem_map.mp hz
  exact ⟨(good_sm (ug u hu)).1, by have := (good_sm (ug u hu)).2; omega⟩
theorem strV_map (us : List Str) : (us.map V.str).map strV = us := by rw [List.map_map]; exact List.map_id us
theorem dup_l {us : List Str} {z : Str} (h : z ∈ us) : ¬ ((us.map V.str ++ [V.str z]).map strV).Nodup := by
  rw [List.map_append, strV_map]
  intro n
  exact (List.nodup_append.mp n).2.2 z h z (List.mem_singleton.mpr rfl) rfl
theorem dup_f {us : List Str} {z : Str} (h : z ∈ us) : ¬ (([V.str z] ++ us.map V.str).map strV).Nodup := by
  rw [List.map_append, strV_map]
  intro n
  exact (List.nodup_append.mp n).2.2 z (List.mem_singleton.mpr rfl) z h rfl
theorem drop_last : ∀ {us : List Str} (h : us ≠ []), us.drop (us.length - 1) = [us.getLast h]
  | [_], _ => rfl
  | _ :: b :: r, _ => by
    have := drop_last (us := b :: r) (by intro z; cases z)
    simpa using this
theorem cut_last {us : List Str} (h : us ≠ []) : ∃ z ∈ us, cutV (us.map V.str) (some (-1)) none = [V.str z] := by
  refine ⟨us.getLast h, List.getLast_mem h, ?_⟩
  have l0 : 0 < us.length := List.length_pos_iff.mpr h
  have e1 : HT.sIx (us.map V.str).length 0 (some (-1)) = us.length - 1 := by
    simp only [HT.sIx, List.length_map]
    rw [if_pos (by decide)]
    omega
  unfold cutV
  rw [e1, HT.sIx_none, List.length_map, ← List.map_drop, ← List.map_take, drop_last h, List.take_of_length_le (by simp only [List.length_singleton]; omega)]
  rfl
theorem cut_first {u : Str} {r : List Str} : cutV ((u :: r).map V.str) none (some 1) = [V.str u] := by
  have e1 : HT.sIx ((u :: r).map V.str).length ((u :: r).map V.str).length (some 1) = 1 := by
    have := HT.sIx_nat ((u :: r).map V.str).length ((u :: r).map V.str).length 1
    rw [show ((1 : Nat) : Int) = 1 from rfl] at this
    rw [this, List.length_map, List.length_cons]
    omega
  unfold cutV
  rw [e1, HT.sIx_none]
  rfl
theorem cut_map (ns : List Int) (lo hi : Option Int) : ∃ ms : List Int, cutV (ns.map V.int) lo hi = ms.map V.int ∧ ms.length ≤ ns.length := by
  unfold cutV
  rw [List.length_map, ← List.map_drop, ← List.map_take]
  exact ⟨_, rfl, by rw [List.length_take, List.length_drop]; omega⟩
theorem ok_law_odd (B : Bt K mg a) (CC_Happening : CalC P w K mg base "Happening" a.Happening ["self", "kind", "place", "weight"] 3 (sp_Happening___init__ K a)) (F : Fun K "_law_odd" "_law_odd" s_law_odd f fd) : FnOk P w K mg base CX0 5 f fd ["_law_at", "_law_names_here", "_law_weight", "_law_fit"] (sp_law_odd K a) := by
  refine F.ok sc_law_odd (fun vs H Q E h => ?_) (fun cdv A outer s H vs Q E hr h => ?_)
  · obtain ⟨k, n, np, fp, w0, us, fs, rfl, _⟩ := h
    rfl
  obtain ⟨k, n, np, fp, w0, us, fs, rfl, k1, k6, n0, n1, hn, une, ul6, ug, hf, W, nw, q⟩ := h
  refine ⟨_, (pss_of (qss_cons (qs_if (pt_cmpR op_lt (pv 0) pe_int (nomark _)) (qss_hold (qss_cons (qs_set (i := 4) sc_law_odd.nd rfl (Or.inl rfl) (qe_lst (qa_c pe_str (qa_c pe_str (qa_c (pe_op op_add_str (pe_ix ix_list (pv 1) pe_int (fun _ _ => rfl)) pe_str) (qa_c pe_non (qa_c pe_int (qa_c pe_bl (qa_c (pe_lst (pa_of (qa_c (pe_ix ix_list (pv 1) pe_int (fun _ _ => rfl)) qa_nil))) qa_nil)))))))) (by kernel_rfl)) (qss_hold (qss_cons (qs_set (i := 5) sc_law_odd.nd rfl (Or.inl rfl) (qe_op op_cat (qe_of (pe_compB ["_law_one", "_law_names_here"] [none, some 1] rfl (by kernel_rfl) (pi_list (pv 4)) (fun cl C s H fp => ⟨(pg_name (i := 0) (by decide : List.Nodup (["_law_one", "_law_names_here"] : List Str)) rfl (Or.inl (by kernel_rfl)) (Or.inr (by kernel_rfl))), pts_nil, (pe_op op_cat (pv 1 (hv := Or.inr (Or.inl (by kernel_rfl)))) (pe_lst (pa_of (qa_c (pv 0 (hv := Or.inl (by kernel_rfl))) qa_nil))))⟩))) (qe_of (pe_compB ["_law_one", "_law_names_here"] [none, some 1] rfl (by kernel_rfl) (pi_list (pv 4)) (fun cl C s H fp => ⟨(pg_name (i := 0) (by decide : List.Nodup (["_law_one", "_law_names_here"] : List Str)) rfl (Or.inl (by kernel_rfl)) (Or.inr (by kernel_rfl))), pts_nil, (pe_op op_cat (pe_lst (pa_of (qa_c (pv 0 (hv := Or.inl (by kernel_rfl))) qa_nil))) (pv 1 (hv := Or.inr (Or.inl (by kernel_rfl)))))⟩)))) (by kernel_rfl)) (qss_hold (qss_one (qs_ret (qe_op op_cat (qe_of (pv 5)) (qe_lst (qa_c (pe_lst (pa_of qa_nil)) (qa_c (pe_callTy call_tuple_of rfl B.tuple PyProof.Rows.boot_tuple (pa_of (qa_c (pv 1) qa_nil))) (qa_c (pe_ix ix_list (pv 1) pe_int (fun _ _ => rfl)) (qa_c pe_non (qa_c pe_int (qa_c pe_noKeys (qa_c (pe_op op_cat (pv 1) (pe_slice sl_list (pv 1) (po_some (pe_un un_neg pe_int)) po_none)) (qa_c (pe_op op_cat (pe_slice sl_list (pv 1) po_none (po_some pe_int)) (pv 1)) (qa_c (pv 3) qa_nil)))))))))))))))))) qss_nil) (qss_cons (qs_if (pt_cmpR op_eq (pv 0) pe_int (nomark _)) (qss_hold (qss_one (qs_ret (qe_lst (qa_c (pe_un un_neg pe_int) (qa_c (pe_op op_sub (pe_un un_neg pe_int) (pv 2)) (qa_c pe_bl (qa_c pe_bl (qa_c pe_non (qa_c (pe_callTy call_str_int rfl B.str PyProof.Rows.boot_str (pa_of (qa_c (pv 2) qa_nil))) (qa_c (pe_lst (pa_of (qa_c (pv 2) qa_nil))) (qa_c (pe_tup (pa_of (qa_c (pv 2) qa_nil))) (qa_c (pv 1) (qa_c (pv 3) qa_nil)))))))))))))) qss_nil) (qss_cons (qs_if (pt_cmpR op_eq (pv 0) pe_int (nomark _)) (qss_hold (qss_one (qs_ret (qe_lst (qa_c pe_non (qa_c pe_str (qa_c pe_int (qa_c pe_bl (qa_c (pe_lst (pa_of (qa_c (pv 3) qa_nil))) (qa_c (pe_tup (pa_of (qa_c (pv 3) qa_nil))) (qa_c (pv 1) (qa_c (pe_ix ix_list (pv 1) pe_int (fun _ _ => rfl)) (qa_c (pe_hold (pe_mak CC_Happening pass00 (hr.mono (by decide)) rfl (pa_of (qa_c (pe_ix ix_list (pv 1) pe_int (fun _ _ => rfl)) (qa_c (pe_ix ix_list (pv 1) pe_int (fun _ _ => rfl)) (qa_c (pv 2) qa_nil)))) (he := star_plain _ _ _ rfl) (hpl := plain_any rfl))) (qa_c pe_noKeys qa_nil)))))))))))))) qss_nil) (qss_hold (qss_cons (qs_set (i := 5) sc_law_odd.nd rfl (Or.inl rfl) (qe_lst (qa_c (pe_lst (pa_of qa_nil)) (qa_c (pe_lst (pa_of (qa_c (pv 3) qa_nil))) (qa_c (pe_tup (pa_of (qa_c (pv 3) (qa_c (pv 3) qa_nil)))) (qa_c (pv 3) (qa_c pe_non (qa_c pe_str (qa_c pe_int (qa_c pe_noKeys (qa_c (pe_lst (pa_of (qa_c pe_non (qa_c (pv 3) qa_nil)))) (qa_c (pe_lst (pa_of (qa_c (pv 3) (qa_c pe_non qa_nil)))) (qa_c (pe_lst (pa_of (qa_c (pv 3) (qa_c pe_str qa_nil)))) (qa_c (pe_lst (pa_of (qa_c (pv 3) (qa_c (pv 3) (qa_c pe_int qa_nil))))) qa_nil))))))))))))) (by kernel_rfl)) (qss_hold (qss_one (qs_ret (qe_op op_cat (qe_of (pv 5)) (qe_lst (qa_c (pe_lst (pa_of (qa_c (pv 3) (qa_c (pe_lst (pa_of (qa_c (pv 3) (qa_c (pv 3) qa_nil)))) qa_nil)))) (qa_c (pe_lst (pa_of (qa_c (pv 3) (qa_c (pe_ix ix_list (pv 1) pe_int (fun _ _ => rfl)) (qa_c (pv 3) qa_nil))))) (qa_c (pe_lst (pa_of (qa_c (pv 3) (qa_c (pe_hold (pe_mak CC_Happening pass00 (hr.mono (by decide)) rfl (pa_of (qa_c (pe_ix ix_list (pv 1) pe_int (fun _ _ => rfl)) (qa_c (pe_ix ix_list (pv 1) pe_int (fun _ _ => rfl)) (qa_c (pv 2) qa_nil)))) (he := star_plain _ _ _ rfl) (hpl := plain_any rfl))) qa_nil)))) qa_nil)))))))))))))), ?_⟩
  have hlog : n.natAbs.log2 < 1920 := by
    by_cases hz : n.natAbs = 0
    · rw [hz]; decide
    · have := (Nat.log2_lt hz).mpr (show n.natAbs < 2 ^ 20 by omega)
      omega
  obtain ⟨w1, w2, w3, ew⟩ := id W
  have nf : fp ≠ w0 := by obtain ⟨dx, e⟩ := id hf; exact ins_ne e ew
  have fresh : ∀ {H' : Hp} {p : Addr}, Same H H' → H' p = none → V.ref p ≠ .ref w0 := fun s h z => by
    have e : _ = w0 := V.ref.inj z
    have := s _ _ ew
    rw [← e, h] at this
    cases this
  have npn : V.ref np ≠ .ref w0 := fun z => nw (V.ref.inj z)
  have fpn : V.ref fp ≠ .ref w0 := fun z => nf (V.ref.inj z)
  obtain ⟨ul, ulm, cl⟩ := cut_last une
  obtain ⟨u0, us0, eus⟩ : ∃ u r, us = u :: r := by
    cases us with
    | nil => exact absurd rfl une
    | cons u r => exact ⟨u, r, rfl⟩
  have um0 : u0 ∈ us := by rw [eus]; exact List.mem_cons_self
  have gu0 := ug u0 um0
  have iu0 : atI (us.map V.str) 0 = some (.str u0) := atI_nat (j := 0) (by rw [eus]; rfl)
  have cf : cutV (us.map V.str) none (some 1) = [.str u0] := by rw [eus]; exact cut_first
  have smB : Sm (Str.ofString " ") := ⟨by decide +kernel, by decide +kernel⟩
  have bdB : badC (Str.ofString " ") := by decide +kernel
  have lnB : (Str.ofString " ").length = 1 := by decide +kernel
  have oB : Odd (u0 ++ Str.ofString " ") := odd_r (good_sm gu0) smB bdB
  have l8 := gu0.2.1
  clear eus
  walk_at "w0"
  by_cases c3 : k < 3
  · rw [if_pos c3]
    first | rw [w_hold] | (dsimp only; rw [w_hold])
    walk_at "w0"
    refine ixl (SqL.of ((same_id _) _ _ hn)) (v := .str u0) iu0 ?_
    walk_at "w0"
    refine ⟨sz8 (by rw [lnB]; omega), ?_⟩
    refine ixl (SqL.of ((same_id _) _ _ hn)) (v := .str u0) iu0 ?_
    walk_at "w0"
    refine ⟨sz8 (by first | decide | (simp only [List.length_cons, List.length_nil]; decide)), fun pS hpS => ?_⟩
    have SpS := same_new hpS (.lst [.str u0])
    have gpS := fresh (same_id _) hpS
    have epS : upd H pS (.lst [.str u0]) pS = some (.lst [.str u0]) := upd_same
    generalize upd H pS (.lst [.str u0]) = J1 at *
    refine ⟨sz8 (by first | decide | (simp only [List.length_cons, List.length_nil]; decide)), fun pB hpB => ?_⟩
    have SpB := same_new hpB (.lst [.str (Str.ofString ""), .str (Str.ofString "A"), .str (u0 ++ Str.ofString " "), .non, .int 5, .bl true, .ref pS])
    have gpB := fresh SpS hpB
    have epB : upd J1 pB (.lst [.str (Str.ofString ""), .str (Str.ofString "A"), .str (u0 ++ Str.ofString " "), .non, .int 5, .bl true, .ref pS]) pB = some (.lst [.str (Str.ofString ""), .str (Str.ofString "A"), .str (u0 ++ Str.ofString " "), .non, .int 5, .bl true, .ref pS]) := upd_same
    generalize upd J1 pB (.lst [.str (Str.ofString ""), .str (Str.ofString "A"), .str (u0 ++ Str.ofString " "), .non, .int 5, .bl true, .ref pS]) = J2 at *
    have bok : ∀ y ∈ ([.str (Str.ofString ""), .str (Str.ofString "A"), .str (u0 ++ Str.ofString " "), .non, .int 5, .bl true, .ref pS] : List V), okN J2 y ∧ nameB y = false := fun y hy => by
      simp only [List.mem_cons, List.not_mem_nil, or_false] at hy
      rcases hy with rfl | rfl | rfl | rfl | rfl | rfl | rfl
      · exact ⟨⟨by decide +kernel, by decide +kernel⟩, by decide +kernel⟩
      · exact ⟨⟨by decide +kernel, by decide +kernel⟩, by decide +kernel⟩
      · exact ⟨oB.1, decide_eq_false oB.2⟩
      · exact ⟨trivial, rfl⟩
      · exact ⟨trivial, rfl⟩
      · exact ⟨trivial, rfl⟩
      · exact ⟨.inl ⟨_, (SpB _ _ epS)⟩, rfl⟩
    have bl7 : ([.str (Str.ofString ""), .str (Str.ofString "A"), .str (u0 ++ Str.ofString " "), .non, .int 5, .bl true, .ref pS] : List V).length = 7 := rfl
    generalize ([.str (Str.ofString ""), .str (Str.ofString "A"), .str (u0 ++ Str.ofString " "), .non, .int 5, .bl true, .ref pS] : List V) = badL at *
    first | rw [w_hold] | (dsimp only; rw [w_hold])
    walk_at "w0"
    refine ⟨⟨_, SqL.of ((same_id _) _ _ epB)⟩, ?_⟩
    refine CompL.by (xs := badL) (fun i acc σ H' => acc.length = i ∧ (∀ x ∈ acc, NoNm K H' x ∧ x ≠ .ref w0) ∧ (∃ v, σ = [v, some (.ref np)]) ∧ Same J2 H') (by rw [bl7]; exact sz8 (by decide)) ⟨rfl, (fun x hx => absurd hx List.not_mem_nil), ⟨_, rfl⟩, fun _ _ z => z⟩ (fun i acc σ H' _ h => SqL.of (h.2.2.2 _ _ ((same_id _) _ _ epB))) ?_ ?_ ?_
    · rintro i y acc σ H' hy ⟨hl, ha, ⟨v, rfl⟩, S'⟩
      have hyb := List.mem_of_getElem? hy
      have SH := (SpS.trans SpB).trans S'
      have yo := (bok y hyb).1.same ((same_id _).trans S')
      have yb := (bok y hyb).2
      walk_at "w0"
      refine ⟨sz8 (by first | decide | (simp only [List.length_cons, List.length_nil]; decide)), fun r1 hr1 => ?_⟩
      have T1 := same_new hr1 (.lst [y])
      have er1 : upd H' r1 (.lst [y]) r1 = some (.lst [y]) := upd_same
      generalize upd H' r1 (.lst [y]) = G1 at *
      have hn1 := (SH.trans T1) _ _ hn
      refine ⟨np, r1, _, _, rfl, rfl, hn1, er1, sz8 (by simp only [List.length_map, List.length_cons, List.length_nil]; omega), fun r2 hr2 => ?_⟩
      have T2 := same_new hr2 (.lst (us.map V.str ++ [y]))
      have g2 := fresh (SH.trans T1) hr2
      have er2 : upd G1 r2 (.lst (us.map V.str ++ [y])) r2 = some (.lst (us.map V.str ++ [y])) := upd_same
      generalize upd G1 r2 (.lst (us.map V.str ++ [y])) = G2 at *
      have TT := T1.trans T2
      have nb : NoNm K G2 (.ref r2) := nn_at er2 (by simp only [List.length_append, List.length_map, List.length_cons, List.length_nil]; omega) (fun z hz => by
        rcases List.mem_append.mp hz with hz | hz
        · exact str_ok ug hz
        · rw [List.mem_singleton.mp hz]; exact yo.same TT) (y := y) (List.mem_append.mpr (.inr (List.mem_singleton.mpr rfl))) yb
      have new : (acc ++ [V.ref r2]).length = i + 1 ∧ (∀ x ∈ acc ++ [V.ref r2], NoNm K G2 x ∧ x ≠ .ref w0) := ⟨by rw [List.length_append, hl]; rfl, fun x hx => by
        rcases List.mem_append.mp hx with hx | hx
        · exact ⟨(ha x hx).1.same TT, (ha x hx).2⟩
        · rw [List.mem_singleton.mp hx]; exact ⟨nb, g2⟩⟩
      first | exact ⟨new.1, new.2, ⟨_, rfl⟩, S'.trans TT⟩ | exact ⟨new.1, new.2, S'.trans TT⟩
    · rintro i acc σ H' ⟨hl, _⟩
      omega
    rintro accA σ J3 ⟨hlA, haA, ⟨vA, rfl⟩, SCA⟩ pA hpA
    rw [bl7] at hlA
    have SpA := same_new hpA (.lst accA)
    have gpA := fresh (SpS.trans (SpB.trans SCA)) hpA
    have epA : upd J3 pA (.lst accA) pA = some (.lst accA) := upd_same
    generalize upd J3 pA (.lst accA) = J4 at *
    refine ⟨⟨_, SqL.of ((SCA.trans SpA) _ _ epB)⟩, ?_⟩
    refine CompL.by (xs := badL) (fun i acc σ H' => acc.length = i ∧ (∀ x ∈ acc, NoNm K H' x ∧ x ≠ .ref w0) ∧ (∃ v, σ = [v, some (.ref np)]) ∧ Same J4 H') (by rw [bl7]; exact sz8 (by decide)) ⟨rfl, (fun x hx => absurd hx List.not_mem_nil), ⟨_, rfl⟩, fun _ _ z => z⟩ (fun i acc σ H' _ h => SqL.of (h.2.2.2 _ _ ((SCA.trans SpA) _ _ epB))) ?_ ?_ ?_
    · rintro i y acc σ H' hy ⟨hl, ha, ⟨v, rfl⟩, S'⟩
      have hyb := List.mem_of_getElem? hy
      have SH := (SpS.trans (SpB.trans (SCA.trans SpA))).trans S'
      have yo := (bok y hyb).1.same ((SCA.trans SpA).trans S')
      have yb := (bok y hyb).2
      walk_at "w0"
      refine ⟨sz8 (by first | decide | (simp only [List.length_cons, List.length_nil]; decide)), fun r1 hr1 => ?_⟩
      have T1 := same_new hr1 (.lst [y])
      have er1 : upd H' r1 (.lst [y]) r1 = some (.lst [y]) := upd_same
      generalize upd H' r1 (.lst [y]) = G1 at *
      have hn1 := (SH.trans T1) _ _ hn
      refine ⟨r1, np, _, _, rfl, rfl, er1, hn1, sz8 (by simp only [List.length_map, List.length_cons, List.length_nil]; omega), fun r2 hr2 => ?_⟩
      have T2 := same_new hr2 (.lst ([y] ++ us.map V.str))
      have g2 := fresh (SH.trans T1) hr2
      have er2 : upd G1 r2 (.lst ([y] ++ us.map V.str)) r2 = some (.lst ([y] ++ us.map V.str)) := upd_same
      generalize upd G1 r2 (.lst ([y] ++ us.map V.str)) = G2 at *
      have TT := T1.trans T2
      have nb : NoNm K G2 (.ref r2) := nn_at er2 (by simp only [List.length_append, List.length_map, List.length_cons, List.length_nil]; omega) (fun z hz => by
        rcases List.mem_append.mp hz with hz | hz
        · rw [List.mem_singleton.mp hz]; exact yo.same TT
        · exact str_ok ug hz) (y := y) (List.mem_append.mpr (.inl (List.mem_singleton.mpr rfl))) yb
      have new : (acc ++ [V.ref r2]).length = i + 1 ∧ (∀ x ∈ acc ++ [V.ref r2], NoNm K G2 x ∧ x ≠ .ref w0) := ⟨by rw [List.length_append, hl]; rfl, fun x hx => by
        rcases List.mem_append.mp hx with hx | hx
        · exact ⟨(ha x hx).1.same TT, (ha x hx).2⟩
        · rw [List.mem_singleton.mp hx]; exact ⟨nb, g2⟩⟩
      first | exact ⟨new.1, new.2, ⟨_, rfl⟩, S'.trans TT⟩ | exact ⟨new.1, new.2, S'.trans TT⟩
    · rintro i acc σ H' ⟨hl, _⟩
      omega
    rintro accB2 σ J5 ⟨hlB2, haB2, ⟨vB2, rfl⟩, SCB2⟩ pB2 hpB2
    rw [bl7] at hlB2
    have SpB2 := same_new hpB2 (.lst accB2)
    have gpB2 := fresh (SpS.trans (SpB.trans (SCA.trans (SpA.trans SCB2)))) hpB2
    have epB2 : upd J5 pB2 (.lst accB2) pB2 = some (.lst accB2) := upd_same
    generalize upd J5 pB2 (.lst accB2) = J6 at *
    have eA := ((SCB2.trans SpB2) _ _ epA)
    refine ⟨pA, pB2, _, _, rfl, rfl, eA, epB2, sz8 (by omega), fun pC hpC => ?_⟩
    have SpC := same_new hpC (.lst (accA ++ accB2))
    have gpC := fresh (SpS.trans (SpB.trans (SCA.trans (SpA.trans (SCB2.trans SpB2))))) hpC
    have epC : upd J6 pC (.lst (accA ++ accB2)) pC = some (.lst (accA ++ accB2)) := upd_same
    generalize upd J6 pC (.lst (accA ++ accB2)) = J7 at *
    first | rw [w_hold] | (dsimp only; rw [w_hold])
    walk_at "w0"
    refine ⟨Nat.zero_le _, fun q1 hq1 => ?_⟩
    have Sq1 := same_new hq1 (.lst [])
    have gq1 := fresh (SpS.trans (SpB.trans (SCA.trans (SpA.trans (SCB2.trans (SpB2.trans SpC)))))) hq1
    have eq1 : upd J7 q1 (.lst []) q1 = some (.lst []) := upd_same
    generalize upd J7 q1 (.lst []) = J8 at *
    refine ⟨_, .inl ⟨SqL.of ((SpS.trans (SpB.trans (SCA.trans (SpA.trans (SCB2.trans (SpB2.trans (SpC.trans Sq1))))))) _ _ hn), fun q2 hq2 => ?_⟩⟩
    have Sq2 := same_new hq2 (.tup (us.map V.str))
    have gq2 := fresh (SpS.trans (SpB.trans (SCA.trans (SpA.trans (SCB2.trans (SpB2.trans (SpC.trans Sq1))))))) hq2
    have eq2 : upd J8 q2 (.tup (us.map V.str)) q2 = some (.tup (us.map V.str)) := upd_same
    generalize upd J8 q2 (.tup (us.map V.str)) = J9 at *
    walk_at "w0"
    refine ixl (SqL.of ((SpS.trans (SpB.trans (SCA.trans (SpA.trans (SCB2.trans (SpB2.trans (SpC.trans (Sq1.trans Sq2)))))))) _ _ hn)) (v := .str u0) iu0 ?_
    walk_at "w0"
    intro d1 hd1
    have Sd1 := same_new hd1 (.dK [])
    have gd1 := fresh (SpS.trans (SpB.trans (SCA.trans (SpA.trans (SCB2.trans (SpB2.trans (SpC.trans (Sq1.trans Sq2)))))))) hd1
    have ed1 : upd J9 d1 (.dK []) d1 = some (.dK []) := upd_same
    generalize upd J9 d1 (.dK []) = J10 at *
    walk_at "w0"
    refine ⟨np, _, rfl, SqL.of ((SpS.trans (SpB.trans (SCA.trans (SpA.trans (SCB2.trans (SpB2.trans (SpC.trans (Sq1.trans (Sq2.trans Sd1))))))))) _ _ hn), fun q3 hq3 => ?_⟩
    have Sq3 := same_new hq3 (.lst (cutV (us.map V.str) (some (-1)) none))
    have gq3 := fresh (SpS.trans (SpB.trans (SCA.trans (SpA.trans (SCB2.trans (SpB2.trans (SpC.trans (Sq1.trans (Sq2.trans Sd1))))))))) hq3
    have eq3 : upd J10 q3 (.lst (cutV (us.map V.str) (some (-1)) none)) q3 = some (.lst (cutV (us.map V.str) (some (-1)) none)) := upd_same
    generalize upd J10 q3 (.lst (cutV (us.map V.str) (some (-1)) none)) = J11 at *
    rw [cl] at eq3
    refine ⟨np, q3, _, _, rfl, rfl, (SpS.trans (SpB.trans (SCA.trans (SpA.trans (SCB2.trans (SpB2.trans (SpC.trans (Sq1.trans (Sq2.trans (Sd1.trans Sq3)))))))))) _ _ hn, eq3, sz8 (by simp only [List.length_map, List.length_cons, List.length_nil]; omega), fun q4 hq4 => ?_⟩
    have Sq4 := same_new hq4 (.lst (us.map V.str ++ [.str ul]))
    have gq4 := fresh (SpS.trans (SpB.trans (SCA.trans (SpA.trans (SCB2.trans (SpB2.trans (SpC.trans (Sq1.trans (Sq2.trans (Sd1.trans Sq3)))))))))) hq4
    have eq4 : upd J11 q4 (.lst (us.map V.str ++ [.str ul])) q4 = some (.lst (us.map V.str ++ [.str ul])) := upd_same
    generalize upd J11 q4 (.lst (us.map V.str ++ [.str ul])) = J12 at *
    walk_at "w0"
    refine ⟨np, _, rfl, SqL.of ((SpS.trans (SpB.trans (SCA.trans (SpA.trans (SCB2.trans (SpB2.trans (SpC.trans (Sq1.trans (Sq2.trans (Sd1.trans (Sq3.trans Sq4))))))))))) _ _ hn), fun q5 hq5 => ?_⟩
    have Sq5 := same_new hq5 (.lst (cutV (us.map V.str) none (some 1)))
    have gq5 := fresh (SpS.trans (SpB.trans (SCA.trans (SpA.trans (SCB2.trans (SpB2.trans (SpC.trans (Sq1.trans (Sq2.trans (Sd1.trans (Sq3.trans Sq4))))))))))) hq5
    have eq5 : upd J12 q5 (.lst (cutV (us.map V.str) none (some 1))) q5 = some (.lst (cutV (us.map V.str) none (some 1))) := upd_same
    generalize upd J12 q5 (.lst (cutV (us.map V.str) none (some 1))) = J13 at *
    rw [cf] at eq5
    refine ⟨q5, np, _, _, rfl, rfl, eq5, (SpS.trans (SpB.trans (SCA.trans (SpA.trans (SCB2.trans (SpB2.trans (SpC.trans (Sq1.trans (Sq2.trans (Sd1.trans (Sq3.trans (Sq4.trans Sq5)))))))))))) _ _ hn, sz8 (by simp only [List.length_map, List.length_cons, List.length_nil]; omega), fun q6 hq6 => ?_⟩
    have Sq6 := same_new hq6 (.lst ([.str u0] ++ us.map V.str))
    have gq6 := fresh (SpS.trans (SpB.trans (SCA.trans (SpA.trans (SCB2.trans (SpB2.trans (SpC.trans (Sq1.trans (Sq2.trans (Sd1.trans (Sq3.trans (Sq4.trans Sq5)))))))))))) hq6
    have eq6 : upd J13 q6 (.lst ([.str u0] ++ us.map V.str)) q6 = some (.lst ([.str u0] ++ us.map V.str)) := upd_same
    generalize upd J13 q6 (.lst ([.str u0] ++ us.map V.str)) = J14 at *
    walk_at "w0"
    refine ⟨sz8 (by first | decide | (simp only [List.length_cons, List.length_nil]; decide)), fun q7 hq7 => ?_⟩
    have Sq7 := same_new hq7 (.lst [.ref q1, .ref q2, .str u0, .non, .int 7, .ref d1, .ref q4, .ref q6, .ref fp])
    have gq7 := fresh (SpS.trans (SpB.trans (SCA.trans (SpA.trans (SCB2.trans (SpB2.trans (SpC.trans (Sq1.trans (Sq2.trans (Sd1.trans (Sq3.trans (Sq4.trans (Sq5.trans Sq6))))))))))))) hq7
    have eq7 : upd J14 q7 (.lst [.ref q1, .ref q2, .str u0, .non, .int 7, .ref d1, .ref q4, .ref q6, .ref fp]) q7 = some (.lst [.ref q1, .ref q2, .str u0, .non, .int 7, .ref d1, .ref q4, .ref q6, .ref fp]) := upd_same
    generalize upd J14 q7 (.lst [.ref q1, .ref q2, .str u0, .non, .int 7, .ref d1, .ref q4, .ref q6, .ref fp]) = J15 at *
    refine ⟨pC, q7, _, _, rfl, rfl, ((Sq1.trans (Sq2.trans (Sd1.trans (Sq3.trans (Sq4.trans (Sq5.trans (Sq6.trans Sq7))))))) _ _ epC), eq7, sz8 (by simp only [List.length_append, List.length_cons, List.length_nil]; omega), fun q8 hq8 => ?_⟩
    have Sq8 := same_new hq8 (.lst ((accA ++ accB2) ++ [.ref q1, .ref q2, .str u0, .non, .int 7, .ref d1, .ref q4, .ref q6, .ref fp]))
    have gq8 := fresh (SpS.trans (SpB.trans (SCA.trans (SpA.trans (SCB2.trans (SpB2.trans (SpC.trans (Sq1.trans (Sq2.trans (Sd1.trans (Sq3.trans (Sq4.trans (Sq5.trans (Sq6.trans Sq7)))))))))))))) hq8
    have eq8 : upd J15 q8 (.lst ((accA ++ accB2) ++ [.ref q1, .ref q2, .str u0, .non, .int 7, .ref d1, .ref q4, .ref q6, .ref fp])) q8 = some (.lst ((accA ++ accB2) ++ [.ref q1, .ref q2, .str u0, .non, .int 7, .ref d1, .ref q4, .ref q6, .ref fp])) := upd_same
    generalize upd J15 q8 (.lst ((accA ++ accB2) ++ [.ref q1, .ref q2, .str u0, .non, .int 7, .ref d1, .ref q4, .ref q6, .ref fp])) = J16 at *
    refine q q8 _ _ (SpS.trans (SpB.trans (SCA.trans (SpA.trans (SCB2.trans (SpB2.trans (SpC.trans (Sq1.trans (Sq2.trans (Sd1.trans (Sq3.trans (Sq4.trans (Sq5.trans (Sq6.trans (Sq7.trans Sq8))))))))))))))) ((SpS.trans (SpB.trans (SCA.trans (SpA.trans (SCB2.trans (SpB2.trans (SpC.trans (Sq1.trans (Sq2.trans (Sd1.trans (Sq3.trans (Sq4.trans (Sq5.trans (Sq6.trans Sq7)))))))))))))).free hq8) eq8 (by simp only [List.length_append, List.length_cons, List.length_nil]; omega) (by simp only [List.length_append, List.length_cons, List.length_nil]; omega) ?_
    have ff := hf.same (SpS.trans (SpB.trans (SCA.trans (SpA.trans (SCB2.trans (SpB2.trans (SpC.trans (Sq1.trans (Sq2.trans (Sd1.trans (Sq3.trans (Sq4.trans (Sq5.trans (Sq6.trans (Sq7.trans Sq8)))))))))))))))
    have k12 : k = 1 ∨ k = 2 := by omega
    have SA9 := (SpA.trans (SCB2.trans (SpB2.trans (SpC.trans (Sq1.trans (Sq2.trans (Sd1.trans (Sq3.trans (Sq4.trans (Sq5.trans (Sq6.trans (Sq7.trans Sq8))))))))))))
    have SB9 := (SpB2.trans (SpC.trans (Sq1.trans (Sq2.trans (Sd1.trans (Sq3.trans (Sq4.trans (Sq5.trans (Sq6.trans (Sq7.trans Sq8))))))))))
    intro x hx
    rcases List.mem_append.mp hx with hx | hx
    · rcases List.mem_append.mp hx with hx | hx
      · exact ⟨.inl ⟨k12, (haA x hx).1.same SA9⟩, (haA x hx).2⟩
      · exact ⟨.inl ⟨k12, (haB2 x hx).1.same SB9⟩, (haB2 x hx).2⟩
    simp only [List.mem_cons, List.not_mem_nil, or_false] at hx
    rcases hx with rfl | rfl | rfl | rfl | rfl | rfl | rfl | rfl | rfl
    · exact ⟨.inl ⟨k12, .inl ⟨q1, _, rfl, ((Sq2.trans (Sd1.trans (Sq3.trans (Sq4.trans (Sq5.trans (Sq6.trans (Sq7.trans Sq8))))))) _ _ eq1), by decide, (fun z hz => absurd hz List.not_mem_nil), .inr rfl⟩⟩, gq1⟩
    · exact ⟨.inl ⟨k12, .inr ⟨_, .tup ((Sd1.trans (Sq3.trans (Sq4.trans (Sq5.trans (Sq6.trans (Sq7.trans Sq8)))))) _ _ eq2), by kernel_rfl⟩⟩, gq2⟩
    · exact ⟨.inl ⟨k12, .inr (noL_no (⟨(good_sm gu0).1, by have := (good_sm gu0).2; omega⟩) (by intro p xs z; cases z))⟩, (by intro z; cases z)⟩
    · exact ⟨.inl ⟨k12, .inr (noL_no (trivial) (by intro p xs z; cases z))⟩, (by intro z; cases z)⟩
    · exact ⟨.inl ⟨k12, .inr (noL_no (trivial) (by intro p xs z; cases z))⟩, (by intro z; cases z)⟩
    · exact ⟨.inl ⟨k12, .inr ⟨_, .dK ((Sq3.trans (Sq4.trans (Sq5.trans (Sq6.trans (Sq7.trans Sq8))))) _ _ ed1), by kernel_rfl⟩⟩, gd1⟩
    · exact ⟨.inl ⟨k12, nn_dup ((Sq5.trans (Sq6.trans (Sq7.trans Sq8))) _ _ eq4) (by simp only [List.length_append, List.length_map, List.length_cons, List.length_nil]; omega) (fun z hz => by
          rcases List.mem_append.mp hz with hz | hz
          · exact str_ok ug hz
          · rw [List.mem_singleton.mp hz]; exact str_ok ug (List.mem_map.mpr ⟨ul, ulm, rfl⟩)) (dup_l ulm)⟩, gq4⟩
    · exact ⟨.inl ⟨k12, nn_dup ((Sq7.trans Sq8) _ _ eq6) (by simp only [List.length_append, List.length_map, List.length_cons, List.length_nil]; omega) (fun z hz => by
          rcases List.mem_append.mp hz with hz | hz
          · rw [List.mem_singleton.mp hz]; exact str_ok ug (List.mem_map.mpr ⟨u0, um0, rfl⟩)
          · exact str_ok ug hz) (dup_f um0)⟩, gq6⟩
    · exact ⟨.inl ⟨k12, .inr (noL_fit B ff)⟩, fpn⟩
  rw [if_neg c3]
  by_cases e3 : k = 3
  · rw [if_pos e3]
    subst e3
    first | rw [w_hold] | (dsimp only; rw [w_hold])
    walk_at "w0"
    refine ⟨hlog, sz8 (by decide), fun p1 hp1 => ?_⟩
    have Sp1 := same_new hp1 (.lst [.int n])
    have gp1 := fresh (same_id _) hp1
    have ep1 : upd H p1 (.lst [.int n]) p1 = some (.lst [.int n]) := upd_same
    generalize upd H p1 (.lst [.int n]) = J1 at *
    refine ⟨sz8 (by first | decide | (simp only [List.length_cons, List.length_nil]; decide)), fun p2 hp2 => ?_⟩
    have Sp2 := same_new hp2 (.tup [.int n])
    have gp2 := fresh Sp1 hp2
    have ep2 : upd J1 p2 (.tup [.int n]) p2 = some (.tup [.int n]) := upd_same
    generalize upd J1 p2 (.tup [.int n]) = J2 at *
    refine ⟨sz8 (by first | decide | (simp only [List.length_cons, List.length_nil]; decide)), fun p3 hp3 => ?_⟩
    have Sp3 := same_new hp3 (.lst [.int (-1), .int (-1 - n), .bl true, .bl false, .non, .str (Str.ofString (toString n)), .ref p1, .ref p2, .ref np, .ref fp])
    have gp3 := fresh (Sp1.trans Sp2) hp3
    have ep3 : upd J2 p3 (.lst [.int (-1), .int (-1 - n), .bl true, .bl false, .non, .str (Str.ofString (toString n)), .ref p1, .ref p2, .ref np, .ref fp]) p3 = some (.lst [.int (-1), .int (-1 - n), .bl true, .bl false, .non, .str (Str.ofString (toString n)), .ref p1, .ref p2, .ref np, .ref fp]) := upd_same
    generalize upd J2 p3 (.lst [.int (-1), .int (-1 - n), .bl true, .bl false, .non, .str (Str.ofString (toString n)), .ref p1, .ref p2, .ref np, .ref fp]) = J3 at *
    refine q p3 _ _ (Sp1.trans (Sp2.trans Sp3)) ((Sp1.trans Sp2).free hp3) ep3 (by simp only [List.length_append, List.length_cons, List.length_nil]; omega) (by simp only [List.length_append, List.length_cons, List.length_nil]; omega) ?_
    have ff := hf.same (Sp1.trans (Sp2.trans Sp3))
    have nn := (Sp1.trans (Sp2.trans Sp3)) _ _ hn
    intro x hx
    simp only [List.cons_append, List.nil_append, List.mem_cons, List.not_mem_nil, or_false] at hx
    rcases hx with rfl | rfl | rfl | rfl | rfl | rfl | rfl | rfl | rfl | rfl
    · exact ⟨.inr (.inl ⟨rfl, okI_no trivial, rfl⟩), (by intro z; cases z)⟩
    · exact ⟨.inr (.inl ⟨rfl, okI_no trivial, decide_eq_false (by omega)⟩), (by intro z; cases z)⟩
    · exact ⟨.inr (.inl ⟨rfl, okI_no trivial, rfl⟩), (by intro z; cases z)⟩
    · exact ⟨.inr (.inl ⟨rfl, okI_no trivial, rfl⟩), (by intro z; cases z)⟩
    · exact ⟨.inr (.inl ⟨rfl, okI_no trivial, rfl⟩), (by intro z; cases z)⟩
    · exact ⟨.inr (.inl ⟨rfl, okI_no trivial, rfl⟩), (by intro z; cases z)⟩
    · exact ⟨.inr (.inl ⟨rfl, okI_no (okV.lst ((Sp2.trans Sp3) _ _ ep1)), rfl⟩), gp1⟩
    · exact ⟨.inr (.inl ⟨rfl, okI_no (okV.tup (Sp3 _ _ ep2)), rfl⟩), gp2⟩
    · exact ⟨.inr (.inl ⟨rfl, okI_no (okV.lst nn), rfl⟩), npn⟩
    · exact ⟨.inr (.inl ⟨rfl, okI_fit B ff, rfl⟩), fpn⟩
  rw [if_neg e3]
  by_cases e4 : k = 4
  · rw [if_pos e4]
    subst e4
    refine hold_ret ?_
    walk_at "w0"
    refine ⟨sz8 (by first | decide | (simp only [List.length_cons, List.length_nil]; decide)), fun p1 hp1 => ?_⟩
    have Sp1 := same_new hp1 (.lst [.ref fp])
    have gp1 := fresh (same_id _) hp1
    have ep1 : upd H p1 (.lst [.ref fp]) p1 = some (.lst [.ref fp]) := upd_same
    generalize upd H p1 (.lst [.ref fp]) = J1 at *
    refine ⟨sz8 (by first | decide | (simp only [List.length_cons, List.length_nil]; decide)), fun p2 hp2 => ?_⟩
    have Sp2 := same_new hp2 (.tup [.ref fp])
    have gp2 := fresh Sp1 hp2
    have ep2 : upd J1 p2 (.tup [.ref fp]) p2 = some (.tup [.ref fp]) := upd_same
    generalize upd J1 p2 (.tup [.ref fp]) = J2 at *
    refine ixl (SqL.of ((Sp1.trans Sp2) _ _ hn)) (v := .str u0) iu0 ?_
    walk_at "w0"
    first | rw [w_eHold] | (dsimp only; rw [w_eHold])
    walk_at "w0"
    refine ixl (SqL.of ((Sp1.trans Sp2) _ _ hn)) (v := .str u0) iu0 ?_
    walk_at "w0"
    refine ixl (SqL.of ((Sp1.trans Sp2) _ _ hn)) (v := .str u0) iu0 ?_
    walk_at "w0"
    intro x1 dx1 hx1 hdx1 nex1
    refine ⟨x1, dx1, u0, u0, n, rfl, upd_same, gu0, gu0, n0, fun J3 bx1 ex1 => ?_⟩
    have Sx1 := made_but hx1 hdx1 bx1
    have gx1 := fresh (Sp1.trans Sp2) hx1
    walk_at "w0"
    intro d1 hd1
    have Sd1 := same_new hd1 (.dK [])
    have gd1 := fresh (Sp1.trans (Sp2.trans Sx1)) hd1
    have ed1 : upd J3 d1 (.dK []) d1 = some (.dK []) := upd_same
    generalize upd J3 d1 (.dK []) = J4 at *
    refine ⟨sz8 (by first | decide | (simp only [List.length_cons, List.length_nil]; decide)), fun p3 hp3 => ?_⟩
    have Sp3 := same_new hp3 (.lst [.non, .str (Str.ofString "any"), .int 5, .bl true, .ref p1, .ref p2, .ref np, .str u0, .ref x1, .ref d1])
    have gp3 := fresh (Sp1.trans (Sp2.trans (Sx1.trans Sd1))) hp3
    have ep3 : upd J4 p3 (.lst [.non, .str (Str.ofString "any"), .int 5, .bl true, .ref p1, .ref p2, .ref np, .str u0, .ref x1, .ref d1]) p3 = some (.lst [.non, .str (Str.ofString "any"), .int 5, .bl true, .ref p1, .ref p2, .ref np, .str u0, .ref x1, .ref d1]) := upd_same
    generalize upd J4 p3 (.lst [.non, .str (Str.ofString "any"), .int 5, .bl true, .ref p1, .ref p2, .ref np, .str u0, .ref x1, .ref d1]) = J5 at *
    refine q p3 _ _ (Sp1.trans (Sp2.trans (Sx1.trans (Sd1.trans Sp3)))) ((Sp1.trans (Sp2.trans (Sx1.trans Sd1))).free hp3) ep3 (by simp only [List.length_append, List.length_cons, List.length_nil]; omega) (by simp only [List.length_append, List.length_cons, List.length_nil]; omega) ?_
    have ff := hf.same (Sp1.trans (Sp2.trans (Sx1.trans (Sd1.trans Sp3))))
    have nn := (Sp1.trans (Sp2.trans (Sx1.trans (Sd1.trans Sp3)))) _ _ hn
    intro x hx
    simp only [List.cons_append, List.nil_append, List.mem_cons, List.not_mem_nil, or_false] at hx
    rcases hx with rfl | rfl | rfl | rfl | rfl | rfl | rfl | rfl | rfl | rfl
    · exact ⟨.inr (.inr (.inl ⟨rfl, okF_no B (trivial)⟩)), (by intro z; cases z)⟩
    · exact ⟨.inr (.inr (.inl ⟨rfl, okF_no B (⟨by decide +kernel, by decide +kernel⟩)⟩)), (by intro z; cases z)⟩
    · exact ⟨.inr (.inr (.inl ⟨rfl, okF_no B (trivial)⟩)), (by intro z; cases z)⟩
    · exact ⟨.inr (.inr (.inl ⟨rfl, okF_no B (trivial)⟩)), (by intro z; cases z)⟩
    · exact ⟨.inr (.inr (.inl ⟨rfl, okF_no B (.inl ⟨_, ((Sp2.trans (Sx1.trans (Sd1.trans Sp3))) _ _ ep1)⟩)⟩)), gp1⟩
    · exact ⟨.inr (.inr (.inl ⟨rfl, okF_no B (.inr (.inl ⟨_, ((Sx1.trans (Sd1.trans Sp3)) _ _ ep2)⟩))⟩)), gp2⟩
    · exact ⟨.inr (.inr (.inl ⟨rfl, okF_no B (.inl ⟨_, nn⟩)⟩)), npn⟩
    · exact ⟨.inr (.inr (.inl ⟨rfl, okF_no B (⟨(good_sm gu0).1, by have := (good_sm gu0).2; omega⟩)⟩)), (by intro z; cases z)⟩
    · exact ⟨.inr (.inr (.inl ⟨rfl, okF_hap B ((Sd1.trans Sp3) _ _ ex1)⟩)), gx1⟩
    · exact ⟨.inr (.inr (.inl ⟨rfl, okF_no B (.inr (.inr ⟨_, (Sp3 _ _ ed1)⟩))⟩)), gd1⟩
  rw [if_neg e4]
  first | rw [w_hold] | (dsimp only; rw [w_hold])
  walk_at "w0"
  refine ⟨Nat.zero_le _, fun p1 hp1 => ?_⟩
  have Sp1 := same_new hp1 (.lst [])
  have gp1 := fresh (same_id _) hp1
  have ep1 : upd H p1 (.lst []) p1 = some (.lst []) := upd_same
  generalize upd H p1 (.lst []) = J1 at *
  refine ⟨sz8 (by first | decide | (simp only [List.length_cons, List.length_nil]; decide)), fun p2 hp2 => ?_⟩
  have Sp2 := same_new hp2 (.lst [.ref fp])
  have gp2 := fresh Sp1 hp2
  have ep2 : upd J1 p2 (.lst [.ref fp]) p2 = some (.lst [.ref fp]) := upd_same
  generalize upd J1 p2 (.lst [.ref fp]) = J2 at *
  refine ⟨sz8 (by first | decide | (simp only [List.length_cons, List.length_nil]; decide)), fun p3 hp3 => ?_⟩
  have Sp3 := same_new hp3 (.tup [.ref fp, .ref fp])
  have gp3 := fresh (Sp1.trans Sp2) hp3
  have ep3 : upd J2 p3 (.tup [.ref fp, .ref fp]) p3 = some (.tup [.ref fp, .ref fp]) := upd_same
  generalize upd J2 p3 (.tup [.ref fp, .ref fp]) = J3 at *
  intro d1 hd1
  have Sd1 := same_new hd1 (.dK [])
  have gd1 := fresh (Sp1.trans (Sp2.trans Sp3)) hd1
  have ed1 : upd J3 d1 (.dK []) d1 = some (.dK []) := upd_same
  generalize upd J3 d1 (.dK []) = J4 at *
  refine ⟨sz8 (by first | decide | (simp only [List.length_cons, List.length_nil]; decide)), fun p4 hp4 => ?_⟩
  have Sp4 := same_new hp4 (.lst [.non, .ref fp])
  have gp4 := fresh (Sp1.trans (Sp2.trans (Sp3.trans Sd1))) hp4
  have ep4 : upd J4 p4 (.lst [.non, .ref fp]) p4 = some (.lst [.non, .ref fp]) := upd_same
  generalize upd J4 p4 (.lst [.non, .ref fp]) = J5 at *
  refine ⟨sz8 (by first | decide | (simp only [List.length_cons, List.length_nil]; decide)), fun p5 hp5 => ?_⟩
  have Sp5 := same_new hp5 (.lst [.ref fp, .non])
  have gp5 := fresh (Sp1.trans (Sp2.trans (Sp3.trans (Sd1.trans Sp4)))) hp5
  have ep5 : upd J5 p5 (.lst [.ref fp, .non]) p5 = some (.lst [.ref fp, .non]) := upd_same
  generalize upd J5 p5 (.lst [.ref fp, .non]) = J6 at *
  refine ⟨sz8 (by first | decide | (simp only [List.length_cons, List.length_nil]; decide)), fun p6 hp6 => ?_⟩
  have Sp6 := same_new hp6 (.lst [.ref fp, .str (Str.ofString "any")])
  have gp6 := fresh (Sp1.trans (Sp2.trans (Sp3.trans (Sd1.trans (Sp4.trans Sp5))))) hp6
  have ep6 : upd J6 p6 (.lst [.ref fp, .str (Str.ofString "any")]) p6 = some (.lst [.ref fp, .str (Str.ofString "any")]) := upd_same
  generalize upd J6 p6 (.lst [.ref fp, .str (Str.ofString "any")]) = J7 at *
  refine ⟨sz8 (by first | decide | (simp only [List.length_cons, List.length_nil]; decide)), fun p7 hp7 => ?_⟩
  have Sp7 := same_new hp7 (.lst [.ref fp, .ref fp, .int 5])
  have gp7 := fresh (Sp1.trans (Sp2.trans (Sp3.trans (Sd1.trans (Sp4.trans (Sp5.trans Sp6)))))) hp7
  have ep7 : upd J7 p7 (.lst [.ref fp, .ref fp, .int 5]) p7 = some (.lst [.ref fp, .ref fp, .int 5]) := upd_same
  generalize upd J7 p7 (.lst [.ref fp, .ref fp, .int 5]) = J8 at *
  refine ⟨sz8 (by first | decide | (simp only [List.length_cons, List.length_nil]; decide)), fun p8 hp8 => ?_⟩
  have Sp8 := same_new hp8 (.lst [.ref p1, .ref p2, .ref p3, .ref fp, .non, .str (Str.ofString "any"), .int 5, .ref d1, .ref p4, .ref p5, .ref p6, .ref p7])
  have gp8 := fresh (Sp1.trans (Sp2.trans (Sp3.trans (Sd1.trans (Sp4.trans (Sp5.trans (Sp6.trans Sp7))))))) hp8
  have ep8 : upd J8 p8 (.lst [.ref p1, .ref p2, .ref p3, .ref fp, .non, .str (Str.ofString "any"), .int 5, .ref d1, .ref p4, .ref p5, .ref p6, .ref p7]) p8 = some (.lst [.ref p1, .ref p2, .ref p3, .ref fp, .non, .str (Str.ofString "any"), .int 5, .ref d1, .ref p4, .ref p5, .ref p6, .ref p7]) := upd_same
  generalize upd J8 p8 (.lst [.ref p1, .ref p2, .ref p3, .ref fp, .non, .str (Str.ofString "any"), .int 5, .ref d1, .ref p4, .ref p5, .ref p6, .ref p7]) = J9 at *
  first | rw [w_hold] | (dsimp only; rw [w_hold])
  walk_at "w0"
  refine ⟨sz8 (by first | decide | (simp only [List.length_cons, List.length_nil]; decide)), fun p9 hp9 => ?_⟩
  have Sp9 := same_new hp9 (.lst [.ref fp, .ref fp])
  have gp9 := fresh (Sp1.trans (Sp2.trans (Sp3.trans (Sd1.trans (Sp4.trans (Sp5.trans (Sp6.trans (Sp7.trans Sp8)))))))) hp9
  have ep9 : upd J9 p9 (.lst [.ref fp, .ref fp]) p9 = some (.lst [.ref fp, .ref fp]) := upd_same
  generalize upd J9 p9 (.lst [.ref fp, .ref fp]) = J10 at *
  refine ⟨sz8 (by first | decide | (simp only [List.length_cons, List.length_nil]; decide)), fun p10 hp10 => ?_⟩
  have Sp10 := same_new hp10 (.lst [.ref fp, .ref p9])
  have gp10 := fresh (Sp1.trans (Sp2.trans (Sp3.trans (Sd1.trans (Sp4.trans (Sp5.trans (Sp6.trans (Sp7.trans (Sp8.trans Sp9))))))))) hp10
  have ep10 : upd J10 p10 (.lst [.ref fp, .ref p9]) p10 = some (.lst [.ref fp, .ref p9]) := upd_same
  generalize upd J10 p10 (.lst [.ref fp, .ref p9]) = J11 at *
  refine ixl (SqL.of ((Sp1.trans (Sp2.trans (Sp3.trans (Sd1.trans (Sp4.trans (Sp5.trans (Sp6.trans (Sp7.trans (Sp8.trans (Sp9.trans Sp10)))))))))) _ _ hn)) (v := .str u0) iu0 ?_
  walk_at "w0"
  refine ⟨sz8 (by first | decide | (simp only [List.length_cons, List.length_nil]; decide)), fun p11 hp11 => ?_⟩
  have Sp11 := same_new hp11 (.lst [.ref fp, .str u0, .ref fp])
  have gp11 := fresh (Sp1.trans (Sp2.trans (Sp3.trans (Sd1.trans (Sp4.trans (Sp5.trans (Sp6.trans (Sp7.trans (Sp8.trans (Sp9.trans Sp10)))))))))) hp11
  have ep11 : upd J11 p11 (.lst [.ref fp, .str u0, .ref fp]) p11 = some (.lst [.ref fp, .str u0, .ref fp]) := upd_same
  generalize upd J11 p11 (.lst [.ref fp, .str u0, .ref fp]) = J12 at *
  first | rw [w_eHold] | (dsimp only; rw [w_eHold])
  walk_at "w0"
  refine ixl (SqL.of ((Sp1.trans (Sp2.trans (Sp3.trans (Sd1.trans (Sp4.trans (Sp5.trans (Sp6.trans (Sp7.trans (Sp8.trans (Sp9.trans (Sp10.trans Sp11))))))))))) _ _ hn)) (v := .str u0) iu0 ?_
  walk_at "w0"
  refine ixl (SqL.of ((Sp1.trans (Sp2.trans (Sp3.trans (Sd1.trans (Sp4.trans (Sp5.trans (Sp6.trans (Sp7.trans (Sp8.trans (Sp9.trans (Sp10.trans Sp11))))))))))) _ _ hn)) (v := .str u0) iu0 ?_
  walk_at "w0"
  intro x1 dx1 hx1 hdx1 nex1
  refine ⟨x1, dx1, u0, u0, n, rfl, upd_same, gu0, gu0, n0, fun J13 bx1 ex1 => ?_⟩
  have Sx1 := made_but hx1 hdx1 bx1
  have gx1 := fresh (Sp1.trans (Sp2.trans (Sp3.trans (Sd1.trans (Sp4.trans (Sp5.trans (Sp6.trans (Sp7.trans (Sp8.trans (Sp9.trans (Sp10.trans Sp11))))))))))) hx1
  walk_at "w0"
  refine ⟨sz8 (by first | decide | (simp only [List.length_cons, List.length_nil]; decide)), fun p12 hp12 => ?_⟩
  have Sp12 := same_new hp12 (.lst [.ref fp, .ref x1])
  have gp12 := fresh (Sp1.trans (Sp2.trans (Sp3.trans (Sd1.trans (Sp4.trans (Sp5.trans (Sp6.trans (Sp7.trans (Sp8.trans (Sp9.trans (Sp10.trans (Sp11.trans Sx1)))))))))))) hp12
  have ep12 : upd J13 p12 (.lst [.ref fp, .ref x1]) p12 = some (.lst [.ref fp, .ref x1]) := upd_same
  generalize upd J13 p12 (.lst [.ref fp, .ref x1]) = J14 at *
  refine ⟨sz8 (by first | decide | (simp only [List.length_cons, List.length_nil]; decide)), fun p13 hp13 => ?_⟩
  have Sp13 := same_new hp13 (.lst [.ref p10, .ref p11, .ref p12])
  have gp13 := fresh (Sp1.trans (Sp2.trans (Sp3.trans (Sd1.trans (Sp4.trans (Sp5.trans (Sp6.trans (Sp7.trans (Sp8.trans (Sp9.trans (Sp10.trans (Sp11.trans (Sx1.trans Sp12))))))))))))) hp13
  have ep13 : upd J14 p13 (.lst [.ref p10, .ref p11, .ref p12]) p13 = some (.lst [.ref p10, .ref p11, .ref p12]) := upd_same
  generalize upd J14 p13 (.lst [.ref p10, .ref p11, .ref p12]) = J15 at *
  refine ⟨p8, p13, _, _, rfl, rfl, ((Sp9.trans (Sp10.trans (Sp11.trans (Sx1.trans (Sp12.trans Sp13))))) _ _ ep8), ep13, sz8 (by simp only [List.length_cons, List.length_nil]; decide), fun p14 hp14 => ?_⟩
  have Sp14 := same_new hp14 (.lst ([.ref p1, .ref p2, .ref p3, .ref fp, .non, .str (Str.ofString "any"), .int 5, .ref d1, .ref p4, .ref p5, .ref p6, .ref p7] ++ [.ref p10, .ref p11, .ref p12]))
  have gp14 := fresh (Sp1.trans (Sp2.trans (Sp3.trans (Sd1.trans (Sp4.trans (Sp5.trans (Sp6.trans (Sp7.trans (Sp8.trans (Sp9.trans (Sp10.trans (Sp11.trans (Sx1.trans (Sp12.trans Sp13)))))))))))))) hp14
  have ep14 : upd J15 p14 (.lst ([.ref p1, .ref p2, .ref p3, .ref fp, .non, .str (Str.ofString "any"), .int 5, .ref d1, .ref p4, .ref p5, .ref p6, .ref p7] ++ [.ref p10, .ref p11, .ref p12])) p14 = some (.lst ([.ref p1, .ref p2, .ref p3, .ref fp, .non, .str (Str.ofString "any"), .int 5, .ref d1, .ref p4, .ref p5, .ref p6, .ref p7] ++ [.ref p10, .ref p11, .ref p12])) := upd_same
  generalize upd J15 p14 (.lst ([.ref p1, .ref p2, .ref p3, .ref fp, .non, .str (Str.ofString "any"), .int 5, .ref d1, .ref p4, .ref p5, .ref p6, .ref p7] ++ [.ref p10, .ref p11, .ref p12])) = J16 at *
  have k56 : k = 5 ∨ k = 6 := by omega
  have okf := okF_fit B (by decide) (hf.same (Sp1.trans (Sp2.trans (Sp3.trans (Sd1.trans (Sp4.trans (Sp5.trans (Sp6.trans (Sp7.trans (Sp8.trans (Sp9.trans (Sp10.trans (Sp11.trans (Sx1.trans (Sp12.trans (Sp13.trans Sp14))))))))))))))))
  have nof : ∀ r ∈ ([] : List V), okF K a J16 r true := fun r hr => absurd hr List.not_mem_nil
  have onef : ∀ r ∈ ([.ref fp] : List V), okF K a J16 r true := fun r hr => by rw [List.mem_singleton.mp hr]; exact okf
  have twof : ∀ r ∈ ([.ref fp, .ref fp] : List V), okF K a J16 r true := fun r hr => by
    simp only [List.mem_cons, List.not_mem_nil, or_false, or_self] at hr
    rw [hr]; exact okf
  refine q p14 _ _ (Sp1.trans (Sp2.trans (Sp3.trans (Sd1.trans (Sp4.trans (Sp5.trans (Sp6.trans (Sp7.trans (Sp8.trans (Sp9.trans (Sp10.trans (Sp11.trans (Sx1.trans (Sp12.trans (Sp13.trans Sp14))))))))))))))) ((Sp1.trans (Sp2.trans (Sp3.trans (Sd1.trans (Sp4.trans (Sp5.trans (Sp6.trans (Sp7.trans (Sp8.trans (Sp9.trans (Sp10.trans (Sp11.trans (Sx1.trans (Sp12.trans Sp13)))))))))))))).free hp14) ep14 (by simp only [List.length_append, List.length_cons, List.length_nil]; omega) (by simp only [List.length_append, List.length_cons, List.length_nil]; omega) ?_
  have ff := hf.same (Sp1.trans (Sp2.trans (Sp3.trans (Sd1.trans (Sp4.trans (Sp5.trans (Sp6.trans (Sp7.trans (Sp8.trans (Sp9.trans (Sp10.trans (Sp11.trans (Sx1.trans (Sp12.trans (Sp13.trans Sp14)))))))))))))))
  have nn := (Sp1.trans (Sp2.trans (Sp3.trans (Sd1.trans (Sp4.trans (Sp5.trans (Sp6.trans (Sp7.trans (Sp8.trans (Sp9.trans (Sp10.trans (Sp11.trans (Sx1.trans (Sp12.trans (Sp13.trans Sp14))))))))))))))) _ _ hn
  intro x hx
  simp only [List.cons_append, List.nil_append, List.mem_cons, List.not_mem_nil, or_false] at hx
  rcases hx with rfl | rfl | rfl | rfl | rfl | rfl | rfl | rfl | rfl | rfl | rfl | rfl | rfl | rfl | rfl
  · exact ⟨.inr (.inr (.inr ⟨k56, nf_short ((Sp2.trans (Sp3.trans (Sd1.trans (Sp4.trans (Sp5.trans (Sp6.trans (Sp7.trans (Sp8.trans (Sp9.trans (Sp10.trans (Sp11.trans (Sx1.trans (Sp12.trans (Sp13.trans Sp14)))))))))))))) _ _ ep1) (by decide)⟩)), gp1⟩
  · exact ⟨.inr (.inr (.inr ⟨k56, nf_short ((Sp3.trans (Sd1.trans (Sp4.trans (Sp5.trans (Sp6.trans (Sp7.trans (Sp8.trans (Sp9.trans (Sp10.trans (Sp11.trans (Sx1.trans (Sp12.trans (Sp13.trans Sp14))))))))))))) _ _ ep2) (by simp only [List.length_cons, List.length_nil]; decide)⟩)), gp2⟩
  · exact ⟨.inr (.inr (.inr ⟨k56, .inr ⟨_, .tup ((Sd1.trans (Sp4.trans (Sp5.trans (Sp6.trans (Sp7.trans (Sp8.trans (Sp9.trans (Sp10.trans (Sp11.trans (Sx1.trans (Sp12.trans (Sp13.trans Sp14)))))))))))) _ _ ep3), by kernel_rfl⟩⟩)), gp3⟩
  · exact ⟨.inr (.inr (.inr ⟨k56, .inr (noL_fit B ff)⟩)), fpn⟩
  · exact ⟨.inr (.inr (.inr ⟨k56, .inr (noL_no (trivial) (by intro p xs z; cases z))⟩)), (by intro z; cases z)⟩
  · exact ⟨.inr (.inr (.inr ⟨k56, .inr (noL_no (⟨by decide +kernel, by decide +kernel⟩) (by intro p xs z; cases z))⟩)), (by intro z; cases z)⟩
  · exact ⟨.inr (.inr (.inr ⟨k56, .inr (noL_no (trivial) (by intro p xs z; cases z))⟩)), (by intro z; cases z)⟩
  · exact ⟨.inr (.inr (.inr ⟨k56, .inr ⟨_, .dK ((Sp4.trans (Sp5.trans (Sp6.trans (Sp7.trans (Sp8.trans (Sp9.trans (Sp10.trans (Sp11.trans (Sx1.trans (Sp12.trans (Sp13.trans Sp14))))))))))) _ _ ed1), by kernel_rfl⟩⟩)), gd1⟩
  · exact ⟨.inr (.inr (.inr ⟨k56, nf_at (pre := []) (y := .non) (post := [.ref fp]) ((Sp5.trans (Sp6.trans (Sp7.trans (Sp8.trans (Sp9.trans (Sp10.trans (Sp11.trans (Sx1.trans (Sp12.trans (Sp13.trans Sp14)))))))))) _ _ ep4) (by simp only [List.length_append, List.length_cons, List.length_nil]; omega) nof (okF_no B (trivial))⟩)), gp4⟩
  · exact ⟨.inr (.inr (.inr ⟨k56, nf_at (pre := [.ref fp]) (y := .non) (post := []) ((Sp6.trans (Sp7.trans (Sp8.trans (Sp9.trans (Sp10.trans (Sp11.trans (Sx1.trans (Sp12.trans (Sp13.trans Sp14))))))))) _ _ ep5) (by simp only [List.length_append, List.length_cons, List.length_nil]; omega) onef (okF_no B (trivial))⟩)), gp5⟩
  · exact ⟨.inr (.inr (.inr ⟨k56, nf_at (pre := [.ref fp]) (y := .str (Str.ofString "any")) (post := []) ((Sp7.trans (Sp8.trans (Sp9.trans (Sp10.trans (Sp11.trans (Sx1.trans (Sp12.trans (Sp13.trans Sp14)))))))) _ _ ep6) (by simp only [List.length_append, List.length_cons, List.length_nil]; omega) onef (okF_no B (⟨by decide +kernel, by decide +kernel⟩))⟩)), gp6⟩
  · exact ⟨.inr (.inr (.inr ⟨k56, nf_at (pre := [.ref fp, .ref fp]) (y := .int 5) (post := []) ((Sp8.trans (Sp9.trans (Sp10.trans (Sp11.trans (Sx1.trans (Sp12.trans (Sp13.trans Sp14))))))) _ _ ep7) (by simp only [List.length_append, List.length_cons, List.length_nil]; omega) twof (okF_no B (trivial))⟩)), gp7⟩
  · exact ⟨.inr (.inr (.inr ⟨k56, nf_at (pre := [.ref fp]) (y := .ref p9) (post := []) ((Sp11.trans (Sx1.trans (Sp12.trans (Sp13.trans Sp14)))) _ _ ep10) (by simp only [List.length_append, List.length_cons, List.length_nil]; omega) onef (okF_no B (.inl ⟨_, ((Sp10.trans (Sp11.trans (Sx1.trans (Sp12.trans (Sp13.trans Sp14))))) _ _ ep9)⟩))⟩)), gp10⟩
  · exact ⟨.inr (.inr (.inr ⟨k56, nf_at (pre := [.ref fp]) (y := .str u0) (post := [.ref fp]) ((Sx1.trans (Sp12.trans (Sp13.trans Sp14))) _ _ ep11) (by simp only [List.length_append, List.length_cons, List.length_nil]; omega) onef (okF_no B (⟨(good_sm gu0).1, by have := (good_sm gu0).2; omega⟩))⟩)), gp11⟩
  · exact ⟨.inr (.inr (.inr ⟨k56, nf_at (pre := [.ref fp]) (y := .ref x1) (post := []) ((Sp13.trans Sp14) _ _ ep12) (by simp only [List.length_append, List.length_cons, List.length_nil]; omega) onef (okF_hap B ((Sp12.trans (Sp13.trans Sp14)) _ _ ex1))⟩)), gp12⟩
theorem ok_law (B : Bt K mg a) (C_law_begin : CalX P w K mg base "_law_begin" ["_law_cell"] 1 (sp_law_begin K a)) (C_law_names : CalX P w K mg base "_law_names" ["_law_state", "_law_most"] 3 (sp_law_names K a)) (C_law_next : CalX P w K mg base "_law_next" ["_law_state", "_law_base"] 1 (sp_law_next K a)) (CC_Least : CalC P w K mg base "Least" a.Least ["self", "weight"] 3 (sp_Least___init__ K a)) (CC_Not : CalC P w K mg base "Not" a.Not ["self", "fit"] 2 (sp_Not___init__ K a)) (C_law_odd : CalX P w K mg base "_law_odd" ["_law_at", "_law_names_here", "_law_weight", "_law_fit"] 5 (sp_law_odd K a)) (C_law_is_kind : CalX P w K mg base "_law_is_kind" ["_law_fit", "_law_at"] 2 (sp_law_is_kind K a)) (C_law_named : CalX P w K mg base "_law_named" ["_law_at", "_law_names_here"] 7 (sp_law_named K a)) (C_law_several : CalX P w K mg base "_law_several" ["_law_at", "_law_weights"] 7 (sp_law_several K a)) (C_law_refused : CalX P w K mg base "_law_refused" ["_law_at", "_law_thing"] 7 (sp_law_refused K a)) (F : Fun K "law" "law" s_law f fd) : FnOk P w K mg base CX0 8 f fd ["_law_script"] (sp_law K a) := by
  refine F.ok sc_law (fun vs H Q E h => ?_) (fun cdv A outer s H vs Q E hr h => ?_)
  · obtain ⟨sc, ns, rfl, _⟩ := h
    rfl
  obtain ⟨sc, ns, rfl, hS, h63, q⟩ := h
  refine ⟨_, (pss_of (qss_cons (qs_of (ps_for PassesOwn.never rfl (pi_list (pe_op op_cat (pe_lst (pa_of (qa_c pe_int qa_nil))) (pe_slice sl_list (pv 0) po_none (po_some pe_int)))) (pg_name (i := 1) sc_law.nd rfl (Or.inl rfl)) (pss_of (qss_cons (qs_set (i := 2) sc_law.nd rfl (Or.inr rfl) (qe_of (pe_calN C_law_begin (hr.mono (by decide)) rfl (pa_of (qa_c (pv 1) qa_nil)) (he := star_plain _ _ _ rfl) (hpl := plain_any rfl))) (by kernel_rfl)) (qss_cons (qs_set (i := 3) sc_law.nd rfl (Or.inl rfl) (qe_of (pe_calN C_law_names (hr.mono (by decide)) rfl (pa_of (qa_c (pv 2) (qa_c pe_int qa_nil))) (he := star_plain _ _ _ rfl) (hpl := plain_any rfl))) (by kernel_rfl)) (qss_cons (qs_set (i := 4) sc_law.nd rfl (Or.inl rfl) (qe_of (pe_calN C_law_next (hr.mono (by decide)) rfl (pa_of (qa_c (pv 2) (qa_c (pe_op op_pow pe_int pe_int) qa_nil))) (he := star_plain _ _ _ rfl) (hpl := plain_any rfl))) (by kernel_rfl)) (qss_cons (qs_set (i := 5) sc_law.nd rfl (Or.inl rfl) (qe_of (pe_mak CC_Least pass00 (hr.mono (by decide)) rfl (pa_of (qa_c (pv 4) qa_nil)) (he := star_plain _ _ _ rfl) (hpl := plain_any rfl))) (by kernel_rfl)) (qss_cons (qs_if (L2.PW.pt (pw_or (pt_not (pt_val (pe_calN C_law_is_kind (hr.mono (by decide)) rfl (pa_of (qa_c (pe_makN B.mk_Any rfl B.Any) (qa_c pe_int qa_nil))) (he := star_plain _ _ _ rfl) (hpl := plain_any rfl)))) (pw_or (pt_not (pt_val (pe_calN C_law_is_kind (hr.mono (by decide)) rfl (pa_of (qa_c (pv 5) (qa_c pe_int qa_nil))) (he := star_plain _ _ _ rfl) (hpl := plain_any rfl)))) (pw_or1 (pt_cmpR op_ne (pe_fld (pv 5) rfl) (pv 4) (nomark _)))))) (qss_one (qs_ret (qe_of pe_bl))) qss_nil) (qss_cons (qs_if (L2.PW.pt (pw_or (pt_not (pt_val (pe_calN C_law_named (hr.mono (by decide)) rfl (pa_of (qa_c pe_int (qa_c (pv 3) qa_nil))) (he := star_plain _ _ _ rfl) (hpl := plain_any rfl)))) (pw_or1 (pt_not (pt_val (pe_calN C_law_named (hr.mono (by decide)) rfl (pa_of (qa_c pe_int (qa_c (pv 3) qa_nil))) (he := star_plain _ _ _ rfl) (hpl := plain_any rfl))))))) (qss_one (qs_ret (qe_of pe_bl))) qss_nil) (qss_cons (qs_set (i := 6) sc_law.nd rfl (Or.inl rfl) (qe_of (pe_mak CC_Not pass00 (hr.mono (by decide)) rfl (pa_of (qa_c (pv 5) qa_nil)) (he := star_plain _ _ _ rfl) (hpl := plain_any rfl))) (by kernel_rfl)) (qss_cons (qs_if (L2.PW.pt (pw_or (pt_not (pt_val (pe_calN C_law_is_kind (hr.mono (by decide)) rfl (pa_of (qa_c (pv 6) (qa_c pe_int qa_nil))) (he := star_plain _ _ _ rfl) (hpl := plain_any rfl)))) (pw_or (pt_not (pt_val (pe_calN C_law_is_kind (hr.mono (by decide)) rfl (pa_of (qa_c (pe_fld (pv 6) rfl) (qa_c pe_int qa_nil))) (he := star_plain _ _ _ rfl) (hpl := plain_any rfl)))) (pw_or1 (pt_cmpR op_ne (pe_fld (pe_fld (pv 6) rfl) rfl) (pv 4) (nomark _)))))) (qss_one (qs_ret (qe_of pe_bl))) qss_nil) (qss_cons (qs_of (ps_compB (i := 7) ["_law_k", "_law_state"] [none, some 2] rfl (by kernel_rfl) sc_law.nd rfl rfl (pi_range1 rfl B.range (pa_of (qa_c (pe_op op_add pe_int (pe_calN C_law_next (hr.mono (by decide)) rfl (pa_of (qa_c (pv 2) (qa_c pe_int qa_nil))) (he := star_plain _ _ _ rfl) (hpl := plain_any rfl))) qa_nil))) (fun cl C s H fp => ⟨(pg_name (i := 0) (by decide : List.Nodup (["_law_k", "_law_state"] : List Str)) rfl (Or.inl (by kernel_rfl)) (Or.inr (by kernel_rfl))), pts_nil, (pe_calN C_law_next (hr.mono (by decide)) (gl_of (by kernel_rfl)) (pa_of (qa_c (pv 1 (hv := Or.inr (Or.inl (by kernel_rfl)))) (qa_c (pe_op op_pow pe_int pe_int) qa_nil))) (he := star_plain _ _ _ rfl) (hpl := plain_any rfl))⟩))) (qss_cons (qs_if (L2.PW.pt (pw_or (pt_not (pt_val (pe_calN C_law_several (hr.mono (by decide)) rfl (pa_of (qa_c pe_int (qa_c (pv 7) qa_nil))) (he := star_plain _ _ _ rfl) (hpl := plain_any rfl)))) (pw_or1 (pt_not (pt_val (pe_calN C_law_several (hr.mono (by decide)) rfl (pa_of (qa_c pe_int (qa_c (pv 7) qa_nil))) (he := star_plain _ _ _ rfl) (hpl := plain_any rfl))))))) (qss_one (qs_ret (qe_of pe_bl))) qss_nil) (qss_one (qs_of (ps_for PassesOwn.never rfl (pi_range2 rfl B.range (pa_of (qa_c pe_int (qa_c pe_int qa_nil)))) (pg_name (i := 8) sc_law.nd rfl (Or.inl rfl)) (pss_of (qss_cons (qs_set (i := 9) sc_law.nd rfl (Or.inl rfl) (qe_of (pe_calN C_law_odd (hr.mono (by decide)) rfl (pa_of (qa_c (pv 8) (qa_c (pv 3) (qa_c (pv 4) (qa_c (pv 6) qa_nil))))) (he := star_plain _ _ _ rfl) (hpl := plain_any rfl))) (by kernel_rfl)) (qss_one (qs_of (ps_for PassesOwn.never rfl (pi_range1 rfl B.range (pa_of (qa_c pe_int qa_nil))) (pg_name (i := 10) sc_law.nd rfl (Or.inl rfl)) (pss_of (qss_one (qs_if (pt_not (pt_val (pe_calN C_law_refused (hr.mono (by decide)) rfl (pa_of (qa_c (pv 8) (qa_c (pe_ix ix_list (pv 9) (pe_calN C_law_next (hr.mono (by decide)) rfl (pa_of (qa_c (pv 2) (qa_c (pe_callB call_len_seq rfl B.len PySem.boot_len (pa_of (qa_c (pv 9) qa_nil))) qa_nil))) (he := star_plain _ _ _ rfl) (hpl := plain_any rfl)) (fun _ _ => rfl)) qa_nil))) (he := star_plain _ _ _ rfl) (hpl := plain_any rfl)))) (qss_one (qs_ret (qe_of pe_bl))) qss_nil)))))))))))))))))))))))) (qss_one (qs_ret (qe_of pe_bl))))), ?_⟩
  walk_at "w0"
  refine ⟨sz8 (by decide), fun p hp => ?_⟩
  refine ⟨sc, _, rfl, (same_new hp _).seq hS, fun p2 hp2 => ?_⟩
  obtain ⟨ms, em, lm⟩ := cut_map ns none (some 10)
  rw [em]
  refine ⟨p, p2, [.int 0], _, rfl, rfl, ?_, upd_same, ?_, fun l hl => ?_⟩
  · rw [upd_ne (ne_of_none upd_same hp2)]; exact upd_same
  · simp only [List.length_cons, List.length_nil, List.length_map]
    exact sz8 (by omega)
  refine ⟨l, rfl, ⟨_, SqL.of upd_same⟩, ?_⟩
  refine ForL.by (xs := ([0] ++ ms).map V.int) (fun _ σ H1 => (∃ s1 s2 s3 s4 s5 s6 s7 s8 s9 s10, σ = [some (.ref sc), s1, s2, s3, s4, s5, s6, s7, s8, s9, s10]) ∧ H1 l = some (.lst (([0] ++ ms).map V.int))) ⟨⟨_, _, _, _, _, _, _, _, _, _, rfl⟩, by rw [List.map_append]; exact upd_same⟩ (fun i σ H1 _ h => SqL.of h.2) ?_ ?_
  · rintro i x σ H1 hx ⟨⟨s1, s2, s3, s4, s5, s6, s7, s8, s9, s10, rfl⟩, h1⟩
    obtain ⟨c, rfl⟩ := int_at hx
    clear hx hl hp2 em lm hS h63
    walk_at "w0"
    refine ⟨c, rfl, fun pw wa wb wc hpw => ?_⟩
    have W0 : Well3 (upd H1 pw (.lst [.int wa, .int wb, .int wc])) pw := ⟨_, _, _, upd_same⟩
    have l0 : l ≠ pw := ne_of_none h1 hpw
    have h2 := same_new hpw (.lst [.int wa, .int wb, .int wc]) l _ h1
    generalize upd H1 pw (.lst [.int wa, .int wb, .int wc]) = H2 at *
    walk_at "w0"
    refine ⟨pw, 6, rfl, by decide, by decide, W0, fun np us H3 une ul ug und W1 B1 fnp hn3 => ?_⟩
    have npw : np ≠ pw := W0.ne fnp
    have ul6 : us.length ≤ 6 := ul
    have h3 := B1 l _ l0 h2
    clear B1 W0 h2 fnp ul
    walk_at "w0"
    refine ⟨⟨by decide, by decide, by decide⟩, ?_⟩
    refine drw3 W1 (by decide) (by decide) fun n H4 n0 n1 W2 B2 => ?_
    have n1' : n < 1000000 := n1
    have h4 := B2 l _ l0 h3
    have hn4 := B2 np _ npw hn3
    clear B2 W1 h3 hn3 n1
    walk_at "w0"
    intro x1 d1 hx1 hd1 e1
    have M1 := made_same (o := .own x1) (o' := .ins a.Least d1 []) hx1 hd1
    refine ⟨x1, d1, _, rfl, upd_same, ⟨_, .int n, by kernel_rfl, by kernel_rfl⟩, .inl ⟨n, rfl, n0, ?_⟩⟩
    have S1 : Same H4 (upd (upd (upd H4 d1 (.own x1)) x1 (.ins a.Least d1 [])) x1 (.ins a.Least d1 [("weight", .int n)])) := fun b o e => by
      rw [upd_ne (ne_of_none e hx1)]
      exact M1 b o e
    have fL5 : FitAt a (upd (upd (upd H4 d1 (.own x1)) x1 (.ins a.Least d1 [])) x1 (.ins a.Least d1 [("weight", .int n)])) x1 3 [("weight", .int n)] := ⟨d1, upd_same⟩
    have h5 := S1 _ _ h4
    have hn5 := S1 _ _ hn4
    have W5 := W2.same S1
    generalize upd (upd (upd H4 d1 (.own x1)) x1 (.ins a.Least d1 [])) x1 (.ins a.Least d1 [("weight", .int n)]) = H5 at *
    clear S1 M1 e1 hx1 hd1 h4 hn4 W2
    walk_at "w0"
    intro x2 d2 hx2 hd2 e2
    have S2 := made_same (o := .own x2) (o' := .ins a.Any d2 []) hx2 hd2
    refine ⟨x2, 0, [], rfl, by decide, ⟨d2, upd_same⟩, fun H6 S3 => ?_⟩
    walk_at "w1"
    refine ⟨x1, 3, _, rfl, by decide, fL5.same (S2.trans S3), fun H7 S4 => ?_⟩
    have SA := S2.trans (S3.trans S4)
    have fL7 := fL5.same SA
    have h7 := SA _ _ h5
    have hn7 := SA _ _ hn5
    have W7 := W5.same SA
    clear SA S2 S3 S4 fL5 h5 hn5 W5 e2 hx2 hd2
    walk_at "w1"
    obtain ⟨dL, eL⟩ := id fL7
    refine ⟨_, _, _, eL, B.ck_Least.cl, B.na_Least_weight, .int n, rfl, ?_⟩
    walk_at "w5"
    refine ⟨1, np, us, rfl, .inl rfl, ⟨np, rfl, hn7, une, by omega, ug, und⟩, fun H8 S5 => ?_⟩
    walk_at "w1"
    refine ⟨2, np, us, rfl, .inr rfl, ⟨np, rfl, S5 _ _ hn7, une, by omega, ug, und⟩, fun H9 S6 => ?_⟩
    have SA := S5.trans S6
    have fL9 := fL7.same SA
    have h9 := SA _ _ h7
    have hn9 := SA _ _ hn7
    have W9 := W7.same SA
    clear SA S5 S6 fL7 h7 hn7 W7 eL
    walk_at "w1"
    intro x3 d3 hx3 hd3 e3
    have M3 := made_same (o := .own x3) (o' := .ins a.Not d3 []) hx3 hd3
    refine ⟨x3, d3, _, rfl, upd_same, .inl ⟨okF_fit B (by decide) (fL9.same M3), ?_⟩⟩
    have S1 : Same H9 (upd (upd (upd H9 d3 (.own x3)) x3 (.ins a.Not d3 [])) x3 (.ins a.Not d3 [("fit", .ref x1)])) := fun b o e => by
      rw [upd_ne (ne_of_none e hx3)]
      exact M3 b o e
    have fN1 : FitAt a (upd (upd (upd H9 d3 (.own x3)) x3 (.ins a.Not d3 [])) x3 (.ins a.Not d3 [("fit", .ref x1)])) x3 4 [("fit", .ref x1)] := ⟨d3, upd_same⟩
    have fL1 := fL9.same S1
    have hh1 := S1 _ _ h9
    have hn1 := S1 _ _ hn9
    have W1 := W9.same S1
    generalize upd (upd (upd H9 d3 (.own x3)) x3 (.ins a.Not d3 [])) x3 (.ins a.Not d3 [("fit", .ref x1)]) = J1 at *
    clear S1 M3 e3 hx3 hd3 h9 hn9 W9 fL9
    walk_at "w0"
    refine ⟨x3, 4, _, rfl, by decide, fN1, fun J2 S2 => ?_⟩
    have fL2 := fL1.same S2
    have hh2 := S2 _ _ hh1
    have hn2 := S2 _ _ hn1
    have W2 := W1.same S2
    have fN2 := fN1.same S2
    clear S2 fL1 hh1 hn1 W1 fN1
    obtain ⟨dN, eN⟩ := id fN2
    walk_at "w1"
    refine ⟨_, _, _, eN, B.ck_Not.cl, B.na_Not_fit, .ref x1, rfl, ?_⟩
    walk_at "w0"
    refine ⟨x1, 3, _, rfl, by decide, fL2, fun J3 S3 => ?_⟩
    have fL3 := fL2.same S3
    have hh3 := S3 _ _ hh2
    have hn3 := S3 _ _ hn2
    have W3 := W2.same S3
    have fN3 := fN2.same S3
    clear S3 fL2 hh2 hn2 W2 fN2 eN dN
    obtain ⟨dN, eN⟩ := id fN3
    obtain ⟨dL', eL⟩ := id fL3
    walk_at "w1"
    refine ⟨_, _, _, eN, B.ck_Not.cl, B.na_Not_fit, .ref x1, rfl, ?_⟩
    walk_at "w0"
    refine ⟨_, _, _, eL, B.ck_Least.cl, B.na_Least_weight, .int n, rfl, ?_⟩
    walk_at "w5"
    clear eN eL fL3
    -- the weights
    refine drw3 W3 (by decide) (by decide) fun rr J4 r0 r1 W4 B4 => ?_
    have hh4 := B4 l _ l0 hh3
    have hn4 := B4 np _ npw hn3
    have fN4 := fN3.but3 W3 B4
    clear B4 W3 hh3 hn3 fN3
    walk_at "w0"
    refine ⟨by omega, by omega, ?_⟩
    refine CompR.by (fun i acc σ H' => (∃ ws : List Int, acc = ws.map V.int ∧ ws.length = i ∧ ∀ z ∈ ws, 0 ≤ z) ∧ (∃ v, σ = [v, some (.ref pw)]) ∧ Well3 H' pw ∧ But pw J4 H') (sz8 (by omega)) ⟨⟨[], rfl, rfl, (fun t ht => absurd ht List.not_mem_nil)⟩, ⟨_, rfl⟩, W4, But.refl _ _⟩ ?_ ?_ ?_
    · rintro i acc σ H' hi ⟨⟨ws, rfl, hl, ht⟩, ⟨v, rfl⟩, W5, B5⟩
      walk_at "w0"
      refine ⟨⟨by decide, by decide, by decide⟩, ?_⟩
      refine drw3 W5 (by decide) (by decide) fun r3 H3 a3 b3 W6 B6 => ?_
      have new : ∃ us : List Int, ws.map V.int ++ [V.int r3] = us.map V.int ∧ us.length = i + 1 ∧ ∀ t ∈ us, 0 ≤ t := by
        refine ⟨ws ++ [r3], by rw [List.map_append]; rfl, by rw [List.length_append, hl]; rfl, fun t h => ?_⟩
        rcases List.mem_append.mp h with z | z
        · exact ht t z
        · rw [List.mem_singleton.mp z]
          exact a3
      first | exact ⟨new, ⟨_, rfl⟩, W6, B5.trans B6⟩ | exact ⟨new, W6, B5.trans B6⟩
    · rintro i acc σ H' ⟨⟨ws, rfl, hl, _⟩, _⟩
      rw [List.length_map, hl]
      exact Nat.le_refl _
    rintro acc σ J5 ⟨⟨ws, rfl, hwl, hw0⟩, ⟨v, rfl⟩, W5, B5⟩ wp hwp
    have hh5 := B5 l _ l0 hh4
    have hn5 := B5 np _ npw hn4
    have fN5 := fN4.but3 W4 B5
    have S6 := same_new hwp (.lst (ws.map V.int))
    have hw6 : upd J5 wp (.lst (ws.map V.int)) wp = some (.lst (ws.map V.int)) := upd_same
    have hh6 := S6 _ _ hh5
    have hn6 := S6 _ _ hn5
    have fN6 := fN5.same S6
    have W6 := W5.same S6
    generalize upd J5 wp (.lst (ws.map V.int)) = J6 at *
    clear S6 hwp B5 hh5 hh4 hn5 hn4 fN5 fN4 W5 W4
    have w2 : 2 ≤ ws.length := by rw [hwl]; omega
    have w50 : ws.length ≤ 50 := by rw [hwl]; omega
    walk_at "w0"
    refine ⟨5, wp, ws, rfl, .inl rfl, hw6, w2, w50, hw0, fun J7 S7 => ?_⟩
    walk_at "w1"
    refine ⟨6, wp, ws, rfl, .inr rfl, S7 _ _ hw6, w2, w50, hw0, fun J8 S8 => ?_⟩
    have SA := S7.trans S8
    have hh8 := SA _ _ hh6
    have hn8 := SA _ _ hn6
    have fN8 := fN6.same SA
    have W8 := W6.same SA
    clear SA S7 S8 hh6 hn6 fN6 W6 hw6 w2 w50 hw0 hwl
    walk_at "w1"
    refine ⟨by decide, by decide, by decide, by decide, ?_⟩
    refine ForR.by (fun i σ H' => (∃ v8 v9 v10, σ = [some (.ref sc), some (.int c), some (.ref pw), some (.ref np), some (.int n), some (.ref x1), some (.ref x3), some (.ref wp), v8, v9, v10]) ∧ H' l = some (.lst (([0] ++ ms).map V.int)) ∧ H' np = some (.lst (us.map V.str)) ∧ FitAt a H' x3 4 [("fit", .ref x1)] ∧ Well3 H' pw) ⟨⟨_, _, _, rfl⟩, hh8, hn8, fN8, W8⟩ ?_ ?_
    · clear hh8 hn8 fN8 W8
      rintro k σ G0 hk ⟨⟨v8, v9, v10, rfl⟩, g1, g2, g3, g4⟩
      have hk6 : k < 6 := hk
      walk_at "w0"
      refine ⟨1 + (k : Int), n, np, x3, pw, us, _, rfl, by omega, by omega, n0, n1', g2, une, ul6, ug, g3, g4, npw, fun po xs G1 T1 fo eo lo0 lo1 bad => ?_⟩
      have f1 := T1 _ _ g1
      have f2 := T1 _ _ g2
      have f3 := g3.same T1
      have f4 := g4.same T1
      have npo : po ≠ pw := g4.ne fo
      clear g1 g2 g3 g4 T1 fo
      walk_at "w0"
      refine ⟨by decide, by decide, ?_⟩
      refine ForR.by (fun j σ H' => (∃ u10, σ = [some (.ref sc), some (.int c), some (.ref pw), some (.ref np), some (.int n), some (.ref x1), some (.ref x3), some (.ref wp), some (.int (1 + (k : Int))), some (.ref po), u10]) ∧ H' l = some (.lst (([0] ++ ms).map V.int)) ∧ H' np = some (.lst (us.map V.str)) ∧ FitAt a H' x3 4 [("fit", .ref x1)] ∧ Well3 H' pw ∧ H' po = some (.lst xs) ∧ ∀ x ∈ xs, BadT K a H' (1 + (k : Int)) x ∧ x ≠ .ref pw) ⟨⟨_, rfl⟩, f1, f2, f3, f4, eo, bad⟩ ?_ ?_
      · clear f1 f2 f3 f4 eo bad
        rintro j σ G2 hj ⟨⟨u10, rfl⟩, g1, g2, g3, g4, g5, g6⟩
        walk_at "w0"
        refine ⟨_, .inl (SqL.of g5), ?_⟩
        refine drw3 g4 (by omega) (by omega) fun r G3 r0 r1 W9 B9 => ?_
        obtain ⟨y, hy, ey⟩ := at_memV (xs := xs) r0 r1
        have k5 := B9 _ _ npo g5
        refine ixl (SqL.of k5) ey ?_
        walk_at "w0"
        refine ⟨_, y, rfl, (g6 y hy).1.but3 (g6 y hy).2 g4 W9 B9, fun G4 T4 => ?_⟩
        have k1 := T4 _ _ (B9 _ _ l0 g1)
        have k2 := T4 _ _ (B9 _ _ npw g2)
        have k3 := (g3.but3 g4 B9).same T4
        have k4 := W9.same T4
        have k6 : ∀ x ∈ xs, BadT K a G4 (1 + (k : Int)) x ∧ x ≠ .ref pw := fun x hx => ⟨((g6 x hx).1.but3 (g6 x hx).2 g4 W9 B9).same T4, (g6 x hx).2⟩
        walk_at "w1"
        first | exact ⟨⟨_, rfl⟩, k1, k2, k3, k4, T4 _ _ k5, k6⟩ | exact ⟨k1, k2, k3, k4, T4 _ _ k5, k6⟩
      · rintro σ G2 ⟨⟨u10, rfl⟩, g1, g2, g3, g4, g5, g6⟩
        first | exact ⟨⟨_, _, _, rfl⟩, g1, g2, g3, g4⟩ | exact ⟨g1, g2, g3, g4⟩ | (walk_at "w0"; exact ⟨g1, g2, g3, g4⟩)
    · rintro σ G2 ⟨⟨v8, v9, v10, rfl⟩, g1, g2, g3, g4⟩
      first | exact ⟨⟨_, _, _, _, _, _, _, _, _, _, rfl⟩, g1⟩ | exact g1 | (walk_at "w0"; exact g1)
  · rintro σ H1 ⟨⟨s1, s2, s3, s4, s5, s6, s7, s8, s9, s10, rfl⟩, h1⟩
    walk_at "w0"
    exact q _
end
end Bw
set_option Elab.async false
set_option linter.all false
namespace Hd
open PySem PySem.W L2
set_option maxRecDepth 100000
set_option maxHeartbeats 0
structure AT where
  p : Program
  a : List Str
  t : List String
def s (A : AT) (i : Nat) : Str := A.a.getD i Str.empty
def t (A : AT) (i : Nat) : String := A.t.getD i ""
def stm (A : AT) (i : Nat) : Stmt := A.p.main.body.getD i (.Pass ⟨0, 0, 0, 0⟩)
abbrev N : Obj → BT → BT → BT := BT.node
abbrev L : BT := BT.nil
open PyData
noncomputable section
def o_43 (A : AT) (P : Params) : Obj := (Obj.mk (.type (t A 0)) none (.seq #[] 0) #[])
def o_44 (A : AT) (P : Params) : Obj := (Obj.mk .none none (.fields #[]) #[])
def o_45 (A : AT) (P : Params) : Obj := (Obj.mk (.type (t A 1)) none (.fields #[(.str (s A 120) 182), (.str (s A 120) 183), (.str (s A 4) 184), (.int 1 0), (.int 0 0), (.int 0 0), (.int 0 0), (.int 0 0), (.ref 11), (.bool false), (.int 181 0), (.ref 12), .none, .none, .none, .none, (.int 185 0), (.int 1 0), (.str (s A 4) 186)]) #[])
def o_46 (A : AT) (P : Params) : Obj := (Obj.mk (.type (t A 15)) none .plain #[(some (.ref 13)), (some (.ref 3)), (some (.ref 3)), none, (some (.str (s A 76) 164)), none, (some (.ref 0))])
def o_49 (A : AT) (P : Params) : Obj := (Obj.mk (.type (t A 2)) none (.dict #[(DictEntry.mk (keyHash P (s A 5)) (.str (s A 5) 165) (.str (s A 32) 194)), (DictEntry.mk (keyHash P (s A 7)) (.str (s A 7) 166) .none), (DictEntry.mk (keyHash P (s A 8)) (.str (s A 8) 167) .none), (DictEntry.mk (keyHash P (s A 9)) (.str (s A 9) 168) (.builtin (t A 3))), (DictEntry.mk (keyHash P (s A 10)) (.str (s A 10) 169) .none), (DictEntry.mk (keyHash P (s A 11)) (.str (s A 11) 170) (.ref 6)), (DictEntry.mk (keyHash P (s A 12)) (.str (s A 12) 171) (.ref 4)), (DictEntry.mk (keyHash P (s A 13)) (.str (s A 13) 173) (.str (s A 4) 172)), (DictEntry.mk (keyHash P (s A 14)) (.str (s A 14) 174) .none), (DictEntry.mk (keyHash P (s A 15)) (.str (s A 15) 193) (.ref 21)), (DictEntry.mk (keyHash P (s A 16)) (.str (s A 16) 213) (.ref 31))] 11) #[])
def o_50 (A : AT) (P : Params) : Obj := (Obj.mk .none none (.fields #[(.int 1 0), (.int 0 0), (.ref 20), (.int 5 0), (.int 0 0), (.ref 27)]) #[])
def o_51 (A : AT) (P : Params) : Obj := (Obj.mk (.type (t A 0)) none (.seq #[] 0) #[])
def o_52 (A : AT) (P : Params) : Obj := (Obj.mk .none none (.fields #[]) #[])
def o_53 (A : AT) (P : Params) : Obj := (Obj.mk (.type (t A 0)) none (.seq #[(.str (s A 127) 190)] 0) #[])
def o_54 (A : AT) (P : Params) : Obj := (Obj.mk (.type (t A 0)) none (.seq #[] 0) #[])
def o_55 (A : AT) (P : Params) : Obj := (Obj.mk .none none (.func (FuncData.mk (s A 15) (s A 15) (defArgs (stm A 0)) (FuncBody.stmts (defBody (stm A 0))) (defScope (stm A 0)) 0 [] .none .none .none .none none .none .none 0)) #[])
def o_56 (A : AT) (P : Params) : Obj := (Obj.mk (.type (t A 1)) none (.fields #[(.str (s A 15) 187), (.str (s A 15) 188), (.str (s A 4) 189), (.int 1 0), (.int 1 0), (.int 0 0), (.int 0 0), (.int 3 0), (.ref 15), (.bool true), (.int 181 0), (.ref 16), .none, (.ref 17), (.ref 18), (.ref 19), (.int 191 0), (.int 1 0), (.str (s A 4) 192)]) #[])
def o_57 (A : AT) (P : Params) : Obj := (Obj.mk (.type (t A 11)) none (.func (FuncData.mk (s A 15) (s A 15) (defArgs (stm A 0)) (FuncBody.stmts (defBody (stm A 0))) (defScope (stm A 0)) 3 [] .none .none .none (.str (s A 76) 164) none (.ref 20) .none 0)) #[])
def o_58 (A : AT) (P : Params) : Obj := (Obj.mk (.type (t A 0)) none (.seq #[(.type (t A 5))] 0) #[])
def o_59 (A : AT) (P : Params) : Obj := (Obj.mk (.type (t A 13)) none (.fields #[(.builtin (t A 16)), (.type (t A 4))]) #[])
def o_60 (A : AT) (P : Params) : Obj := (Obj.mk (.type (t A 2)) none (.dict #[(DictEntry.mk (keyHash P (s A 31)) (.str (s A 31) 203) (.str (s A 32) 194)), (DictEntry.mk (keyHash P (s A 44)) (.str (s A 44) 205) (.str (s A 16) 204)), (DictEntry.mk (keyHash P (s A 33)) (.str (s A 33) 207) (.int 5 206)), (DictEntry.mk (keyHash P (s A 34)) (.str (s A 34) 208) (.ref 29))] 4) #[])
def o_61 (A : AT) (P : Params) : Obj := (Obj.mk (.type (t A 0)) none (.seq #[] 0) #[])
def o_62 (A : AT) (P : Params) : Obj := (Obj.mk .none none (.fields #[]) #[])
def o_63 (A : AT) (P : Params) : Obj := (Obj.mk (.type (t A 1)) none (.fields #[(.str (s A 16) 198), (.str (s A 16) 199), (.str (s A 4) 200), (.int 5 0), (.int 0 0), (.int 0 0), (.int 0 0), (.int 0 0), (.ref 25), (.bool false), (.int 181 0), (.ref 26), .none, .none, .none, .none, (.int 201 0), (.int 5 0), (.str (s A 4) 202)]) #[])
def o_64 (A : AT) (P : Params) : Obj := (Obj.mk (.type (t A 15)) none .plain #[(some (.ref 27)), (some (.ref 3)), (some (.ref 24)), none, (some (.str (s A 32) 194)), none, (some (.ref 0))])
def o_65 (A : AT) (P : Params) : Obj := (Obj.mk (.type (t A 0)) none (.seq #[] 0) #[])
def o_66 (A : AT) (P : Params) : Obj := (Obj.mk (.type (t A 2)) none (.dict #[(DictEntry.mk (keyHash P (s A 31)) (.str (s A 31) 203) (.str (s A 32) 194)), (DictEntry.mk (keyHash P (s A 33)) (.str (s A 33) 207) (.int 5 206)), (DictEntry.mk (keyHash P (s A 34)) (.str (s A 34) 208) (.ref 29)), (DictEntry.mk (keyHash P (s A 85)) (.str (s A 85) 210) (.ref 32)), (DictEntry.mk (keyHash P (s A 7)) (.str (s A 7) 211) .none)] 3) #[])
def o_67 (A : AT) (P : Params) : Obj := (Obj.mk (.type (t A 4)) none (.cls (ClassData.mk (s A 16) [(.type (t A 5))] [(.ref 31), (.type (t A 5)), (.type (t A 6)), (.type (t A 7)), (.type (t A 8))] 30 (s A 16) true [] [] false none false)) #[(some (.ref 22)), none, (some (.str (s A 16) 196)), (some (.str (s A 16) 204)), (some (.builtin (t A 9))), (some (.bool true))])
def o_68 (A : AT) (P : Params) : Obj := (Obj.mk (.type (t A 17)) none (.fields #[(.str (s A 85) 209), (.ref 31), (.builtin (t A 20)), .none]) #[])
def o_69 (A : AT) (P : Params) : Obj := (Obj.mk (.type (t A 10)) none (.fields #[(.ref 31), (.ref 31), (.ref 31)]) #[])
def o_70 (A : AT) (P : Params) : Obj := (Obj.mk (.type (t A 13)) none (.fields #[(.builtin (t A 14)), (.ref 31)]) #[])
def o_71 (A : AT) (P : Params) : Obj := (Obj.mk (.type (t A 2)) none (.dict #[(DictEntry.mk (keyHash P (s A 5)) (.str (s A 5) 165) (.str (s A 32) 194)), (DictEntry.mk (keyHash P (s A 7)) (.str (s A 7) 166) .none), (DictEntry.mk (keyHash P (s A 8)) (.str (s A 8) 167) .none), (DictEntry.mk (keyHash P (s A 9)) (.str (s A 9) 168) (.builtin (t A 3))), (DictEntry.mk (keyHash P (s A 10)) (.str (s A 10) 169) .none), (DictEntry.mk (keyHash P (s A 11)) (.str (s A 11) 170) (.ref 6)), (DictEntry.mk (keyHash P (s A 12)) (.str (s A 12) 171) (.ref 4)), (DictEntry.mk (keyHash P (s A 13)) (.str (s A 13) 173) (.str (s A 4) 172)), (DictEntry.mk (keyHash P (s A 14)) (.str (s A 14) 174) .none), (DictEntry.mk (keyHash P (s A 15)) (.str (s A 15) 193) (.ref 21)), (DictEntry.mk (keyHash P (s A 16)) (.str (s A 16) 213) (.ref 31)), (DictEntry.mk (keyHash P (s A 17)) (.str (s A 17) 229) (.ref 44))] 12) #[])
def o_72 (A : AT) (P : Params) : Obj := (Obj.mk .none none (.fields #[(.int 1 0), (.int 0 0), (.ref 20), (.int 5 0), (.int 0 0), (.ref 27), (.int 7 0), (.int 0 0), (.ref 40)]) #[])
def o_73 (A : AT) (P : Params) : Obj := (Obj.mk (.type (t A 4)) none (.cls (ClassData.mk (s A 16) [(.type (t A 5))] [(.ref 31), (.type (t A 5)), (.type (t A 6)), (.type (t A 7)), (.type (t A 8))] 30 (s A 16) true [] [(.ref 44)] false none false)) #[(some (.ref 22)), none, (some (.str (s A 16) 196)), (some (.str (s A 16) 204)), (some (.builtin (t A 9))), (some (.bool true))])
def o_74 (A : AT) (P : Params) : Obj := (Obj.mk (.type (t A 0)) none (.seq #[(.ref 31)] 0) #[])
def o_75 (A : AT) (P : Params) : Obj := (Obj.mk (.type (t A 13)) none (.fields #[(.builtin (t A 16)), (.type (t A 4))]) #[])
def o_76 (A : AT) (P : Params) : Obj := (Obj.mk (.type (t A 2)) none (.dict #[(DictEntry.mk (keyHash P (s A 31)) (.str (s A 31) 221) (.str (s A 32) 194)), (DictEntry.mk (keyHash P (s A 44)) (.str (s A 44) 223) (.str (s A 17) 222)), (DictEntry.mk (keyHash P (s A 33)) (.str (s A 33) 225) (.int 7 224)), (DictEntry.mk (keyHash P (s A 34)) (.str (s A 34) 226) (.ref 42))] 4) #[])
def o_77 (A : AT) (P : Params) : Obj := (Obj.mk (.type (t A 0)) none (.seq #[] 0) #[])
def o_78 (A : AT) (P : Params) : Obj := (Obj.mk .none none (.fields #[]) #[])
def o_79 (A : AT) (P : Params) : Obj := (Obj.mk (.type (t A 1)) none (.fields #[(.str (s A 17) 216), (.str (s A 17) 217), (.str (s A 4) 218), (.int 7 0), (.int 0 0), (.int 0 0), (.int 0 0), (.int 0 0), (.ref 38), (.bool false), (.int 181 0), (.ref 39), .none, .none, .none, .none, (.int 219 0), (.int 7 0), (.str (s A 4) 220)]) #[])
def o_80 (A : AT) (P : Params) : Obj := (Obj.mk (.type (t A 15)) none .plain #[(some (.ref 40)), (some (.ref 3)), (some (.ref 37)), none, (some (.str (s A 32) 194)), none, (some (.ref 0))])
def o_81 (A : AT) (P : Params) : Obj := (Obj.mk (.type (t A 0)) none (.seq #[] 0) #[])
def o_82 (A : AT) (P : Params) : Obj := (Obj.mk (.type (t A 2)) none (.dict #[(DictEntry.mk (keyHash P (s A 31)) (.str (s A 31) 221) (.str (s A 32) 194)), (DictEntry.mk (keyHash P (s A 33)) (.str (s A 33) 225) (.int 7 224)), (DictEntry.mk (keyHash P (s A 34)) (.str (s A 34) 226) (.ref 42)), (DictEntry.mk (keyHash P (s A 7)) (.str (s A 7) 227) .none)] 2) #[])
def o_83 (A : AT) (P : Params) : Obj := (Obj.mk (.type (t A 4)) none (.cls (ClassData.mk (s A 17) [(.ref 31)] [(.ref 44), (.ref 31), (.type (t A 5)), (.type (t A 6)), (.type (t A 7)), (.type (t A 8))] 43 (s A 17) true [] [] false none false)) #[(some (.ref 35)), none, (some (.str (s A 17) 214)), (some (.str (s A 17) 222)), (some (.builtin (t A 9))), (some (.bool true))])
def o_84 (A : AT) (P : Params) : Obj := (Obj.mk (.type (t A 10)) none (.fields #[(.ref 44), (.ref 44), (.ref 44)]) #[])
def o_85 (A : AT) (P : Params) : Obj := (Obj.mk (.type (t A 13)) none (.fields #[(.builtin (t A 14)), (.ref 44)]) #[])
def o_86 (A : AT) (P : Params) : Obj := (Obj.mk (.type (t A 2)) none (.dict #[(DictEntry.mk (keyHash P (s A 5)) (.str (s A 5) 165) (.str (s A 32) 194)), (DictEntry.mk (keyHash P (s A 7)) (.str (s A 7) 166) .none), (DictEntry.mk (keyHash P (s A 8)) (.str (s A 8) 167) .none), (DictEntry.mk (keyHash P (s A 9)) (.str (s A 9) 168) (.builtin (t A 3))), (DictEntry.mk (keyHash P (s A 10)) (.str (s A 10) 169) .none), (DictEntry.mk (keyHash P (s A 11)) (.str (s A 11) 170) (.ref 6)), (DictEntry.mk (keyHash P (s A 12)) (.str (s A 12) 171) (.ref 4)), (DictEntry.mk (keyHash P (s A 13)) (.str (s A 13) 173) (.str (s A 4) 172)), (DictEntry.mk (keyHash P (s A 14)) (.str (s A 14) 174) .none), (DictEntry.mk (keyHash P (s A 15)) (.str (s A 15) 193) (.ref 21)), (DictEntry.mk (keyHash P (s A 16)) (.str (s A 16) 213) (.ref 31)), (DictEntry.mk (keyHash P (s A 17)) (.str (s A 17) 229) (.ref 44)), (DictEntry.mk (keyHash P (s A 18)) (.str (s A 18) 245) (.ref 56))] 13) #[])
def o_87 (A : AT) (P : Params) : Obj := (Obj.mk .none none (.fields #[(.int 1 0), (.int 0 0), (.ref 20), (.int 5 0), (.int 0 0), (.ref 27), (.int 7 0), (.int 0 0), (.ref 40), (.int 9 0), (.int 0 0), (.ref 52)]) #[])
def o_88 (A : AT) (P : Params) : Obj := (Obj.mk (.type (t A 4)) none (.cls (ClassData.mk (s A 16) [(.type (t A 5))] [(.ref 31), (.type (t A 5)), (.type (t A 6)), (.type (t A 7)), (.type (t A 8))] 30 (s A 16) true [] [(.ref 44), (.ref 56)] false none false)) #[(some (.ref 22)), none, (some (.str (s A 16) 196)), (some (.str (s A 16) 204)), (some (.builtin (t A 9))), (some (.bool true))])
def o_89 (A : AT) (P : Params) : Obj := (Obj.mk (.type (t A 0)) none (.seq #[(.ref 31)] 0) #[])
def o_90 (A : AT) (P : Params) : Obj := (Obj.mk (.type (t A 13)) none (.fields #[(.builtin (t A 16)), (.type (t A 4))]) #[])
def o_91 (A : AT) (P : Params) : Obj := (Obj.mk (.type (t A 2)) none (.dict #[(DictEntry.mk (keyHash P (s A 31)) (.str (s A 31) 237) (.str (s A 32) 194)), (DictEntry.mk (keyHash P (s A 44)) (.str (s A 44) 239) (.str (s A 18) 238)), (DictEntry.mk (keyHash P (s A 33)) (.str (s A 33) 241) (.int 9 240)), (DictEntry.mk (keyHash P (s A 34)) (.str (s A 34) 242) (.ref 54))] 4) #[])
def o_92 (A : AT) (P : Params) : Obj := (Obj.mk (.type (t A 0)) none (.seq #[] 0) #[])
def o_93 (A : AT) (P : Params) : Obj := (Obj.mk .none none (.fields #[]) #[])
def o_94 (A : AT) (P : Params) : Obj := (Obj.mk (.type (t A 1)) none (.fields #[(.str (s A 18) 232), (.str (s A 18) 233), (.str (s A 4) 234), (.int 9 0), (.int 0 0), (.int 0 0), (.int 0 0), (.int 0 0), (.ref 50), (.bool false), (.int 181 0), (.ref 51), .none, .none, .none, .none, (.int 235 0), (.int 9 0), (.str (s A 4) 236)]) #[])
def o_95 (A : AT) (P : Params) : Obj := (Obj.mk (.type (t A 15)) none .plain #[(some (.ref 52)), (some (.ref 3)), (some (.ref 49)), none, (some (.str (s A 32) 194)), none, (some (.ref 0))])
def o_96 (A : AT) (P : Params) : Obj := (Obj.mk (.type (t A 0)) none (.seq #[] 0) #[])
def o_97 (A : AT) (P : Params) : Obj := (Obj.mk (.type (t A 2)) none (.dict #[(DictEntry.mk (keyHash P (s A 31)) (.str (s A 31) 237) (.str (s A 32) 194)), (DictEntry.mk (keyHash P (s A 33)) (.str (s A 33) 241) (.int 9 240)), (DictEntry.mk (keyHash P (s A 34)) (.str (s A 34) 242) (.ref 54)), (DictEntry.mk (keyHash P (s A 7)) (.str (s A 7) 243) .none)] 2) #[])
def o_98 (A : AT) (P : Params) : Obj := (Obj.mk (.type (t A 4)) none (.cls (ClassData.mk (s A 18) [(.ref 31)] [(.ref 56), (.ref 31), (.type (t A 5)), (.type (t A 6)), (.type (t A 7)), (.type (t A 8))] 55 (s A 18) true [] [] false none false)) #[(some (.ref 47)), none, (some (.str (s A 18) 230)), (some (.str (s A 18) 238)), (some (.builtin (t A 9))), (some (.bool true))])
def o_99 (A : AT) (P : Params) : Obj := (Obj.mk (.type (t A 10)) none (.fields #[(.ref 56), (.ref 56), (.ref 56)]) #[])
def o_100 (A : AT) (P : Params) : Obj := (Obj.mk (.type (t A 13)) none (.fields #[(.builtin (t A 14)), (.ref 56)]) #[])
def o_101 (A : AT) (P : Params) : Obj := (Obj.mk (.type (t A 2)) none (.dict #[(DictEntry.mk (keyHash P (s A 5)) (.str (s A 5) 165) (.str (s A 32) 194)), (DictEntry.mk (keyHash P (s A 7)) (.str (s A 7) 166) .none), (DictEntry.mk (keyHash P (s A 8)) (.str (s A 8) 167) .none), (DictEntry.mk (keyHash P (s A 9)) (.str (s A 9) 168) (.builtin (t A 3))), (DictEntry.mk (keyHash P (s A 10)) (.str (s A 10) 169) .none), (DictEntry.mk (keyHash P (s A 11)) (.str (s A 11) 170) (.ref 6)), (DictEntry.mk (keyHash P (s A 12)) (.str (s A 12) 171) (.ref 4)), (DictEntry.mk (keyHash P (s A 13)) (.str (s A 13) 173) (.str (s A 4) 172)), (DictEntry.mk (keyHash P (s A 14)) (.str (s A 14) 174) .none), (DictEntry.mk (keyHash P (s A 15)) (.str (s A 15) 193) (.ref 21)), (DictEntry.mk (keyHash P (s A 16)) (.str (s A 16) 213) (.ref 31)), (DictEntry.mk (keyHash P (s A 17)) (.str (s A 17) 229) (.ref 44)), (DictEntry.mk (keyHash P (s A 18)) (.str (s A 18) 245) (.ref 56)), (DictEntry.mk (keyHash P (s A 19)) (.str (s A 19) 261) (.ref 68))] 14) #[])
def o_102 (A : AT) (P : Params) : Obj := (Obj.mk .none none (.fields #[(.int 1 0), (.int 0 0), (.ref 20), (.int 5 0), (.int 0 0), (.ref 27), (.int 7 0), (.int 0 0), (.ref 40), (.int 9 0), (.int 0 0), (.ref 52), (.int 11 0), (.int 0 0), (.ref 64)]) #[])
def o_103 (A : AT) (P : Params) : Obj := (Obj.mk (.type (t A 4)) none (.cls (ClassData.mk (s A 16) [(.type (t A 5))] [(.ref 31), (.type (t A 5)), (.type (t A 6)), (.type (t A 7)), (.type (t A 8))] 30 (s A 16) true [] [(.ref 44), (.ref 56), (.ref 68)] false none false)) #[(some (.ref 22)), none, (some (.str (s A 16) 196)), (some (.str (s A 16) 204)), (some (.builtin (t A 9))), (some (.bool true))])
def o_104 (A : AT) (P : Params) : Obj := (Obj.mk (.type (t A 0)) none (.seq #[(.ref 31)] 0) #[])
def o_105 (A : AT) (P : Params) : Obj := (Obj.mk (.type (t A 13)) none (.fields #[(.builtin (t A 16)), (.type (t A 4))]) #[])
def o_106 (A : AT) (P : Params) : Obj := (Obj.mk (.type (t A 2)) none (.dict #[(DictEntry.mk (keyHash P (s A 31)) (.str (s A 31) 253) (.str (s A 32) 194)), (DictEntry.mk (keyHash P (s A 44)) (.str (s A 44) 255) (.str (s A 19) 254)), (DictEntry.mk (keyHash P (s A 33)) (.str (s A 33) 257) (.int 11 256)), (DictEntry.mk (keyHash P (s A 34)) (.str (s A 34) 258) (.ref 66))] 4) #[])
def o_107 (A : AT) (P : Params) : Obj := (Obj.mk (.type (t A 0)) none (.seq #[] 0) #[])
def o_108 (A : AT) (P : Params) : Obj := (Obj.mk .none none (.fields #[]) #[])
def o_109 (A : AT) (P : Params) : Obj := (Obj.mk (.type (t A 1)) none (.fields #[(.str (s A 19) 248), (.str (s A 19) 249), (.str (s A 4) 250), (.int 11 0), (.int 0 0), (.int 0 0), (.int 0 0), (.int 0 0), (.ref 62), (.bool false), (.int 181 0), (.ref 63), .none, .none, .none, .none, (.int 251 0), (.int 11 0), (.str (s A 4) 252)]) #[])
def o_110 (A : AT) (P : Params) : Obj := (Obj.mk (.type (t A 15)) none .plain #[(some (.ref 64)), (some (.ref 3)), (some (.ref 61)), none, (some (.str (s A 32) 194)), none, (some (.ref 0))])
def o_111 (A : AT) (P : Params) : Obj := (Obj.mk (.type (t A 0)) none (.seq #[] 0) #[])
def o_112 (A : AT) (P : Params) : Obj := (Obj.mk (.type (t A 2)) none (.dict #[(DictEntry.mk (keyHash P (s A 31)) (.str (s A 31) 253) (.str (s A 32) 194)), (DictEntry.mk (keyHash P (s A 33)) (.str (s A 33) 257) (.int 11 256)), (DictEntry.mk (keyHash P (s A 34)) (.str (s A 34) 258) (.ref 66)), (DictEntry.mk (keyHash P (s A 7)) (.str (s A 7) 259) .none)] 2) #[])
def o_113 (A : AT) (P : Params) : Obj := (Obj.mk (.type (t A 4)) none (.cls (ClassData.mk (s A 19) [(.ref 31)] [(.ref 68), (.ref 31), (.type (t A 5)), (.type (t A 6)), (.type (t A 7)), (.type (t A 8))] 67 (s A 19) true [] [] false none false)) #[(some (.ref 59)), none, (some (.str (s A 19) 246)), (some (.str (s A 19) 254)), (some (.builtin (t A 9))), (some (.bool true))])
def o_114 (A : AT) (P : Params) : Obj := (Obj.mk (.type (t A 10)) none (.fields #[(.ref 68), (.ref 68), (.ref 68)]) #[])
def o_115 (A : AT) (P : Params) : Obj := (Obj.mk (.type (t A 13)) none (.fields #[(.builtin (t A 14)), (.ref 68)]) #[])
def o_116 (A : AT) (P : Params) : Obj := (Obj.mk (.type (t A 2)) none (.dict #[(DictEntry.mk (keyHash P (s A 5)) (.str (s A 5) 165) (.str (s A 32) 194)), (DictEntry.mk (keyHash P (s A 7)) (.str (s A 7) 166) .none), (DictEntry.mk (keyHash P (s A 8)) (.str (s A 8) 167) .none), (DictEntry.mk (keyHash P (s A 9)) (.str (s A 9) 168) (.builtin (t A 3))), (DictEntry.mk (keyHash P (s A 10)) (.str (s A 10) 169) .none), (DictEntry.mk (keyHash P (s A 11)) (.str (s A 11) 170) (.ref 6)), (DictEntry.mk (keyHash P (s A 12)) (.str (s A 12) 171) (.ref 4)), (DictEntry.mk (keyHash P (s A 13)) (.str (s A 13) 173) (.str (s A 4) 172)), (DictEntry.mk (keyHash P (s A 14)) (.str (s A 14) 174) .none), (DictEntry.mk (keyHash P (s A 15)) (.str (s A 15) 193) (.ref 21)), (DictEntry.mk (keyHash P (s A 16)) (.str (s A 16) 213) (.ref 31)), (DictEntry.mk (keyHash P (s A 17)) (.str (s A 17) 229) (.ref 44)), (DictEntry.mk (keyHash P (s A 18)) (.str (s A 18) 245) (.ref 56)), (DictEntry.mk (keyHash P (s A 19)) (.str (s A 19) 261) (.ref 68)), (DictEntry.mk (keyHash P (s A 20)) (.str (s A 20) 277) (.ref 80))] 15) #[])
def o_117 (A : AT) (P : Params) : Obj := (Obj.mk .none none (.fields #[(.int 1 0), (.int 0 0), (.ref 20), (.int 5 0), (.int 0 0), (.ref 27), (.int 7 0), (.int 0 0), (.ref 40), (.int 9 0), (.int 0 0), (.ref 52), (.int 11 0), (.int 0 0), (.ref 64), (.int 13 0), (.int 0 0), (.ref 76)]) #[])
def o_118 (A : AT) (P : Params) : Obj := (Obj.mk (.type (t A 4)) none (.cls (ClassData.mk (s A 16) [(.type (t A 5))] [(.ref 31), (.type (t A 5)), (.type (t A 6)), (.type (t A 7)), (.type (t A 8))] 30 (s A 16) true [] [(.ref 44), (.ref 56), (.ref 68), (.ref 80)] false none false)) #[(some (.ref 22)), none, (some (.str (s A 16) 196)), (some (.str (s A 16) 204)), (some (.builtin (t A 9))), (some (.bool true))])
def o_119 (A : AT) (P : Params) : Obj := (Obj.mk (.type (t A 0)) none (.seq #[(.ref 31)] 0) #[])
def o_120 (A : AT) (P : Params) : Obj := (Obj.mk (.type (t A 13)) none (.fields #[(.builtin (t A 16)), (.type (t A 4))]) #[])
def o_121 (A : AT) (P : Params) : Obj := (Obj.mk (.type (t A 2)) none (.dict #[(DictEntry.mk (keyHash P (s A 31)) (.str (s A 31) 269) (.str (s A 32) 194)), (DictEntry.mk (keyHash P (s A 44)) (.str (s A 44) 271) (.str (s A 20) 270)), (DictEntry.mk (keyHash P (s A 33)) (.str (s A 33) 273) (.int 13 272)), (DictEntry.mk (keyHash P (s A 34)) (.str (s A 34) 274) (.ref 78))] 4) #[])
def o_122 (A : AT) (P : Params) : Obj := (Obj.mk (.type (t A 0)) none (.seq #[] 0) #[])
def o_123 (A : AT) (P : Params) : Obj := (Obj.mk .none none (.fields #[]) #[])
def o_124 (A : AT) (P : Params) : Obj := (Obj.mk (.type (t A 1)) none (.fields #[(.str (s A 20) 264), (.str (s A 20) 265), (.str (s A 4) 266), (.int 13 0), (.int 0 0), (.int 0 0), (.int 0 0), (.int 0 0), (.ref 74), (.bool false), (.int 181 0), (.ref 75), .none, .none, .none, .none, (.int 267 0), (.int 13 0), (.str (s A 4) 268)]) #[])
def o_125 (A : AT) (P : Params) : Obj := (Obj.mk (.type (t A 15)) none .plain #[(some (.ref 76)), (some (.ref 3)), (some (.ref 73)), none, (some (.str (s A 32) 194)), none, (some (.ref 0))])
def o_126 (A : AT) (P : Params) : Obj := (Obj.mk (.type (t A 0)) none (.seq #[] 0) #[])
def o_127 (A : AT) (P : Params) : Obj := (Obj.mk (.type (t A 2)) none (.dict #[(DictEntry.mk (keyHash P (s A 31)) (.str (s A 31) 269) (.str (s A 32) 194)), (DictEntry.mk (keyHash P (s A 33)) (.str (s A 33) 273) (.int 13 272)), (DictEntry.mk (keyHash P (s A 34)) (.str (s A 34) 274) (.ref 78)), (DictEntry.mk (keyHash P (s A 7)) (.str (s A 7) 275) .none)] 2) #[])
def o_128 (A : AT) (P : Params) : Obj := (Obj.mk (.type (t A 4)) none (.cls (ClassData.mk (s A 20) [(.ref 31)] [(.ref 80), (.ref 31), (.type (t A 5)), (.type (t A 6)), (.type (t A 7)), (.type (t A 8))] 79 (s A 20) true [] [] false none false)) #[(some (.ref 71)), none, (some (.str (s A 20) 262)), (some (.str (s A 20) 270)), (some (.builtin (t A 9))), (some (.bool true))])
def o_129 (A : AT) (P : Params) : Obj := (Obj.mk (.type (t A 10)) none (.fields #[(.ref 80), (.ref 80), (.ref 80)]) #[])
def o_130 (A : AT) (P : Params) : Obj := (Obj.mk (.type (t A 13)) none (.fields #[(.builtin (t A 14)), (.ref 80)]) #[])
def o_131 (A : AT) (P : Params) : Obj := (Obj.mk (.type (t A 2)) none (.dict #[(DictEntry.mk (keyHash P (s A 5)) (.str (s A 5) 165) (.str (s A 32) 194)), (DictEntry.mk (keyHash P (s A 7)) (.str (s A 7) 166) .none), (DictEntry.mk (keyHash P (s A 8)) (.str (s A 8) 167) .none), (DictEntry.mk (keyHash P (s A 9)) (.str (s A 9) 168) (.builtin (t A 3))), (DictEntry.mk (keyHash P (s A 10)) (.str (s A 10) 169) .none), (DictEntry.mk (keyHash P (s A 11)) (.str (s A 11) 170) (.ref 6)), (DictEntry.mk (keyHash P (s A 12)) (.str (s A 12) 171) (.ref 4)), (DictEntry.mk (keyHash P (s A 13)) (.str (s A 13) 173) (.str (s A 4) 172)), (DictEntry.mk (keyHash P (s A 14)) (.str (s A 14) 174) .none), (DictEntry.mk (keyHash P (s A 15)) (.str (s A 15) 193) (.ref 21)), (DictEntry.mk (keyHash P (s A 16)) (.str (s A 16) 213) (.ref 31)), (DictEntry.mk (keyHash P (s A 17)) (.str (s A 17) 229) (.ref 44)), (DictEntry.mk (keyHash P (s A 18)) (.str (s A 18) 245) (.ref 56)), (DictEntry.mk (keyHash P (s A 19)) (.str (s A 19) 261) (.ref 68)), (DictEntry.mk (keyHash P (s A 20)) (.str (s A 20) 277) (.ref 80)), (DictEntry.mk (keyHash P (s A 21)) (.str (s A 21) 293) (.ref 92))] 16) #[])
def o_132 (A : AT) (P : Params) : Obj := (Obj.mk .none none (.fields #[(.int 1 0), (.int 0 0), (.ref 20), (.int 5 0), (.int 0 0), (.ref 27), (.int 7 0), (.int 0 0), (.ref 40), (.int 9 0), (.int 0 0), (.ref 52), (.int 11 0), (.int 0 0), (.ref 64), (.int 13 0), (.int 0 0), (.ref 76), (.int 15 0), (.int 0 0), (.ref 88)]) #[])
def o_133 (A : AT) (P : Params) : Obj := (Obj.mk (.type (t A 4)) none (.cls (ClassData.mk (s A 16) [(.type (t A 5))] [(.ref 31), (.type (t A 5)), (.type (t A 6)), (.type (t A 7)), (.type (t A 8))] 30 (s A 16) true [] [(.ref 44), (.ref 56), (.ref 68), (.ref 80), (.ref 92)] false none false)) #[(some (.ref 22)), none, (some (.str (s A 16) 196)), (some (.str (s A 16) 204)), (some (.builtin (t A 9))), (some (.bool true))])
def o_134 (A : AT) (P : Params) : Obj := (Obj.mk (.type (t A 0)) none (.seq #[(.ref 31)] 0) #[])
def o_135 (A : AT) (P : Params) : Obj := (Obj.mk (.type (t A 13)) none (.fields #[(.builtin (t A 16)), (.type (t A 4))]) #[])
def o_136 (A : AT) (P : Params) : Obj := (Obj.mk (.type (t A 2)) none (.dict #[(DictEntry.mk (keyHash P (s A 31)) (.str (s A 31) 285) (.str (s A 32) 194)), (DictEntry.mk (keyHash P (s A 44)) (.str (s A 44) 287) (.str (s A 21) 286)), (DictEntry.mk (keyHash P (s A 33)) (.str (s A 33) 289) (.int 15 288)), (DictEntry.mk (keyHash P (s A 34)) (.str (s A 34) 290) (.ref 90))] 4) #[])
def o_137 (A : AT) (P : Params) : Obj := (Obj.mk (.type (t A 0)) none (.seq #[] 0) #[])
def o_138 (A : AT) (P : Params) : Obj := (Obj.mk .none none (.fields #[]) #[])
def o_139 (A : AT) (P : Params) : Obj := (Obj.mk (.type (t A 1)) none (.fields #[(.str (s A 21) 280), (.str (s A 21) 281), (.str (s A 4) 282), (.int 15 0), (.int 0 0), (.int 0 0), (.int 0 0), (.int 0 0), (.ref 86), (.bool false), (.int 181 0), (.ref 87), .none, .none, .none, .none, (.int 283 0), (.int 15 0), (.str (s A 4) 284)]) #[])
def o_140 (A : AT) (P : Params) : Obj := (Obj.mk (.type (t A 15)) none .plain #[(some (.ref 88)), (some (.ref 3)), (some (.ref 85)), none, (some (.str (s A 32) 194)), none, (some (.ref 0))])
def o_141 (A : AT) (P : Params) : Obj := (Obj.mk (.type (t A 0)) none (.seq #[] 0) #[])
def o_142 (A : AT) (P : Params) : Obj := (Obj.mk (.type (t A 2)) none (.dict #[(DictEntry.mk (keyHash P (s A 31)) (.str (s A 31) 285) (.str (s A 32) 194)), (DictEntry.mk (keyHash P (s A 33)) (.str (s A 33) 289) (.int 15 288)), (DictEntry.mk (keyHash P (s A 34)) (.str (s A 34) 290) (.ref 90)), (DictEntry.mk (keyHash P (s A 7)) (.str (s A 7) 291) .none)] 2) #[])
def o_143 (A : AT) (P : Params) : Obj := (Obj.mk (.type (t A 4)) none (.cls (ClassData.mk (s A 21) [(.ref 31)] [(.ref 92), (.ref 31), (.type (t A 5)), (.type (t A 6)), (.type (t A 7)), (.type (t A 8))] 91 (s A 21) true [] [] false none false)) #[(some (.ref 83)), none, (some (.str (s A 21) 278)), (some (.str (s A 21) 286)), (some (.builtin (t A 9))), (some (.bool true))])
def o_144 (A : AT) (P : Params) : Obj := (Obj.mk (.type (t A 10)) none (.fields #[(.ref 92), (.ref 92), (.ref 92)]) #[])
def o_145 (A : AT) (P : Params) : Obj := (Obj.mk (.type (t A 13)) none (.fields #[(.builtin (t A 14)), (.ref 92)]) #[])
def o_146 (A : AT) (P : Params) : Obj := (Obj.mk (.type (t A 2)) none (.dict #[(DictEntry.mk (keyHash P (s A 5)) (.str (s A 5) 165) (.str (s A 6) 337)), (DictEntry.mk (keyHash P (s A 7)) (.str (s A 7) 166) .none), (DictEntry.mk (keyHash P (s A 8)) (.str (s A 8) 167) .none), (DictEntry.mk (keyHash P (s A 9)) (.str (s A 9) 168) (.builtin (t A 3))), (DictEntry.mk (keyHash P (s A 10)) (.str (s A 10) 169) .none), (DictEntry.mk (keyHash P (s A 11)) (.str (s A 11) 170) (.ref 6)), (DictEntry.mk (keyHash P (s A 12)) (.str (s A 12) 171) (.ref 4)), (DictEntry.mk (keyHash P (s A 13)) (.str (s A 13) 173) (.str (s A 4) 172)), (DictEntry.mk (keyHash P (s A 14)) (.str (s A 14) 174) .none), (DictEntry.mk (keyHash P (s A 15)) (.str (s A 15) 193) (.ref 21)), (DictEntry.mk (keyHash P (s A 16)) (.str (s A 16) 213) (.ref 31)), (DictEntry.mk (keyHash P (s A 17)) (.str (s A 17) 229) (.ref 44)), (DictEntry.mk (keyHash P (s A 18)) (.str (s A 18) 245) (.ref 56)), (DictEntry.mk (keyHash P (s A 19)) (.str (s A 19) 261) (.ref 68)), (DictEntry.mk (keyHash P (s A 20)) (.str (s A 20) 277) (.ref 80)), (DictEntry.mk (keyHash P (s A 21)) (.str (s A 21) 293) (.ref 92)), (DictEntry.mk (keyHash P (s A 22)) (.str (s A 22) 319) (.ref 112)), (DictEntry.mk (keyHash P (s A 23)) (.str (s A 23) 328) (.ref 121)), (DictEntry.mk (keyHash P (s A 24)) (.str (s A 24) 336) (.ref 128)), (DictEntry.mk (keyHash P (s A 25)) (.str (s A 25) 340) (.str (s A 26) 339)), (DictEntry.mk (keyHash P (s A 27)) (.str (s A 27) 342) (.int 8 341)), (DictEntry.mk (keyHash P (s A 28)) (.str (s A 28) 348) (.ref 133))] 22) #[])
def o_147 (A : AT) (P : Params) : Obj := (Obj.mk .none none (.fields #[(.int 1 0), (.int 0 0), (.ref 20), (.int 5 0), (.int 0 0), (.ref 27), (.int 7 0), (.int 0 0), (.ref 40), (.int 9 0), (.int 0 0), (.ref 52), (.int 11 0), (.int 0 0), (.ref 64), (.int 13 0), (.int 0 0), (.ref 76), (.int 15 0), (.int 0 0), (.ref 88), (.int 17 0), (.int 0 0), (.ref 100), (.int 22 0), (.int 0 0), (.ref 120), (.int 24 0), (.int 0 0), (.ref 127), (.int 29 0), (.int 0 0), (.ref 132)]) #[])
def o_148 (A : AT) (P : Params) : Obj := (Obj.mk (.type (t A 4)) none (.cls (ClassData.mk (s A 16) [(.type (t A 5))] [(.ref 31), (.type (t A 5)), (.type (t A 6)), (.type (t A 7)), (.type (t A 8))] 30 (s A 16) true [] [(.ref 44), (.ref 56), (.ref 68), (.ref 80), (.ref 92), (.ref 112)] false none false)) #[(some (.ref 22)), none, (some (.str (s A 16) 196)), (some (.str (s A 16) 204)), (some (.builtin (t A 9))), (some (.bool true))])
def o_149 (A : AT) (P : Params) : Obj := (Obj.mk (.type (t A 0)) none (.seq #[(.ref 31)] 0) #[])
def o_150 (A : AT) (P : Params) : Obj := (Obj.mk (.type (t A 13)) none (.fields #[(.builtin (t A 16)), (.type (t A 4))]) #[])
def o_151 (A : AT) (P : Params) : Obj := (Obj.mk (.type (t A 2)) none (.dict #[(DictEntry.mk (keyHash P (s A 31)) (.str (s A 31) 301) (.str (s A 32) 194)), (DictEntry.mk (keyHash P (s A 44)) (.str (s A 44) 303) (.str (s A 22) 302)), (DictEntry.mk (keyHash P (s A 33)) (.str (s A 33) 305) (.int 17 304)), (DictEntry.mk (keyHash P (s A 48)) (.str (s A 48) 314) (.ref 109)), (DictEntry.mk (keyHash P (s A 34)) (.str (s A 34) 316) (.ref 110))] 5) #[])
def o_152 (A : AT) (P : Params) : Obj := (Obj.mk (.type (t A 0)) none (.seq #[] 0) #[])
def o_153 (A : AT) (P : Params) : Obj := (Obj.mk .none none (.fields #[(.int 19 0), (.int 4 0), (.ref 108)]) #[])
def o_154 (A : AT) (P : Params) : Obj := (Obj.mk (.type (t A 1)) none (.fields #[(.str (s A 22) 296), (.str (s A 22) 297), (.str (s A 4) 298), (.int 17 0), (.int 0 0), (.int 0 0), (.int 0 0), (.int 0 0), (.ref 98), (.bool false), (.int 181 0), (.ref 99), .none, .none, .none, .none, (.int 299 0), (.int 17 0), (.str (s A 4) 300)]) #[])
def o_155 (A : AT) (P : Params) : Obj := (Obj.mk (.type (t A 15)) none .plain #[(some (.ref 100)), (some (.ref 3)), (some (.ref 97)), none, (some (.str (s A 32) 194)), none, (some (.ref 0))])
def o_156 (A : AT) (P : Params) : Obj := (Obj.mk (.type (t A 0)) none (.seq #[(.int 0 306)] 0) #[])
def o_157 (A : AT) (P : Params) : Obj := (Obj.mk (.type (t A 0)) none (.seq #[] 0) #[])
def o_158 (A : AT) (P : Params) : Obj := (Obj.mk .none none (.fields #[]) #[])
def o_159 (A : AT) (P : Params) : Obj := (Obj.mk (.type (t A 0)) none (.seq #[(.str (s A 35) 310), (.str (s A 77) 311)] 0) #[])
def o_160 (A : AT) (P : Params) : Obj := (Obj.mk (.type (t A 0)) none (.seq #[] 0) #[])
def o_161 (A : AT) (P : Params) : Obj := (Obj.mk .none none (.func (FuncData.mk (s A 48) (s A 123) (defArgs (inClass (stm A 8) 0)) (FuncBody.stmts (defBody (inClass (stm A 8) 0))) (defScope (inClass (stm A 8) 0)) 0 [] .none .none .none .none none .none .none 0)) #[])
def o_162 (A : AT) (P : Params) : Obj := (Obj.mk (.type (t A 1)) none (.fields #[(.str (s A 48) 307), (.str (s A 123) 308), (.str (s A 4) 309), (.int 19 0), (.int 2 0), (.int 0 0), (.int 0 0), (.int 3 0), (.ref 103), (.bool true), (.int 181 0), (.ref 104), .none, (.ref 105), (.ref 106), (.ref 107), (.int 312 0), (.int 19 0), (.str (s A 4) 313)]) #[])
def o_163 (A : AT) (P : Params) : Obj := (Obj.mk (.type (t A 11)) none (.func (FuncData.mk (s A 48) (s A 123) (defArgs (inClass (stm A 8) 0)) (FuncBody.stmts (defBody (inClass (stm A 8) 0))) (defScope (inClass (stm A 8) 0)) 3 [] (.ref 102) .none .none (.str (s A 32) 194) none (.ref 108) .none 0)) #[])
def o_164 (A : AT) (P : Params) : Obj := (Obj.mk (.type (t A 0)) none (.seq #[(.str (s A 77) 315)] 0) #[])
def o_165 (A : AT) (P : Params) : Obj := (Obj.mk (.type (t A 2)) none (.dict #[(DictEntry.mk (keyHash P (s A 31)) (.str (s A 31) 301) (.str (s A 32) 194)), (DictEntry.mk (keyHash P (s A 33)) (.str (s A 33) 305) (.int 17 304)), (DictEntry.mk (keyHash P (s A 48)) (.str (s A 48) 314) (.ref 109)), (DictEntry.mk (keyHash P (s A 34)) (.str (s A 34) 316) (.ref 110)), (DictEntry.mk (keyHash P (s A 7)) (.str (s A 7) 317) .none)] 2) #[])
def o_166 (A : AT) (P : Params) : Obj := (Obj.mk (.type (t A 4)) none (.cls (ClassData.mk (s A 22) [(.ref 31)] [(.ref 112), (.ref 31), (.type (t A 5)), (.type (t A 6)), (.type (t A 7)), (.type (t A 8))] 111 (s A 22) true [] [] false none false)) #[(some (.ref 95)), none, (some (.str (s A 22) 294)), (some (.str (s A 22) 302)), (some (.builtin (t A 9))), (some (.bool true))])
def o_167 (A : AT) (P : Params) : Obj := (Obj.mk (.type (t A 10)) none (.fields #[(.ref 112), (.ref 112), (.ref 112)]) #[])
def o_168 (A : AT) (P : Params) : Obj := (Obj.mk (.type (t A 13)) none (.fields #[(.builtin (t A 14)), (.ref 112)]) #[])
def o_169 (A : AT) (P : Params) : Obj := (Obj.mk (.type (t A 0)) none (.seq #[] 0) #[])
def o_170 (A : AT) (P : Params) : Obj := (Obj.mk .none none (.fields #[]) #[])
def o_171 (A : AT) (P : Params) : Obj := (Obj.mk (.type (t A 0)) none (.seq #[(.str (s A 62) 325)] 0) #[])
def o_172 (A : AT) (P : Params) : Obj := (Obj.mk (.type (t A 0)) none (.seq #[] 0) #[])
def o_173 (A : AT) (P : Params) : Obj := (Obj.mk .none none (.func (FuncData.mk (s A 23) (s A 23) (defArgs (stm A 10)) (FuncBody.stmts (defBody (stm A 10))) (defScope (stm A 10)) 0 [] .none .none .none .none none .none .none 0)) #[])
def o_174 (A : AT) (P : Params) : Obj := (Obj.mk (.type (t A 1)) none (.fields #[(.str (s A 23) 322), (.str (s A 23) 323), (.str (s A 4) 324), (.int 22 0), (.int 1 0), (.int 0 0), (.int 0 0), (.int 3 0), (.ref 115), (.bool true), (.int 181 0), (.ref 116), .none, (.ref 117), (.ref 118), (.ref 119), (.int 326 0), (.int 22 0), (.str (s A 4) 327)]) #[])
def o_175 (A : AT) (P : Params) : Obj := (Obj.mk (.type (t A 11)) none (.func (FuncData.mk (s A 23) (s A 23) (defArgs (stm A 10)) (FuncBody.stmts (defBody (stm A 10))) (defScope (stm A 10)) 3 [] .none .none .none (.str (s A 114) 320) none (.ref 120) .none 0)) #[])
def o_176 (A : AT) (P : Params) : Obj := (Obj.mk (.type (t A 0)) none (.seq #[] 0) #[])
def o_177 (A : AT) (P : Params) : Obj := (Obj.mk .none none (.fields #[]) #[])
def o_178 (A : AT) (P : Params) : Obj := (Obj.mk (.type (t A 0)) none (.seq #[(.str (s A 62) 332), (.str (s A 63) 333)] 0) #[])
def o_179 (A : AT) (P : Params) : Obj := (Obj.mk (.type (t A 0)) none (.seq #[] 0) #[])
def o_180 (A : AT) (P : Params) : Obj := (Obj.mk .none none (.func (FuncData.mk (s A 24) (s A 24) (defArgs (stm A 11)) (FuncBody.stmts (defBody (stm A 11))) (defScope (stm A 11)) 0 [] .none .none .none .none none .none .none 0)) #[])
def o_181 (A : AT) (P : Params) : Obj := (Obj.mk (.type (t A 1)) none (.fields #[(.str (s A 24) 329), (.str (s A 24) 330), (.str (s A 4) 331), (.int 24 0), (.int 2 0), (.int 0 0), (.int 0 0), (.int 3 0), (.ref 122), (.bool true), (.int 181 0), (.ref 123), .none, (.ref 124), (.ref 125), (.ref 126), (.int 334 0), (.int 24 0), (.str (s A 4) 335)]) #[])
def o_182 (A : AT) (P : Params) : Obj := (Obj.mk (.type (t A 11)) none (.func (FuncData.mk (s A 24) (s A 24) (defArgs (stm A 11)) (FuncBody.stmts (defBody (stm A 11))) (defScope (stm A 11)) 3 [] .none .none .none (.str (s A 114) 320) none (.ref 127) .none 0)) #[])
def o_183 (A : AT) (P : Params) : Obj := (Obj.mk (.type (t A 0)) none (.seq #[] 0) #[])
def o_184 (A : AT) (P : Params) : Obj := (Obj.mk .none none (.fields #[]) #[])
def o_185 (A : AT) (P : Params) : Obj := (Obj.mk .none none (.func (FuncData.mk (s A 28) (s A 28) (defArgs (stm A 15)) (FuncBody.stmts (defBody (stm A 15))) (defScope (stm A 15)) 0 [] .none .none .none .none none .none .none 0)) #[])
def o_186 (A : AT) (P : Params) : Obj := (Obj.mk (.type (t A 1)) none (.fields #[(.str (s A 28) 343), (.str (s A 28) 344), (.str (s A 4) 345), (.int 29 0), (.int 1 0), (.int 0 0), (.int 0 0), (.int 3 0), (.ref 129), (.bool true), (.int 181 0), (.ref 130), .none, .none, .none, (.ref 131), (.int 346 0), (.int 29 0), (.str (s A 4) 347)]) #[])
def o_187 (A : AT) (P : Params) : Obj := (Obj.mk (.type (t A 11)) none (.func (FuncData.mk (s A 28) (s A 28) (defArgs (stm A 15)) (FuncBody.stmts (defBody (stm A 15))) (defScope (stm A 15)) 3 [] .none .none .none (.str (s A 6) 337) none (.ref 132) .none 0)) #[])
def o_188 (A : AT) (P : Params) : Obj := (Obj.mk (.type (t A 2)) none (.dict #[(DictEntry.mk (keyHash P (s A 5)) (.str (s A 5) 165) (.str (s A 41) 390)), (DictEntry.mk (keyHash P (s A 7)) (.str (s A 7) 166) .none), (DictEntry.mk (keyHash P (s A 8)) (.str (s A 8) 167) .none), (DictEntry.mk (keyHash P (s A 9)) (.str (s A 9) 168) (.builtin (t A 3))), (DictEntry.mk (keyHash P (s A 10)) (.str (s A 10) 169) .none), (DictEntry.mk (keyHash P (s A 11)) (.str (s A 11) 170) (.ref 6)), (DictEntry.mk (keyHash P (s A 12)) (.str (s A 12) 171) (.ref 4)), (DictEntry.mk (keyHash P (s A 13)) (.str (s A 13) 173) (.str (s A 4) 172)), (DictEntry.mk (keyHash P (s A 14)) (.str (s A 14) 174) .none), (DictEntry.mk (keyHash P (s A 15)) (.str (s A 15) 193) (.ref 21)), (DictEntry.mk (keyHash P (s A 16)) (.str (s A 16) 213) (.ref 31)), (DictEntry.mk (keyHash P (s A 17)) (.str (s A 17) 229) (.ref 44)), (DictEntry.mk (keyHash P (s A 18)) (.str (s A 18) 245) (.ref 56)), (DictEntry.mk (keyHash P (s A 19)) (.str (s A 19) 261) (.ref 68)), (DictEntry.mk (keyHash P (s A 20)) (.str (s A 20) 277) (.ref 80)), (DictEntry.mk (keyHash P (s A 21)) (.str (s A 21) 293) (.ref 92)), (DictEntry.mk (keyHash P (s A 22)) (.str (s A 22) 319) (.ref 112)), (DictEntry.mk (keyHash P (s A 23)) (.str (s A 23) 328) (.ref 121)), (DictEntry.mk (keyHash P (s A 24)) (.str (s A 24) 336) (.ref 128)), (DictEntry.mk (keyHash P (s A 25)) (.str (s A 25) 340) (.str (s A 26) 339)), (DictEntry.mk (keyHash P (s A 27)) (.str (s A 27) 342) (.int 8 341)), (DictEntry.mk (keyHash P (s A 28)) (.str (s A 28) 348) (.ref 133)), (DictEntry.mk (keyHash P (s A 52)) (.str (s A 52) 381) (.ref 150)), (DictEntry.mk (keyHash P (s A 53)) (.str (s A 53) 389) (.ref 159))] 24) #[])
def o_189 (A : AT) (P : Params) : Obj := (Obj.mk .none none (.fields #[(.int 1 0), (.int 0 0), (.ref 20), (.int 5 0), (.int 0 0), (.ref 27), (.int 7 0), (.int 0 0), (.ref 40), (.int 9 0), (.int 0 0), (.ref 52), (.int 11 0), (.int 0 0), (.ref 64), (.int 13 0), (.int 0 0), (.ref 76), (.int 15 0), (.int 0 0), (.ref 88), (.int 17 0), (.int 0 0), (.ref 100), (.int 22 0), (.int 0 0), (.ref 120), (.int 24 0), (.int 0 0), (.ref 127), (.int 29 0), (.int 0 0), (.ref 132), (.int 33 0), (.int 0 0), (.ref 139), (.int 44 0), (.int 0 0), (.ref 158)]) #[])
def o_190 (A : AT) (P : Params) : Obj := (Obj.mk (.type (t A 0)) none (.seq #[] 0) #[])
def o_191 (A : AT) (P : Params) : Obj := (Obj.mk (.type (t A 13)) none (.fields #[(.builtin (t A 16)), (.type (t A 4))]) #[])
def o_192 (A : AT) (P : Params) : Obj := (Obj.mk (.type (t A 2)) none (.dict #[(DictEntry.mk (keyHash P (s A 31)) (.str (s A 31) 356) (.str (s A 6) 337)), (DictEntry.mk (keyHash P (s A 44)) (.str (s A 44) 358) (.str (s A 52) 357)), (DictEntry.mk (keyHash P (s A 33)) (.str (s A 33) 360) (.int 33 359)), (DictEntry.mk (keyHash P (s A 48)) (.str (s A 48) 370) (.ref 147)), (DictEntry.mk (keyHash P (s A 34)) (.str (s A 34) 374) (.ref 148))] 5) #[])
def o_193 (A : AT) (P : Params) : Obj := (Obj.mk (.type (t A 0)) none (.seq #[] 0) #[])
def o_194 (A : AT) (P : Params) : Obj := (Obj.mk .none none (.fields #[(.int 35 0), (.int 4 0), (.ref 146)]) #[])
def o_195 (A : AT) (P : Params) : Obj := (Obj.mk (.type (t A 1)) none (.fields #[(.str (s A 52) 351), (.str (s A 52) 352), (.str (s A 4) 353), (.int 33 0), (.int 0 0), (.int 0 0), (.int 0 0), (.int 0 0), (.ref 137), (.bool false), (.int 181 0), (.ref 138), .none, .none, .none, .none, (.int 354 0), (.int 33 0), (.str (s A 4) 355)]) #[])
def o_196 (A : AT) (P : Params) : Obj := (Obj.mk (.type (t A 15)) none .plain #[(some (.ref 139)), (some (.ref 3)), (some (.ref 136)), none, (some (.str (s A 6) 337)), none, (some (.ref 0))])
def o_197 (A : AT) (P : Params) : Obj := (Obj.mk (.type (t A 0)) none (.seq #[] 0) #[])
def o_198 (A : AT) (P : Params) : Obj := (Obj.mk .none none (.fields #[]) #[])
def o_199 (A : AT) (P : Params) : Obj := (Obj.mk (.type (t A 0)) none (.seq #[(.str (s A 35) 364), (.str (s A 36) 365), (.str (s A 37) 366), (.str (s A 38) 367)] 0) #[])
def o_200 (A : AT) (P : Params) : Obj := (Obj.mk (.type (t A 0)) none (.seq #[] 0) #[])
def o_201 (A : AT) (P : Params) : Obj := (Obj.mk .none none (.func (FuncData.mk (s A 48) (s A 78) (defArgs (inClass (stm A 16) 0)) (FuncBody.stmts (defBody (inClass (stm A 16) 0))) (defScope (inClass (stm A 16) 0)) 0 [] .none .none .none .none none .none .none 0)) #[])
def o_202 (A : AT) (P : Params) : Obj := (Obj.mk (.type (t A 1)) none (.fields #[(.str (s A 48) 361), (.str (s A 78) 362), (.str (s A 4) 363), (.int 35 0), (.int 4 0), (.int 0 0), (.int 0 0), (.int 3 0), (.ref 141), (.bool true), (.int 181 0), (.ref 142), .none, (.ref 143), (.ref 144), (.ref 145), (.int 368 0), (.int 35 0), (.str (s A 4) 369)]) #[])
def o_203 (A : AT) (P : Params) : Obj := (Obj.mk (.type (t A 11)) none (.func (FuncData.mk (s A 48) (s A 78) (defArgs (inClass (stm A 16) 0)) (FuncBody.stmts (defBody (inClass (stm A 16) 0))) (defScope (inClass (stm A 16) 0)) 3 [] .none .none .none (.str (s A 6) 337) none (.ref 146) .none 0)) #[])
def o_204 (A : AT) (P : Params) : Obj := (Obj.mk (.type (t A 0)) none (.seq #[(.str (s A 36) 371), (.str (s A 37) 372), (.str (s A 38) 373)] 0) #[])
def o_205 (A : AT) (P : Params) : Obj := (Obj.mk (.type (t A 2)) none (.dict #[(DictEntry.mk (keyHash P (s A 31)) (.str (s A 31) 356) (.str (s A 6) 337)), (DictEntry.mk (keyHash P (s A 33)) (.str (s A 33) 360) (.int 33 359)), (DictEntry.mk (keyHash P (s A 48)) (.str (s A 48) 370) (.ref 147)), (DictEntry.mk (keyHash P (s A 34)) (.str (s A 34) 374) (.ref 148)), (DictEntry.mk (keyHash P (s A 84)) (.str (s A 84) 376) (.ref 151)), (DictEntry.mk (keyHash P (s A 85)) (.str (s A 85) 378) (.ref 152)), (DictEntry.mk (keyHash P (s A 7)) (.str (s A 7) 379) .none)] 4) #[])
def o_206 (A : AT) (P : Params) : Obj := (Obj.mk (.type (t A 4)) none (.cls (ClassData.mk (s A 52) [(.type (t A 8))] [(.ref 150), (.type (t A 8))] 149 (s A 52) true [] [] false none false)) #[none, none, (some (.str (s A 52) 349)), (some (.str (s A 52) 357)), (some (.builtin (t A 12))), (some (.bool true))])
def o_207 (A : AT) (P : Params) : Obj := (Obj.mk (.type (t A 17)) none (.fields #[(.str (s A 84) 375), (.ref 150), (.builtin (t A 18)), (.builtin (t A 19))]) #[])
def o_208 (A : AT) (P : Params) : Obj := (Obj.mk (.type (t A 17)) none (.fields #[(.str (s A 85) 377), (.ref 150), (.builtin (t A 20)), .none]) #[])
def o_209 (A : AT) (P : Params) : Obj := (Obj.mk (.type (t A 10)) none (.fields #[(.ref 150), (.ref 150), (.ref 150)]) #[])
def o_210 (A : AT) (P : Params) : Obj := (Obj.mk (.type (t A 13)) none (.fields #[(.builtin (t A 14)), (.ref 150)]) #[])
def o_211 (A : AT) (P : Params) : Obj := (Obj.mk (.type (t A 0)) none (.seq #[] 0) #[])
def o_212 (A : AT) (P : Params) : Obj := (Obj.mk .none none (.fields #[]) #[])
def o_213 (A : AT) (P : Params) : Obj := (Obj.mk .none none (.func (FuncData.mk (s A 53) (s A 53) (defArgs (stm A 18)) (FuncBody.stmts (defBody (stm A 18))) (defScope (stm A 18)) 0 [] .none .none .none .none none .none .none 0)) #[])
def o_214 (A : AT) (P : Params) : Obj := (Obj.mk (.type (t A 1)) none (.fields #[(.str (s A 53) 384), (.str (s A 53) 385), (.str (s A 4) 386), (.int 44 0), (.int 1 0), (.int 0 0), (.int 0 0), (.int 3 0), (.ref 155), (.bool true), (.int 181 0), (.ref 156), .none, .none, .none, (.ref 157), (.int 387 0), (.int 44 0), (.str (s A 4) 388)]) #[])
def o_215 (A : AT) (P : Params) : Obj := (Obj.mk (.type (t A 11)) none (.func (FuncData.mk (s A 53) (s A 53) (defArgs (stm A 18)) (FuncBody.stmts (defBody (stm A 18))) (defScope (stm A 18)) 3 [] .none .none .none (.str (s A 126) 382) none (.ref 158) .none 0)) #[])
def o_216 (A : AT) (P : Params) : Obj := (Obj.mk (.type (t A 2)) none (.dict #[(DictEntry.mk (keyHash P (s A 5)) (.str (s A 5) 165) (.str (s A 41) 390)), (DictEntry.mk (keyHash P (s A 7)) (.str (s A 7) 166) .none), (DictEntry.mk (keyHash P (s A 8)) (.str (s A 8) 167) .none), (DictEntry.mk (keyHash P (s A 9)) (.str (s A 9) 168) (.builtin (t A 3))), (DictEntry.mk (keyHash P (s A 10)) (.str (s A 10) 169) .none), (DictEntry.mk (keyHash P (s A 11)) (.str (s A 11) 170) (.ref 6)), (DictEntry.mk (keyHash P (s A 12)) (.str (s A 12) 171) (.ref 4)), (DictEntry.mk (keyHash P (s A 13)) (.str (s A 13) 173) (.str (s A 4) 172)), (DictEntry.mk (keyHash P (s A 14)) (.str (s A 14) 174) .none), (DictEntry.mk (keyHash P (s A 15)) (.str (s A 15) 193) (.ref 21)), (DictEntry.mk (keyHash P (s A 16)) (.str (s A 16) 213) (.ref 31)), (DictEntry.mk (keyHash P (s A 17)) (.str (s A 17) 229) (.ref 44)), (DictEntry.mk (keyHash P (s A 18)) (.str (s A 18) 245) (.ref 56)), (DictEntry.mk (keyHash P (s A 19)) (.str (s A 19) 261) (.ref 68)), (DictEntry.mk (keyHash P (s A 20)) (.str (s A 20) 277) (.ref 80)), (DictEntry.mk (keyHash P (s A 21)) (.str (s A 21) 293) (.ref 92)), (DictEntry.mk (keyHash P (s A 22)) (.str (s A 22) 319) (.ref 112)), (DictEntry.mk (keyHash P (s A 23)) (.str (s A 23) 328) (.ref 121)), (DictEntry.mk (keyHash P (s A 24)) (.str (s A 24) 336) (.ref 128)), (DictEntry.mk (keyHash P (s A 25)) (.str (s A 25) 340) (.str (s A 26) 339)), (DictEntry.mk (keyHash P (s A 27)) (.str (s A 27) 342) (.int 8 341)), (DictEntry.mk (keyHash P (s A 28)) (.str (s A 28) 348) (.ref 133)), (DictEntry.mk (keyHash P (s A 52)) (.str (s A 52) 381) (.ref 150)), (DictEntry.mk (keyHash P (s A 53)) (.str (s A 53) 389) (.ref 159)), (DictEntry.mk (keyHash P (s A 54)) (.str (s A 54) 411) (.ref 169))] 25) #[])
def o_217 (A : AT) (P : Params) : Obj := (Obj.mk .none none (.fields #[(.int 1 0), (.int 0 0), (.ref 20), (.int 5 0), (.int 0 0), (.ref 27), (.int 7 0), (.int 0 0), (.ref 40), (.int 9 0), (.int 0 0), (.ref 52), (.int 11 0), (.int 0 0), (.ref 64), (.int 13 0), (.int 0 0), (.ref 76), (.int 15 0), (.int 0 0), (.ref 88), (.int 17 0), (.int 0 0), (.ref 100), (.int 22 0), (.int 0 0), (.ref 120), (.int 24 0), (.int 0 0), (.ref 127), (.int 29 0), (.int 0 0), (.ref 132), (.int 33 0), (.int 0 0), (.ref 139), (.int 44 0), (.int 0 0), (.ref 158), (.int 49 0), (.int 0 0), (.ref 165)]) #[])
def o_218 (A : AT) (P : Params) : Obj := (Obj.mk (.type (t A 0)) none (.seq #[] 0) #[])
def o_219 (A : AT) (P : Params) : Obj := (Obj.mk (.type (t A 13)) none (.fields #[(.builtin (t A 16)), (.type (t A 4))]) #[])
def o_220 (A : AT) (P : Params) : Obj := (Obj.mk (.type (t A 2)) none (.dict #[(DictEntry.mk (keyHash P (s A 31)) (.str (s A 31) 399) (.str (s A 41) 390)), (DictEntry.mk (keyHash P (s A 44)) (.str (s A 44) 401) (.str (s A 54) 400)), (DictEntry.mk (keyHash P (s A 33)) (.str (s A 33) 403) (.int 49 402)), (DictEntry.mk (keyHash P (s A 34)) (.str (s A 34) 404) (.ref 167))] 4) #[])
def o_221 (A : AT) (P : Params) : Obj := (Obj.mk (.type (t A 0)) none (.seq #[] 0) #[])
def o_222 (A : AT) (P : Params) : Obj := (Obj.mk .none none (.fields #[]) #[])
def o_223 (A : AT) (P : Params) : Obj := (Obj.mk (.type (t A 1)) none (.fields #[(.str (s A 54) 394), (.str (s A 54) 395), (.str (s A 4) 396), (.int 49 0), (.int 0 0), (.int 0 0), (.int 0 0), (.int 0 0), (.ref 163), (.bool false), (.int 181 0), (.ref 164), .none, .none, .none, .none, (.int 397 0), (.int 49 0), (.str (s A 4) 398)]) #[])
def o_224 (A : AT) (P : Params) : Obj := (Obj.mk (.type (t A 15)) none .plain #[(some (.ref 165)), (some (.ref 3)), (some (.ref 162)), none, (some (.str (s A 41) 390)), none, (some (.ref 0))])
def o_225 (A : AT) (P : Params) : Obj := (Obj.mk (.type (t A 0)) none (.seq #[] 0) #[])
def o_226 (A : AT) (P : Params) : Obj := (Obj.mk (.type (t A 2)) none (.dict #[(DictEntry.mk (keyHash P (s A 31)) (.str (s A 31) 399) (.str (s A 41) 390)), (DictEntry.mk (keyHash P (s A 33)) (.str (s A 33) 403) (.int 49 402)), (DictEntry.mk (keyHash P (s A 34)) (.str (s A 34) 404) (.ref 167)), (DictEntry.mk (keyHash P (s A 84)) (.str (s A 84) 406) (.ref 170)), (DictEntry.mk (keyHash P (s A 85)) (.str (s A 85) 408) (.ref 171)), (DictEntry.mk (keyHash P (s A 7)) (.str (s A 7) 409) .none)] 4) #[])
def o_227 (A : AT) (P : Params) : Obj := (Obj.mk (.type (t A 4)) none (.cls (ClassData.mk (s A 54) [(.type (t A 8))] [(.ref 169), (.type (t A 8))] 168 (s A 54) true [] [] false none false)) #[none, none, (some (.str (s A 54) 392)), (some (.str (s A 54) 400)), (some (.builtin (t A 12))), (some (.bool true))])
def o_228 (A : AT) (P : Params) : Obj := (Obj.mk (.type (t A 17)) none (.fields #[(.str (s A 84) 405), (.ref 169), (.builtin (t A 18)), (.builtin (t A 19))]) #[])
def o_229 (A : AT) (P : Params) : Obj := (Obj.mk (.type (t A 17)) none (.fields #[(.str (s A 85) 407), (.ref 169), (.builtin (t A 20)), .none]) #[])
def o_230 (A : AT) (P : Params) : Obj := (Obj.mk (.type (t A 10)) none (.fields #[(.ref 169), (.ref 169), (.ref 169)]) #[])
def o_231 (A : AT) (P : Params) : Obj := (Obj.mk (.type (t A 13)) none (.fields #[(.builtin (t A 14)), (.ref 169)]) #[])
def o_232 (A : AT) (P : Params) : Obj := (Obj.mk (.type (t A 2)) none (.dict #[(DictEntry.mk (keyHash P (s A 5)) (.str (s A 5) 165) (.str (s A 41) 390)), (DictEntry.mk (keyHash P (s A 7)) (.str (s A 7) 166) .none), (DictEntry.mk (keyHash P (s A 8)) (.str (s A 8) 167) .none), (DictEntry.mk (keyHash P (s A 9)) (.str (s A 9) 168) (.builtin (t A 3))), (DictEntry.mk (keyHash P (s A 10)) (.str (s A 10) 169) .none), (DictEntry.mk (keyHash P (s A 11)) (.str (s A 11) 170) (.ref 6)), (DictEntry.mk (keyHash P (s A 12)) (.str (s A 12) 171) (.ref 4)), (DictEntry.mk (keyHash P (s A 13)) (.str (s A 13) 173) (.str (s A 4) 172)), (DictEntry.mk (keyHash P (s A 14)) (.str (s A 14) 174) .none), (DictEntry.mk (keyHash P (s A 15)) (.str (s A 15) 193) (.ref 21)), (DictEntry.mk (keyHash P (s A 16)) (.str (s A 16) 213) (.ref 31)), (DictEntry.mk (keyHash P (s A 17)) (.str (s A 17) 229) (.ref 44)), (DictEntry.mk (keyHash P (s A 18)) (.str (s A 18) 245) (.ref 56)), (DictEntry.mk (keyHash P (s A 19)) (.str (s A 19) 261) (.ref 68)), (DictEntry.mk (keyHash P (s A 20)) (.str (s A 20) 277) (.ref 80)), (DictEntry.mk (keyHash P (s A 21)) (.str (s A 21) 293) (.ref 92)), (DictEntry.mk (keyHash P (s A 22)) (.str (s A 22) 319) (.ref 112)), (DictEntry.mk (keyHash P (s A 23)) (.str (s A 23) 328) (.ref 121)), (DictEntry.mk (keyHash P (s A 24)) (.str (s A 24) 336) (.ref 128)), (DictEntry.mk (keyHash P (s A 25)) (.str (s A 25) 340) (.str (s A 26) 339)), (DictEntry.mk (keyHash P (s A 27)) (.str (s A 27) 342) (.int 8 341)), (DictEntry.mk (keyHash P (s A 28)) (.str (s A 28) 348) (.ref 133)), (DictEntry.mk (keyHash P (s A 52)) (.str (s A 52) 381) (.ref 150)), (DictEntry.mk (keyHash P (s A 53)) (.str (s A 53) 389) (.ref 159)), (DictEntry.mk (keyHash P (s A 54)) (.str (s A 54) 411) (.ref 169)), (DictEntry.mk (keyHash P (s A 47)) (.str (s A 47) 455) (.ref 204))] 26) #[])
def o_233 (A : AT) (P : Params) : Obj := (Obj.mk .none none (.fields #[(.int 1 0), (.int 0 0), (.ref 20), (.int 5 0), (.int 0 0), (.ref 27), (.int 7 0), (.int 0 0), (.ref 40), (.int 9 0), (.int 0 0), (.ref 52), (.int 11 0), (.int 0 0), (.ref 64), (.int 13 0), (.int 0 0), (.ref 76), (.int 15 0), (.int 0 0), (.ref 88), (.int 17 0), (.int 0 0), (.ref 100), (.int 22 0), (.int 0 0), (.ref 120), (.int 24 0), (.int 0 0), (.ref 127), (.int 29 0), (.int 0 0), (.ref 132), (.int 33 0), (.int 0 0), (.ref 139), (.int 44 0), (.int 0 0), (.ref 158), (.int 49 0), (.int 0 0), (.ref 165), (.int 51 0), (.int 0 0), (.ref 179)]) #[])
def o_234 (A : AT) (P : Params) : Obj := (Obj.mk (.type (t A 4)) none (.cls (ClassData.mk (s A 54) [(.type (t A 8))] [(.ref 169), (.type (t A 8))] 168 (s A 54) true [] [(.ref 204)] false none false)) #[none, none, (some (.str (s A 54) 392)), (some (.str (s A 54) 400)), (some (.builtin (t A 12))), (some (.bool true))])
def o_235 (A : AT) (P : Params) : Obj := (Obj.mk (.type (t A 0)) none (.seq #[(.ref 169)] 0) #[])
def o_236 (A : AT) (P : Params) : Obj := (Obj.mk (.type (t A 13)) none (.fields #[(.builtin (t A 16)), (.type (t A 4))]) #[])
def o_237 (A : AT) (P : Params) : Obj := (Obj.mk (.type (t A 2)) none (.dict #[(DictEntry.mk (keyHash P (s A 31)) (.str (s A 31) 419) (.str (s A 41) 390)), (DictEntry.mk (keyHash P (s A 44)) (.str (s A 44) 421) (.str (s A 47) 420)), (DictEntry.mk (keyHash P (s A 33)) (.str (s A 33) 423) (.int 51 422)), (DictEntry.mk (keyHash P (s A 39)) (.str (s A 39) 431) (.ref 187)), (DictEntry.mk (keyHash P (s A 29)) (.str (s A 29) 441) (.ref 194)), (DictEntry.mk (keyHash P (s A 2)) (.str (s A 2) 451) (.ref 201)), (DictEntry.mk (keyHash P (s A 34)) (.str (s A 34) 452) (.ref 202))] 7) #[])
def o_238 (A : AT) (P : Params) : Obj := (Obj.mk (.type (t A 0)) none (.seq #[] 0) #[])
def o_239 (A : AT) (P : Params) : Obj := (Obj.mk .none none (.fields #[(.int 53 0), (.int 4 0), (.ref 186), (.int 56 0), (.int 4 0), (.ref 193), (.int 59 0), (.int 4 0), (.ref 200)]) #[])
def o_240 (A : AT) (P : Params) : Obj := (Obj.mk (.type (t A 1)) none (.fields #[(.str (s A 47) 414), (.str (s A 47) 415), (.str (s A 4) 416), (.int 51 0), (.int 0 0), (.int 0 0), (.int 0 0), (.int 0 0), (.ref 177), (.bool false), (.int 181 0), (.ref 178), .none, .none, .none, .none, (.int 417 0), (.int 51 0), (.str (s A 4) 418)]) #[])
def o_241 (A : AT) (P : Params) : Obj := (Obj.mk (.type (t A 15)) none .plain #[(some (.ref 179)), (some (.ref 3)), (some (.ref 176)), none, (some (.str (s A 41) 390)), none, (some (.ref 0))])
def o_242 (A : AT) (P : Params) : Obj := (Obj.mk (.type (t A 0)) none (.seq #[] 0) #[])
def o_243 (A : AT) (P : Params) : Obj := (Obj.mk .none none (.fields #[]) #[])
def o_244 (A : AT) (P : Params) : Obj := (Obj.mk (.type (t A 0)) none (.seq #[(.str (s A 35) 427), (.str (s A 121) 428)] 0) #[])
def o_245 (A : AT) (P : Params) : Obj := (Obj.mk (.type (t A 0)) none (.seq #[] 0) #[])
def o_246 (A : AT) (P : Params) : Obj := (Obj.mk .none none (.func (FuncData.mk (s A 39) (s A 125) (defArgs (inClass (stm A 21) 0)) (FuncBody.stmts (defBody (inClass (stm A 21) 0))) (defScope (inClass (stm A 21) 0)) 0 [] .none .none .none .none none .none .none 0)) #[])
def o_247 (A : AT) (P : Params) : Obj := (Obj.mk (.type (t A 1)) none (.fields #[(.str (s A 39) 424), (.str (s A 125) 425), (.str (s A 4) 426), (.int 53 0), (.int 2 0), (.int 0 0), (.int 0 0), (.int 3 0), (.ref 181), (.bool true), (.int 181 0), (.ref 182), .none, (.ref 183), (.ref 184), (.ref 185), (.int 429 0), (.int 53 0), (.str (s A 4) 430)]) #[])
def o_248 (A : AT) (P : Params) : Obj := (Obj.mk (.type (t A 11)) none (.func (FuncData.mk (s A 39) (s A 125) (defArgs (inClass (stm A 21) 0)) (FuncBody.stmts (defBody (inClass (stm A 21) 0))) (defScope (inClass (stm A 21) 0)) 3 [] .none .none .none (.str (s A 41) 390) none (.ref 186) .none 0)) #[])
def o_249 (A : AT) (P : Params) : Obj := (Obj.mk (.type (t A 0)) none (.seq #[] 0) #[])
def o_250 (A : AT) (P : Params) : Obj := (Obj.mk .none none (.fields #[]) #[])
def o_251 (A : AT) (P : Params) : Obj := (Obj.mk (.type (t A 0)) none (.seq #[(.str (s A 35) 435), (.str (s A 71) 436), (.str (s A 72) 437), (.str (s A 73) 438)] 0) #[])
def o_252 (A : AT) (P : Params) : Obj := (Obj.mk (.type (t A 0)) none (.seq #[] 0) #[])
def o_253 (A : AT) (P : Params) : Obj := (Obj.mk .none none (.func (FuncData.mk (s A 29) (s A 42) (defArgs (inClass (stm A 21) 1)) (FuncBody.stmts (defBody (inClass (stm A 21) 1))) (defScope (inClass (stm A 21) 1)) 0 [] .none .none .none .none none .none .none 0)) #[])
def o_254 (A : AT) (P : Params) : Obj := (Obj.mk (.type (t A 1)) none (.fields #[(.str (s A 29) 432), (.str (s A 42) 433), (.str (s A 4) 434), (.int 56 0), (.int 4 0), (.int 0 0), (.int 0 0), (.int 3 0), (.ref 188), (.bool true), (.int 181 0), (.ref 189), .none, (.ref 190), (.ref 191), (.ref 192), (.int 439 0), (.int 56 0), (.str (s A 4) 440)]) #[])
def o_255 (A : AT) (P : Params) : Obj := (Obj.mk (.type (t A 11)) none (.func (FuncData.mk (s A 29) (s A 42) (defArgs (inClass (stm A 21) 1)) (FuncBody.stmts (defBody (inClass (stm A 21) 1))) (defScope (inClass (stm A 21) 1)) 3 [] .none .none .none (.str (s A 41) 390) none (.ref 193) .none 0)) #[])
def o_256 (A : AT) (P : Params) : Obj := (Obj.mk (.type (t A 0)) none (.seq #[] 0) #[])
def o_257 (A : AT) (P : Params) : Obj := (Obj.mk .none none (.fields #[]) #[])
def o_258 (A : AT) (P : Params) : Obj := (Obj.mk (.type (t A 0)) none (.seq #[(.str (s A 35) 445), (.str (s A 36) 446), (.str (s A 37) 447), (.str (s A 98) 448)] 0) #[])
def o_259 (A : AT) (P : Params) : Obj := (Obj.mk (.type (t A 0)) none (.seq #[] 0) #[])
def o_260 (A : AT) (P : Params) : Obj := (Obj.mk .none none (.func (FuncData.mk (s A 2) (s A 88) (defArgs (inClass (stm A 21) 2)) (FuncBody.stmts (defBody (inClass (stm A 21) 2))) (defScope (inClass (stm A 21) 2)) 0 [] .none .none .none .none none .none .none 0)) #[])
def o_261 (A : AT) (P : Params) : Obj := (Obj.mk (.type (t A 1)) none (.fields #[(.str (s A 2) 442), (.str (s A 88) 443), (.str (s A 4) 444), (.int 59 0), (.int 4 0), (.int 0 0), (.int 0 0), (.int 3 0), (.ref 195), (.bool true), (.int 181 0), (.ref 196), .none, (.ref 197), (.ref 198), (.ref 199), (.int 449 0), (.int 59 0), (.str (s A 4) 450)]) #[])
def o_262 (A : AT) (P : Params) : Obj := (Obj.mk (.type (t A 11)) none (.func (FuncData.mk (s A 2) (s A 88) (defArgs (inClass (stm A 21) 2)) (FuncBody.stmts (defBody (inClass (stm A 21) 2))) (defScope (inClass (stm A 21) 2)) 3 [] .none .none .none (.str (s A 41) 390) none (.ref 200) .none 0)) #[])
def o_263 (A : AT) (P : Params) : Obj := (Obj.mk (.type (t A 0)) none (.seq #[] 0) #[])
def o_264 (A : AT) (P : Params) : Obj := (Obj.mk (.type (t A 2)) none (.dict #[(DictEntry.mk (keyHash P (s A 31)) (.str (s A 31) 419) (.str (s A 41) 390)), (DictEntry.mk (keyHash P (s A 33)) (.str (s A 33) 423) (.int 51 422)), (DictEntry.mk (keyHash P (s A 39)) (.str (s A 39) 431) (.ref 187)), (DictEntry.mk (keyHash P (s A 29)) (.str (s A 29) 441) (.ref 194)), (DictEntry.mk (keyHash P (s A 2)) (.str (s A 2) 451) (.ref 201)), (DictEntry.mk (keyHash P (s A 34)) (.str (s A 34) 452) (.ref 202)), (DictEntry.mk (keyHash P (s A 7)) (.str (s A 7) 453) .none)] 2) #[])
def o_265 (A : AT) (P : Params) : Obj := (Obj.mk (.type (t A 4)) none (.cls (ClassData.mk (s A 47) [(.ref 169)] [(.ref 204), (.ref 169), (.type (t A 8))] 203 (s A 47) true [] [] false none false)) #[(some (.ref 174)), none, (some (.str (s A 47) 412)), (some (.str (s A 47) 420)), (some (.builtin (t A 12))), (some (.bool true))])
def o_266 (A : AT) (P : Params) : Obj := (Obj.mk (.type (t A 10)) none (.fields #[(.ref 204), (.ref 204), (.ref 204)]) #[])
def o_267 (A : AT) (P : Params) : Obj := (Obj.mk (.type (t A 13)) none (.fields #[(.builtin (t A 14)), (.ref 204)]) #[])
def o_268 (A : AT) (P : Params) : Obj := (Obj.mk (.type (t A 2)) none (.dict #[(DictEntry.mk (keyHash P (s A 5)) (.str (s A 5) 165) (.str (s A 41) 390)), (DictEntry.mk (keyHash P (s A 7)) (.str (s A 7) 166) .none), (DictEntry.mk (keyHash P (s A 8)) (.str (s A 8) 167) .none), (DictEntry.mk (keyHash P (s A 9)) (.str (s A 9) 168) (.builtin (t A 3))), (DictEntry.mk (keyHash P (s A 10)) (.str (s A 10) 169) .none), (DictEntry.mk (keyHash P (s A 11)) (.str (s A 11) 170) (.ref 6)), (DictEntry.mk (keyHash P (s A 12)) (.str (s A 12) 171) (.ref 4)), (DictEntry.mk (keyHash P (s A 13)) (.str (s A 13) 173) (.str (s A 4) 172)), (DictEntry.mk (keyHash P (s A 14)) (.str (s A 14) 174) .none), (DictEntry.mk (keyHash P (s A 15)) (.str (s A 15) 193) (.ref 21)), (DictEntry.mk (keyHash P (s A 16)) (.str (s A 16) 213) (.ref 31)), (DictEntry.mk (keyHash P (s A 17)) (.str (s A 17) 229) (.ref 44)), (DictEntry.mk (keyHash P (s A 18)) (.str (s A 18) 245) (.ref 56)), (DictEntry.mk (keyHash P (s A 19)) (.str (s A 19) 261) (.ref 68)), (DictEntry.mk (keyHash P (s A 20)) (.str (s A 20) 277) (.ref 80)), (DictEntry.mk (keyHash P (s A 21)) (.str (s A 21) 293) (.ref 92)), (DictEntry.mk (keyHash P (s A 22)) (.str (s A 22) 319) (.ref 112)), (DictEntry.mk (keyHash P (s A 23)) (.str (s A 23) 328) (.ref 121)), (DictEntry.mk (keyHash P (s A 24)) (.str (s A 24) 336) (.ref 128)), (DictEntry.mk (keyHash P (s A 25)) (.str (s A 25) 340) (.str (s A 26) 339)), (DictEntry.mk (keyHash P (s A 27)) (.str (s A 27) 342) (.int 8 341)), (DictEntry.mk (keyHash P (s A 28)) (.str (s A 28) 348) (.ref 133)), (DictEntry.mk (keyHash P (s A 52)) (.str (s A 52) 381) (.ref 150)), (DictEntry.mk (keyHash P (s A 53)) (.str (s A 53) 389) (.ref 159)), (DictEntry.mk (keyHash P (s A 54)) (.str (s A 54) 411) (.ref 169)), (DictEntry.mk (keyHash P (s A 47)) (.str (s A 47) 455) (.ref 204)), (DictEntry.mk (keyHash P (s A 55)) (.str (s A 55) 508) (.ref 244))] 27) #[])
def o_269 (A : AT) (P : Params) : Obj := (Obj.mk .none none (.fields #[(.int 1 0), (.int 0 0), (.ref 20), (.int 5 0), (.int 0 0), (.ref 27), (.int 7 0), (.int 0 0), (.ref 40), (.int 9 0), (.int 0 0), (.ref 52), (.int 11 0), (.int 0 0), (.ref 64), (.int 13 0), (.int 0 0), (.ref 76), (.int 15 0), (.int 0 0), (.ref 88), (.int 17 0), (.int 0 0), (.ref 100), (.int 22 0), (.int 0 0), (.ref 120), (.int 24 0), (.int 0 0), (.ref 127), (.int 29 0), (.int 0 0), (.ref 132), (.int 33 0), (.int 0 0), (.ref 139), (.int 44 0), (.int 0 0), (.ref 158), (.int 49 0), (.int 0 0), (.ref 165), (.int 51 0), (.int 0 0), (.ref 179), (.int 61 0), (.int 0 0), (.ref 212)]) #[])
def o_270 (A : AT) (P : Params) : Obj := (Obj.mk (.type (t A 4)) none (.cls (ClassData.mk (s A 54) [(.type (t A 8))] [(.ref 169), (.type (t A 8))] 168 (s A 54) true [] [(.ref 204), (.ref 244)] false none false)) #[none, none, (some (.str (s A 54) 392)), (some (.str (s A 54) 400)), (some (.builtin (t A 12))), (some (.bool true))])
def o_271 (A : AT) (P : Params) : Obj := (Obj.mk (.type (t A 0)) none (.seq #[(.ref 169)] 0) #[])
def o_272 (A : AT) (P : Params) : Obj := (Obj.mk (.type (t A 13)) none (.fields #[(.builtin (t A 16)), (.type (t A 4))]) #[])
def o_273 (A : AT) (P : Params) : Obj := (Obj.mk (.type (t A 2)) none (.dict #[(DictEntry.mk (keyHash P (s A 31)) (.str (s A 31) 463) (.str (s A 41) 390)), (DictEntry.mk (keyHash P (s A 44)) (.str (s A 44) 465) (.str (s A 55) 464)), (DictEntry.mk (keyHash P (s A 33)) (.str (s A 33) 467) (.int 61 466)), (DictEntry.mk (keyHash P (s A 48)) (.str (s A 48) 475) (.ref 220)), (DictEntry.mk (keyHash P (s A 39)) (.str (s A 39) 483) (.ref 227)), (DictEntry.mk (keyHash P (s A 29)) (.str (s A 29) 493) (.ref 234)), (DictEntry.mk (keyHash P (s A 2)) (.str (s A 2) 503) (.ref 241)), (DictEntry.mk (keyHash P (s A 34)) (.str (s A 34) 505) (.ref 242))] 8) #[])
def o_274 (A : AT) (P : Params) : Obj := (Obj.mk (.type (t A 0)) none (.seq #[] 0) #[])
def o_275 (A : AT) (P : Params) : Obj := (Obj.mk .none none (.fields #[(.int 63 0), (.int 4 0), (.ref 219), (.int 67 0), (.int 4 0), (.ref 226), (.int 70 0), (.int 4 0), (.ref 233), (.int 73 0), (.int 4 0), (.ref 240)]) #[])
def o_276 (A : AT) (P : Params) : Obj := (Obj.mk (.type (t A 1)) none (.fields #[(.str (s A 55) 458), (.str (s A 55) 459), (.str (s A 4) 460), (.int 61 0), (.int 0 0), (.int 0 0), (.int 0 0), (.int 0 0), (.ref 210), (.bool false), (.int 181 0), (.ref 211), .none, .none, .none, .none, (.int 461 0), (.int 61 0), (.str (s A 4) 462)]) #[])
def o_277 (A : AT) (P : Params) : Obj := (Obj.mk (.type (t A 15)) none .plain #[(some (.ref 212)), (some (.ref 3)), (some (.ref 209)), none, (some (.str (s A 41) 390)), none, (some (.ref 0))])
def o_278 (A : AT) (P : Params) : Obj := (Obj.mk (.type (t A 0)) none (.seq #[] 0) #[])
def o_279 (A : AT) (P : Params) : Obj := (Obj.mk .none none (.fields #[]) #[])
def o_280 (A : AT) (P : Params) : Obj := (Obj.mk (.type (t A 0)) none (.seq #[(.str (s A 35) 471), (.str (s A 116) 472)] 0) #[])
def o_281 (A : AT) (P : Params) : Obj := (Obj.mk (.type (t A 0)) none (.seq #[] 0) #[])
def o_282 (A : AT) (P : Params) : Obj := (Obj.mk .none none (.func (FuncData.mk (s A 48) (s A 115) (defArgs (inClass (stm A 22) 0)) (FuncBody.stmts (defBody (inClass (stm A 22) 0))) (defScope (inClass (stm A 22) 0)) 0 [] .none .none .none .none none .none .none 0)) #[])
def o_283 (A : AT) (P : Params) : Obj := (Obj.mk (.type (t A 1)) none (.fields #[(.str (s A 48) 468), (.str (s A 115) 469), (.str (s A 4) 470), (.int 63 0), (.int 2 0), (.int 0 0), (.int 0 0), (.int 3 0), (.ref 214), (.bool true), (.int 181 0), (.ref 215), .none, (.ref 216), (.ref 217), (.ref 218), (.int 473 0), (.int 63 0), (.str (s A 4) 474)]) #[])
def o_284 (A : AT) (P : Params) : Obj := (Obj.mk (.type (t A 11)) none (.func (FuncData.mk (s A 48) (s A 115) (defArgs (inClass (stm A 22) 0)) (FuncBody.stmts (defBody (inClass (stm A 22) 0))) (defScope (inClass (stm A 22) 0)) 3 [] .none .none .none (.str (s A 41) 390) none (.ref 219) .none 0)) #[])
def o_285 (A : AT) (P : Params) : Obj := (Obj.mk (.type (t A 0)) none (.seq #[] 0) #[])
def o_286 (A : AT) (P : Params) : Obj := (Obj.mk .none none (.fields #[]) #[])
def o_287 (A : AT) (P : Params) : Obj := (Obj.mk (.type (t A 0)) none (.seq #[(.str (s A 35) 479), (.str (s A 121) 480)] 0) #[])
def o_288 (A : AT) (P : Params) : Obj := (Obj.mk (.type (t A 0)) none (.seq #[] 0) #[])
def o_289 (A : AT) (P : Params) : Obj := (Obj.mk .none none (.func (FuncData.mk (s A 39) (s A 108) (defArgs (inClass (stm A 22) 1)) (FuncBody.stmts (defBody (inClass (stm A 22) 1))) (defScope (inClass (stm A 22) 1)) 0 [] .none .none .none .none none .none .none 0)) #[])
def o_290 (A : AT) (P : Params) : Obj := (Obj.mk (.type (t A 1)) none (.fields #[(.str (s A 39) 476), (.str (s A 108) 477), (.str (s A 4) 478), (.int 67 0), (.int 2 0), (.int 0 0), (.int 0 0), (.int 3 0), (.ref 221), (.bool true), (.int 181 0), (.ref 222), .none, (.ref 223), (.ref 224), (.ref 225), (.int 481 0), (.int 67 0), (.str (s A 4) 482)]) #[])
def o_291 (A : AT) (P : Params) : Obj := (Obj.mk (.type (t A 11)) none (.func (FuncData.mk (s A 39) (s A 108) (defArgs (inClass (stm A 22) 1)) (FuncBody.stmts (defBody (inClass (stm A 22) 1))) (defScope (inClass (stm A 22) 1)) 3 [] .none .none .none (.str (s A 41) 390) none (.ref 226) .none 0)) #[])
def o_292 (A : AT) (P : Params) : Obj := (Obj.mk (.type (t A 0)) none (.seq #[] 0) #[])
def o_293 (A : AT) (P : Params) : Obj := (Obj.mk .none none (.fields #[]) #[])
def o_294 (A : AT) (P : Params) : Obj := (Obj.mk (.type (t A 0)) none (.seq #[(.str (s A 35) 487), (.str (s A 71) 488), (.str (s A 72) 489), (.str (s A 73) 490)] 0) #[])
def o_295 (A : AT) (P : Params) : Obj := (Obj.mk (.type (t A 0)) none (.seq #[] 0) #[])
def o_296 (A : AT) (P : Params) : Obj := (Obj.mk .none none (.func (FuncData.mk (s A 29) (s A 61) (defArgs (inClass (stm A 22) 2)) (FuncBody.stmts (defBody (inClass (stm A 22) 2))) (defScope (inClass (stm A 22) 2)) 0 [] .none .none .none .none none .none .none 0)) #[])
def o_297 (A : AT) (P : Params) : Obj := (Obj.mk (.type (t A 1)) none (.fields #[(.str (s A 29) 484), (.str (s A 61) 485), (.str (s A 4) 486), (.int 70 0), (.int 4 0), (.int 0 0), (.int 0 0), (.int 3 0), (.ref 228), (.bool true), (.int 181 0), (.ref 229), .none, (.ref 230), (.ref 231), (.ref 232), (.int 491 0), (.int 70 0), (.str (s A 4) 492)]) #[])
def o_298 (A : AT) (P : Params) : Obj := (Obj.mk (.type (t A 11)) none (.func (FuncData.mk (s A 29) (s A 61) (defArgs (inClass (stm A 22) 2)) (FuncBody.stmts (defBody (inClass (stm A 22) 2))) (defScope (inClass (stm A 22) 2)) 3 [] .none .none .none (.str (s A 41) 390) none (.ref 233) .none 0)) #[])
def o_299 (A : AT) (P : Params) : Obj := (Obj.mk (.type (t A 0)) none (.seq #[] 0) #[])
def o_300 (A : AT) (P : Params) : Obj := (Obj.mk .none none (.fields #[]) #[])
def o_301 (A : AT) (P : Params) : Obj := (Obj.mk (.type (t A 0)) none (.seq #[(.str (s A 35) 497), (.str (s A 36) 498), (.str (s A 37) 499), (.str (s A 98) 500)] 0) #[])
def o_302 (A : AT) (P : Params) : Obj := (Obj.mk (.type (t A 0)) none (.seq #[] 0) #[])
def o_303 (A : AT) (P : Params) : Obj := (Obj.mk .none none (.func (FuncData.mk (s A 2) (s A 122) (defArgs (inClass (stm A 22) 3)) (FuncBody.stmts (defBody (inClass (stm A 22) 3))) (defScope (inClass (stm A 22) 3)) 0 [] .none .none .none .none none .none .none 0)) #[])
def o_304 (A : AT) (P : Params) : Obj := (Obj.mk (.type (t A 1)) none (.fields #[(.str (s A 2) 494), (.str (s A 122) 495), (.str (s A 4) 496), (.int 73 0), (.int 4 0), (.int 0 0), (.int 0 0), (.int 3 0), (.ref 235), (.bool true), (.int 181 0), (.ref 236), .none, (.ref 237), (.ref 238), (.ref 239), (.int 501 0), (.int 73 0), (.str (s A 4) 502)]) #[])
def o_305 (A : AT) (P : Params) : Obj := (Obj.mk (.type (t A 11)) none (.func (FuncData.mk (s A 2) (s A 122) (defArgs (inClass (stm A 22) 3)) (FuncBody.stmts (defBody (inClass (stm A 22) 3))) (defScope (inClass (stm A 22) 3)) 3 [] .none .none .none (.str (s A 41) 390) none (.ref 240) .none 0)) #[])
def o_306 (A : AT) (P : Params) : Obj := (Obj.mk (.type (t A 0)) none (.seq #[(.str (s A 116) 504)] 0) #[])
def o_307 (A : AT) (P : Params) : Obj := (Obj.mk (.type (t A 2)) none (.dict #[(DictEntry.mk (keyHash P (s A 31)) (.str (s A 31) 463) (.str (s A 41) 390)), (DictEntry.mk (keyHash P (s A 33)) (.str (s A 33) 467) (.int 61 466)), (DictEntry.mk (keyHash P (s A 48)) (.str (s A 48) 475) (.ref 220)), (DictEntry.mk (keyHash P (s A 39)) (.str (s A 39) 483) (.ref 227)), (DictEntry.mk (keyHash P (s A 29)) (.str (s A 29) 493) (.ref 234)), (DictEntry.mk (keyHash P (s A 2)) (.str (s A 2) 503) (.ref 241)), (DictEntry.mk (keyHash P (s A 34)) (.str (s A 34) 505) (.ref 242)), (DictEntry.mk (keyHash P (s A 7)) (.str (s A 7) 506) .none)] 2) #[])
def o_308 (A : AT) (P : Params) : Obj := (Obj.mk (.type (t A 4)) none (.cls (ClassData.mk (s A 55) [(.ref 169)] [(.ref 244), (.ref 169), (.type (t A 8))] 243 (s A 55) true [] [] false none false)) #[(some (.ref 207)), none, (some (.str (s A 55) 456)), (some (.str (s A 55) 464)), (some (.builtin (t A 12))), (some (.bool true))])
def o_309 (A : AT) (P : Params) : Obj := (Obj.mk (.type (t A 10)) none (.fields #[(.ref 244), (.ref 244), (.ref 244)]) #[])
def o_310 (A : AT) (P : Params) : Obj := (Obj.mk (.type (t A 13)) none (.fields #[(.builtin (t A 14)), (.ref 244)]) #[])
def o_311 (A : AT) (P : Params) : Obj := (Obj.mk (.type (t A 2)) none (.dict #[(DictEntry.mk (keyHash P (s A 5)) (.str (s A 5) 165) (.str (s A 41) 390)), (DictEntry.mk (keyHash P (s A 7)) (.str (s A 7) 166) .none), (DictEntry.mk (keyHash P (s A 8)) (.str (s A 8) 167) .none), (DictEntry.mk (keyHash P (s A 9)) (.str (s A 9) 168) (.builtin (t A 3))), (DictEntry.mk (keyHash P (s A 10)) (.str (s A 10) 169) .none), (DictEntry.mk (keyHash P (s A 11)) (.str (s A 11) 170) (.ref 6)), (DictEntry.mk (keyHash P (s A 12)) (.str (s A 12) 171) (.ref 4)), (DictEntry.mk (keyHash P (s A 13)) (.str (s A 13) 173) (.str (s A 4) 172)), (DictEntry.mk (keyHash P (s A 14)) (.str (s A 14) 174) .none), (DictEntry.mk (keyHash P (s A 15)) (.str (s A 15) 193) (.ref 21)), (DictEntry.mk (keyHash P (s A 16)) (.str (s A 16) 213) (.ref 31)), (DictEntry.mk (keyHash P (s A 17)) (.str (s A 17) 229) (.ref 44)), (DictEntry.mk (keyHash P (s A 18)) (.str (s A 18) 245) (.ref 56)), (DictEntry.mk (keyHash P (s A 19)) (.str (s A 19) 261) (.ref 68)), (DictEntry.mk (keyHash P (s A 20)) (.str (s A 20) 277) (.ref 80)), (DictEntry.mk (keyHash P (s A 21)) (.str (s A 21) 293) (.ref 92)), (DictEntry.mk (keyHash P (s A 22)) (.str (s A 22) 319) (.ref 112)), (DictEntry.mk (keyHash P (s A 23)) (.str (s A 23) 328) (.ref 121)), (DictEntry.mk (keyHash P (s A 24)) (.str (s A 24) 336) (.ref 128)), (DictEntry.mk (keyHash P (s A 25)) (.str (s A 25) 340) (.str (s A 26) 339)), (DictEntry.mk (keyHash P (s A 27)) (.str (s A 27) 342) (.int 8 341)), (DictEntry.mk (keyHash P (s A 28)) (.str (s A 28) 348) (.ref 133)), (DictEntry.mk (keyHash P (s A 52)) (.str (s A 52) 381) (.ref 150)), (DictEntry.mk (keyHash P (s A 53)) (.str (s A 53) 389) (.ref 159)), (DictEntry.mk (keyHash P (s A 54)) (.str (s A 54) 411) (.ref 169)), (DictEntry.mk (keyHash P (s A 47)) (.str (s A 47) 455) (.ref 204)), (DictEntry.mk (keyHash P (s A 55)) (.str (s A 55) 508) (.ref 244)), (DictEntry.mk (keyHash P (s A 65)) (.str (s A 65) 561) (.ref 284))] 28) #[])
def o_312 (A : AT) (P : Params) : Obj := (Obj.mk .none none (.fields #[(.int 1 0), (.int 0 0), (.ref 20), (.int 5 0), (.int 0 0), (.ref 27), (.int 7 0), (.int 0 0), (.ref 40), (.int 9 0), (.int 0 0), (.ref 52), (.int 11 0), (.int 0 0), (.ref 64), (.int 13 0), (.int 0 0), (.ref 76), (.int 15 0), (.int 0 0), (.ref 88), (.int 17 0), (.int 0 0), (.ref 100), (.int 22 0), (.int 0 0), (.ref 120), (.int 24 0), (.int 0 0), (.ref 127), (.int 29 0), (.int 0 0), (.ref 132), (.int 33 0), (.int 0 0), (.ref 139), (.int 44 0), (.int 0 0), (.ref 158), (.int 49 0), (.int 0 0), (.ref 165), (.int 51 0), (.int 0 0), (.ref 179), (.int 61 0), (.int 0 0), (.ref 212), (.int 75 0), (.int 0 0), (.ref 252)]) #[])
def o_313 (A : AT) (P : Params) : Obj := (Obj.mk (.type (t A 4)) none (.cls (ClassData.mk (s A 54) [(.type (t A 8))] [(.ref 169), (.type (t A 8))] 168 (s A 54) true [] [(.ref 204), (.ref 244), (.ref 284)] false none false)) #[none, none, (some (.str (s A 54) 392)), (some (.str (s A 54) 400)), (some (.builtin (t A 12))), (some (.bool true))])
def o_314 (A : AT) (P : Params) : Obj := (Obj.mk (.type (t A 0)) none (.seq #[(.ref 169)] 0) #[])
def o_315 (A : AT) (P : Params) : Obj := (Obj.mk (.type (t A 13)) none (.fields #[(.builtin (t A 16)), (.type (t A 4))]) #[])
def o_316 (A : AT) (P : Params) : Obj := (Obj.mk (.type (t A 2)) none (.dict #[(DictEntry.mk (keyHash P (s A 31)) (.str (s A 31) 516) (.str (s A 41) 390)), (DictEntry.mk (keyHash P (s A 44)) (.str (s A 44) 518) (.str (s A 65) 517)), (DictEntry.mk (keyHash P (s A 33)) (.str (s A 33) 520) (.int 75 519)), (DictEntry.mk (keyHash P (s A 48)) (.str (s A 48) 528) (.ref 260)), (DictEntry.mk (keyHash P (s A 39)) (.str (s A 39) 536) (.ref 267)), (DictEntry.mk (keyHash P (s A 29)) (.str (s A 29) 546) (.ref 274)), (DictEntry.mk (keyHash P (s A 2)) (.str (s A 2) 556) (.ref 281)), (DictEntry.mk (keyHash P (s A 34)) (.str (s A 34) 558) (.ref 282))] 8) #[])
def o_317 (A : AT) (P : Params) : Obj := (Obj.mk (.type (t A 0)) none (.seq #[] 0) #[])
def o_318 (A : AT) (P : Params) : Obj := (Obj.mk .none none (.fields #[(.int 77 0), (.int 4 0), (.ref 259), (.int 81 0), (.int 4 0), (.ref 266), (.int 84 0), (.int 4 0), (.ref 273), (.int 87 0), (.int 4 0), (.ref 280)]) #[])
def o_319 (A : AT) (P : Params) : Obj := (Obj.mk (.type (t A 1)) none (.fields #[(.str (s A 65) 511), (.str (s A 65) 512), (.str (s A 4) 513), (.int 75 0), (.int 0 0), (.int 0 0), (.int 0 0), (.int 0 0), (.ref 250), (.bool false), (.int 181 0), (.ref 251), .none, .none, .none, .none, (.int 514 0), (.int 75 0), (.str (s A 4) 515)]) #[])
def o_320 (A : AT) (P : Params) : Obj := (Obj.mk (.type (t A 15)) none .plain #[(some (.ref 252)), (some (.ref 3)), (some (.ref 249)), none, (some (.str (s A 41) 390)), none, (some (.ref 0))])
def o_321 (A : AT) (P : Params) : Obj := (Obj.mk (.type (t A 0)) none (.seq #[] 0) #[])
def o_322 (A : AT) (P : Params) : Obj := (Obj.mk .none none (.fields #[]) #[])
def o_323 (A : AT) (P : Params) : Obj := (Obj.mk (.type (t A 0)) none (.seq #[(.str (s A 35) 524), (.str (s A 116) 525)] 0) #[])
def o_324 (A : AT) (P : Params) : Obj := (Obj.mk (.type (t A 0)) none (.seq #[] 0) #[])
def o_325 (A : AT) (P : Params) : Obj := (Obj.mk .none none (.func (FuncData.mk (s A 48) (s A 89) (defArgs (inClass (stm A 23) 0)) (FuncBody.stmts (defBody (inClass (stm A 23) 0))) (defScope (inClass (stm A 23) 0)) 0 [] .none .none .none .none none .none .none 0)) #[])
def o_326 (A : AT) (P : Params) : Obj := (Obj.mk (.type (t A 1)) none (.fields #[(.str (s A 48) 521), (.str (s A 89) 522), (.str (s A 4) 523), (.int 77 0), (.int 2 0), (.int 0 0), (.int 0 0), (.int 3 0), (.ref 254), (.bool true), (.int 181 0), (.ref 255), .none, (.ref 256), (.ref 257), (.ref 258), (.int 526 0), (.int 77 0), (.str (s A 4) 527)]) #[])
def o_327 (A : AT) (P : Params) : Obj := (Obj.mk (.type (t A 11)) none (.func (FuncData.mk (s A 48) (s A 89) (defArgs (inClass (stm A 23) 0)) (FuncBody.stmts (defBody (inClass (stm A 23) 0))) (defScope (inClass (stm A 23) 0)) 3 [] .none .none .none (.str (s A 41) 390) none (.ref 259) .none 0)) #[])
def o_328 (A : AT) (P : Params) : Obj := (Obj.mk (.type (t A 0)) none (.seq #[] 0) #[])
def o_329 (A : AT) (P : Params) : Obj := (Obj.mk .none none (.fields #[]) #[])
def o_330 (A : AT) (P : Params) : Obj := (Obj.mk (.type (t A 0)) none (.seq #[(.str (s A 35) 532), (.str (s A 121) 533)] 0) #[])
def o_331 (A : AT) (P : Params) : Obj := (Obj.mk (.type (t A 0)) none (.seq #[] 0) #[])
def o_332 (A : AT) (P : Params) : Obj := (Obj.mk .none none (.func (FuncData.mk (s A 39) (s A 87) (defArgs (inClass (stm A 23) 1)) (FuncBody.stmts (defBody (inClass (stm A 23) 1))) (defScope (inClass (stm A 23) 1)) 0 [] .none .none .none .none none .none .none 0)) #[])
def o_333 (A : AT) (P : Params) : Obj := (Obj.mk (.type (t A 1)) none (.fields #[(.str (s A 39) 529), (.str (s A 87) 530), (.str (s A 4) 531), (.int 81 0), (.int 2 0), (.int 0 0), (.int 0 0), (.int 3 0), (.ref 261), (.bool true), (.int 181 0), (.ref 262), .none, (.ref 263), (.ref 264), (.ref 265), (.int 534 0), (.int 81 0), (.str (s A 4) 535)]) #[])
def o_334 (A : AT) (P : Params) : Obj := (Obj.mk (.type (t A 11)) none (.func (FuncData.mk (s A 39) (s A 87) (defArgs (inClass (stm A 23) 1)) (FuncBody.stmts (defBody (inClass (stm A 23) 1))) (defScope (inClass (stm A 23) 1)) 3 [] .none .none .none (.str (s A 41) 390) none (.ref 266) .none 0)) #[])
def o_335 (A : AT) (P : Params) : Obj := (Obj.mk (.type (t A 0)) none (.seq #[] 0) #[])
def o_336 (A : AT) (P : Params) : Obj := (Obj.mk .none none (.fields #[]) #[])
def o_337 (A : AT) (P : Params) : Obj := (Obj.mk (.type (t A 0)) none (.seq #[(.str (s A 35) 540), (.str (s A 71) 541), (.str (s A 72) 542), (.str (s A 73) 543)] 0) #[])
def o_338 (A : AT) (P : Params) : Obj := (Obj.mk (.type (t A 0)) none (.seq #[] 0) #[])
def o_339 (A : AT) (P : Params) : Obj := (Obj.mk .none none (.func (FuncData.mk (s A 29) (s A 74) (defArgs (inClass (stm A 23) 2)) (FuncBody.stmts (defBody (inClass (stm A 23) 2))) (defScope (inClass (stm A 23) 2)) 0 [] .none .none .none .none none .none .none 0)) #[])
def o_340 (A : AT) (P : Params) : Obj := (Obj.mk (.type (t A 1)) none (.fields #[(.str (s A 29) 537), (.str (s A 74) 538), (.str (s A 4) 539), (.int 84 0), (.int 4 0), (.int 0 0), (.int 0 0), (.int 3 0), (.ref 268), (.bool true), (.int 181 0), (.ref 269), .none, (.ref 270), (.ref 271), (.ref 272), (.int 544 0), (.int 84 0), (.str (s A 4) 545)]) #[])
def o_341 (A : AT) (P : Params) : Obj := (Obj.mk (.type (t A 11)) none (.func (FuncData.mk (s A 29) (s A 74) (defArgs (inClass (stm A 23) 2)) (FuncBody.stmts (defBody (inClass (stm A 23) 2))) (defScope (inClass (stm A 23) 2)) 3 [] .none .none .none (.str (s A 41) 390) none (.ref 273) .none 0)) #[])
def o_342 (A : AT) (P : Params) : Obj := (Obj.mk (.type (t A 0)) none (.seq #[] 0) #[])
def o_343 (A : AT) (P : Params) : Obj := (Obj.mk .none none (.fields #[]) #[])
def o_344 (A : AT) (P : Params) : Obj := (Obj.mk (.type (t A 0)) none (.seq #[(.str (s A 35) 550), (.str (s A 36) 551), (.str (s A 37) 552), (.str (s A 98) 553)] 0) #[])
def o_345 (A : AT) (P : Params) : Obj := (Obj.mk (.type (t A 0)) none (.seq #[] 0) #[])
def o_346 (A : AT) (P : Params) : Obj := (Obj.mk .none none (.func (FuncData.mk (s A 2) (s A 117) (defArgs (inClass (stm A 23) 3)) (FuncBody.stmts (defBody (inClass (stm A 23) 3))) (defScope (inClass (stm A 23) 3)) 0 [] .none .none .none .none none .none .none 0)) #[])
def o_347 (A : AT) (P : Params) : Obj := (Obj.mk (.type (t A 1)) none (.fields #[(.str (s A 2) 547), (.str (s A 117) 548), (.str (s A 4) 549), (.int 87 0), (.int 4 0), (.int 0 0), (.int 0 0), (.int 3 0), (.ref 275), (.bool true), (.int 181 0), (.ref 276), .none, (.ref 277), (.ref 278), (.ref 279), (.int 554 0), (.int 87 0), (.str (s A 4) 555)]) #[])
def o_348 (A : AT) (P : Params) : Obj := (Obj.mk (.type (t A 11)) none (.func (FuncData.mk (s A 2) (s A 117) (defArgs (inClass (stm A 23) 3)) (FuncBody.stmts (defBody (inClass (stm A 23) 3))) (defScope (inClass (stm A 23) 3)) 3 [] .none .none .none (.str (s A 41) 390) none (.ref 280) .none 0)) #[])
def o_349 (A : AT) (P : Params) : Obj := (Obj.mk (.type (t A 0)) none (.seq #[(.str (s A 116) 557)] 0) #[])
def o_350 (A : AT) (P : Params) : Obj := (Obj.mk (.type (t A 2)) none (.dict #[(DictEntry.mk (keyHash P (s A 31)) (.str (s A 31) 516) (.str (s A 41) 390)), (DictEntry.mk (keyHash P (s A 33)) (.str (s A 33) 520) (.int 75 519)), (DictEntry.mk (keyHash P (s A 48)) (.str (s A 48) 528) (.ref 260)), (DictEntry.mk (keyHash P (s A 39)) (.str (s A 39) 536) (.ref 267)), (DictEntry.mk (keyHash P (s A 29)) (.str (s A 29) 546) (.ref 274)), (DictEntry.mk (keyHash P (s A 2)) (.str (s A 2) 556) (.ref 281)), (DictEntry.mk (keyHash P (s A 34)) (.str (s A 34) 558) (.ref 282)), (DictEntry.mk (keyHash P (s A 7)) (.str (s A 7) 559) .none)] 2) #[])
def o_351 (A : AT) (P : Params) : Obj := (Obj.mk (.type (t A 4)) none (.cls (ClassData.mk (s A 65) [(.ref 169)] [(.ref 284), (.ref 169), (.type (t A 8))] 283 (s A 65) true [] [] false none false)) #[(some (.ref 247)), none, (some (.str (s A 65) 509)), (some (.str (s A 65) 517)), (some (.builtin (t A 12))), (some (.bool true))])
def o_352 (A : AT) (P : Params) : Obj := (Obj.mk (.type (t A 10)) none (.fields #[(.ref 284), (.ref 284), (.ref 284)]) #[])
def o_353 (A : AT) (P : Params) : Obj := (Obj.mk (.type (t A 13)) none (.fields #[(.builtin (t A 14)), (.ref 284)]) #[])
def o_354 (A : AT) (P : Params) : Obj := (Obj.mk (.type (t A 2)) none (.dict #[(DictEntry.mk (keyHash P (s A 5)) (.str (s A 5) 165) (.str (s A 41) 390)), (DictEntry.mk (keyHash P (s A 7)) (.str (s A 7) 166) .none), (DictEntry.mk (keyHash P (s A 8)) (.str (s A 8) 167) .none), (DictEntry.mk (keyHash P (s A 9)) (.str (s A 9) 168) (.builtin (t A 3))), (DictEntry.mk (keyHash P (s A 10)) (.str (s A 10) 169) .none), (DictEntry.mk (keyHash P (s A 11)) (.str (s A 11) 170) (.ref 6)), (DictEntry.mk (keyHash P (s A 12)) (.str (s A 12) 171) (.ref 4)), (DictEntry.mk (keyHash P (s A 13)) (.str (s A 13) 173) (.str (s A 4) 172)), (DictEntry.mk (keyHash P (s A 14)) (.str (s A 14) 174) .none), (DictEntry.mk (keyHash P (s A 15)) (.str (s A 15) 193) (.ref 21)), (DictEntry.mk (keyHash P (s A 16)) (.str (s A 16) 213) (.ref 31)), (DictEntry.mk (keyHash P (s A 17)) (.str (s A 17) 229) (.ref 44)), (DictEntry.mk (keyHash P (s A 18)) (.str (s A 18) 245) (.ref 56)), (DictEntry.mk (keyHash P (s A 19)) (.str (s A 19) 261) (.ref 68)), (DictEntry.mk (keyHash P (s A 20)) (.str (s A 20) 277) (.ref 80)), (DictEntry.mk (keyHash P (s A 21)) (.str (s A 21) 293) (.ref 92)), (DictEntry.mk (keyHash P (s A 22)) (.str (s A 22) 319) (.ref 112)), (DictEntry.mk (keyHash P (s A 23)) (.str (s A 23) 328) (.ref 121)), (DictEntry.mk (keyHash P (s A 24)) (.str (s A 24) 336) (.ref 128)), (DictEntry.mk (keyHash P (s A 25)) (.str (s A 25) 340) (.str (s A 26) 339)), (DictEntry.mk (keyHash P (s A 27)) (.str (s A 27) 342) (.int 8 341)), (DictEntry.mk (keyHash P (s A 28)) (.str (s A 28) 348) (.ref 133)), (DictEntry.mk (keyHash P (s A 52)) (.str (s A 52) 381) (.ref 150)), (DictEntry.mk (keyHash P (s A 53)) (.str (s A 53) 389) (.ref 159)), (DictEntry.mk (keyHash P (s A 54)) (.str (s A 54) 411) (.ref 169)), (DictEntry.mk (keyHash P (s A 47)) (.str (s A 47) 455) (.ref 204)), (DictEntry.mk (keyHash P (s A 55)) (.str (s A 55) 508) (.ref 244)), (DictEntry.mk (keyHash P (s A 65)) (.str (s A 65) 561) (.ref 284)), (DictEntry.mk (keyHash P (s A 64)) (.str (s A 64) 614) (.ref 324))] 29) #[])
def o_355 (A : AT) (P : Params) : Obj := (Obj.mk .none none (.fields #[(.int 1 0), (.int 0 0), (.ref 20), (.int 5 0), (.int 0 0), (.ref 27), (.int 7 0), (.int 0 0), (.ref 40), (.int 9 0), (.int 0 0), (.ref 52), (.int 11 0), (.int 0 0), (.ref 64), (.int 13 0), (.int 0 0), (.ref 76), (.int 15 0), (.int 0 0), (.ref 88), (.int 17 0), (.int 0 0), (.ref 100), (.int 22 0), (.int 0 0), (.ref 120), (.int 24 0), (.int 0 0), (.ref 127), (.int 29 0), (.int 0 0), (.ref 132), (.int 33 0), (.int 0 0), (.ref 139), (.int 44 0), (.int 0 0), (.ref 158), (.int 49 0), (.int 0 0), (.ref 165), (.int 51 0), (.int 0 0), (.ref 179), (.int 61 0), (.int 0 0), (.ref 212), (.int 75 0), (.int 0 0), (.ref 252), (.int 89 0), (.int 0 0), (.ref 292)]) #[])
def o_356 (A : AT) (P : Params) : Obj := (Obj.mk (.type (t A 4)) none (.cls (ClassData.mk (s A 54) [(.type (t A 8))] [(.ref 169), (.type (t A 8))] 168 (s A 54) true [] [(.ref 204), (.ref 244), (.ref 284), (.ref 324)] false none false)) #[none, none, (some (.str (s A 54) 392)), (some (.str (s A 54) 400)), (some (.builtin (t A 12))), (some (.bool true))])
def o_357 (A : AT) (P : Params) : Obj := (Obj.mk (.type (t A 0)) none (.seq #[(.ref 169)] 0) #[])
def o_358 (A : AT) (P : Params) : Obj := (Obj.mk (.type (t A 13)) none (.fields #[(.builtin (t A 16)), (.type (t A 4))]) #[])
def o_359 (A : AT) (P : Params) : Obj := (Obj.mk (.type (t A 2)) none (.dict #[(DictEntry.mk (keyHash P (s A 31)) (.str (s A 31) 569) (.str (s A 41) 390)), (DictEntry.mk (keyHash P (s A 44)) (.str (s A 44) 571) (.str (s A 64) 570)), (DictEntry.mk (keyHash P (s A 33)) (.str (s A 33) 573) (.int 89 572)), (DictEntry.mk (keyHash P (s A 48)) (.str (s A 48) 581) (.ref 300)), (DictEntry.mk (keyHash P (s A 39)) (.str (s A 39) 589) (.ref 307)), (DictEntry.mk (keyHash P (s A 29)) (.str (s A 29) 599) (.ref 314)), (DictEntry.mk (keyHash P (s A 2)) (.str (s A 2) 609) (.ref 321)), (DictEntry.mk (keyHash P (s A 34)) (.str (s A 34) 611) (.ref 322))] 8) #[])
def o_360 (A : AT) (P : Params) : Obj := (Obj.mk (.type (t A 0)) none (.seq #[] 0) #[])
def o_361 (A : AT) (P : Params) : Obj := (Obj.mk .none none (.fields #[(.int 91 0), (.int 4 0), (.ref 299), (.int 96 0), (.int 4 0), (.ref 306), (.int 99 0), (.int 4 0), (.ref 313), (.int 102 0), (.int 4 0), (.ref 320)]) #[])
def o_362 (A : AT) (P : Params) : Obj := (Obj.mk (.type (t A 1)) none (.fields #[(.str (s A 64) 564), (.str (s A 64) 565), (.str (s A 4) 566), (.int 89 0), (.int 0 0), (.int 0 0), (.int 0 0), (.int 0 0), (.ref 290), (.bool false), (.int 181 0), (.ref 291), .none, .none, .none, .none, (.int 567 0), (.int 89 0), (.str (s A 4) 568)]) #[])
def o_363 (A : AT) (P : Params) : Obj := (Obj.mk (.type (t A 15)) none .plain #[(some (.ref 292)), (some (.ref 3)), (some (.ref 289)), none, (some (.str (s A 41) 390)), none, (some (.ref 0))])
def o_364 (A : AT) (P : Params) : Obj := (Obj.mk (.type (t A 0)) none (.seq #[] 0) #[])
def o_365 (A : AT) (P : Params) : Obj := (Obj.mk .none none (.fields #[]) #[])
def o_366 (A : AT) (P : Params) : Obj := (Obj.mk (.type (t A 0)) none (.seq #[(.str (s A 35) 577), (.str (s A 38) 578)] 0) #[])
def o_367 (A : AT) (P : Params) : Obj := (Obj.mk (.type (t A 0)) none (.seq #[] 0) #[])
def o_368 (A : AT) (P : Params) : Obj := (Obj.mk .none none (.func (FuncData.mk (s A 48) (s A 58) (defArgs (inClass (stm A 24) 0)) (FuncBody.stmts (defBody (inClass (stm A 24) 0))) (defScope (inClass (stm A 24) 0)) 0 [] .none .none .none .none none .none .none 0)) #[])
def o_369 (A : AT) (P : Params) : Obj := (Obj.mk (.type (t A 1)) none (.fields #[(.str (s A 48) 574), (.str (s A 58) 575), (.str (s A 4) 576), (.int 91 0), (.int 2 0), (.int 0 0), (.int 0 0), (.int 3 0), (.ref 294), (.bool true), (.int 181 0), (.ref 295), .none, (.ref 296), (.ref 297), (.ref 298), (.int 579 0), (.int 91 0), (.str (s A 4) 580)]) #[])
def o_370 (A : AT) (P : Params) : Obj := (Obj.mk (.type (t A 11)) none (.func (FuncData.mk (s A 48) (s A 58) (defArgs (inClass (stm A 24) 0)) (FuncBody.stmts (defBody (inClass (stm A 24) 0))) (defScope (inClass (stm A 24) 0)) 3 [] .none .none .none (.str (s A 41) 390) none (.ref 299) .none 0)) #[])
def o_371 (A : AT) (P : Params) : Obj := (Obj.mk (.type (t A 0)) none (.seq #[] 0) #[])
def o_372 (A : AT) (P : Params) : Obj := (Obj.mk .none none (.fields #[]) #[])
def o_373 (A : AT) (P : Params) : Obj := (Obj.mk (.type (t A 0)) none (.seq #[(.str (s A 35) 585), (.str (s A 121) 586)] 0) #[])
def o_374 (A : AT) (P : Params) : Obj := (Obj.mk (.type (t A 0)) none (.seq #[] 0) #[])
def o_375 (A : AT) (P : Params) : Obj := (Obj.mk .none none (.func (FuncData.mk (s A 39) (s A 51) (defArgs (inClass (stm A 24) 1)) (FuncBody.stmts (defBody (inClass (stm A 24) 1))) (defScope (inClass (stm A 24) 1)) 0 [] .none .none .none .none none .none .none 0)) #[])
def o_376 (A : AT) (P : Params) : Obj := (Obj.mk (.type (t A 1)) none (.fields #[(.str (s A 39) 582), (.str (s A 51) 583), (.str (s A 4) 584), (.int 96 0), (.int 2 0), (.int 0 0), (.int 0 0), (.int 3 0), (.ref 301), (.bool true), (.int 181 0), (.ref 302), .none, (.ref 303), (.ref 304), (.ref 305), (.int 587 0), (.int 96 0), (.str (s A 4) 588)]) #[])
def o_377 (A : AT) (P : Params) : Obj := (Obj.mk (.type (t A 11)) none (.func (FuncData.mk (s A 39) (s A 51) (defArgs (inClass (stm A 24) 1)) (FuncBody.stmts (defBody (inClass (stm A 24) 1))) (defScope (inClass (stm A 24) 1)) 3 [] .none .none .none (.str (s A 41) 390) none (.ref 306) .none 0)) #[])
def o_378 (A : AT) (P : Params) : Obj := (Obj.mk (.type (t A 0)) none (.seq #[] 0) #[])
def o_379 (A : AT) (P : Params) : Obj := (Obj.mk .none none (.fields #[]) #[])
def o_380 (A : AT) (P : Params) : Obj := (Obj.mk (.type (t A 0)) none (.seq #[(.str (s A 35) 593), (.str (s A 71) 594), (.str (s A 72) 595), (.str (s A 73) 596)] 0) #[])
def o_381 (A : AT) (P : Params) : Obj := (Obj.mk (.type (t A 0)) none (.seq #[] 0) #[])
def o_382 (A : AT) (P : Params) : Obj := (Obj.mk .none none (.func (FuncData.mk (s A 29) (s A 30) (defArgs (inClass (stm A 24) 2)) (FuncBody.stmts (defBody (inClass (stm A 24) 2))) (defScope (inClass (stm A 24) 2)) 0 [] .none .none .none .none none .none .none 0)) #[])
def o_383 (A : AT) (P : Params) : Obj := (Obj.mk (.type (t A 1)) none (.fields #[(.str (s A 29) 590), (.str (s A 30) 591), (.str (s A 4) 592), (.int 99 0), (.int 4 0), (.int 0 0), (.int 0 0), (.int 3 0), (.ref 308), (.bool true), (.int 181 0), (.ref 309), .none, (.ref 310), (.ref 311), (.ref 312), (.int 597 0), (.int 99 0), (.str (s A 4) 598)]) #[])
def o_384 (A : AT) (P : Params) : Obj := (Obj.mk (.type (t A 11)) none (.func (FuncData.mk (s A 29) (s A 30) (defArgs (inClass (stm A 24) 2)) (FuncBody.stmts (defBody (inClass (stm A 24) 2))) (defScope (inClass (stm A 24) 2)) 3 [] .none .none .none (.str (s A 41) 390) none (.ref 313) .none 0)) #[])
def o_385 (A : AT) (P : Params) : Obj := (Obj.mk (.type (t A 0)) none (.seq #[] 0) #[])
def o_386 (A : AT) (P : Params) : Obj := (Obj.mk .none none (.fields #[]) #[])
def o_387 (A : AT) (P : Params) : Obj := (Obj.mk (.type (t A 0)) none (.seq #[(.str (s A 35) 603), (.str (s A 36) 604), (.str (s A 37) 605), (.str (s A 98) 606)] 0) #[])
def o_388 (A : AT) (P : Params) : Obj := (Obj.mk (.type (t A 0)) none (.seq #[] 0) #[])
def o_389 (A : AT) (P : Params) : Obj := (Obj.mk .none none (.func (FuncData.mk (s A 2) (s A 86) (defArgs (inClass (stm A 24) 3)) (FuncBody.stmts (defBody (inClass (stm A 24) 3))) (defScope (inClass (stm A 24) 3)) 0 [] .none .none .none .none none .none .none 0)) #[])
def o_390 (A : AT) (P : Params) : Obj := (Obj.mk (.type (t A 1)) none (.fields #[(.str (s A 2) 600), (.str (s A 86) 601), (.str (s A 4) 602), (.int 102 0), (.int 4 0), (.int 0 0), (.int 0 0), (.int 3 0), (.ref 315), (.bool true), (.int 181 0), (.ref 316), .none, (.ref 317), (.ref 318), (.ref 319), (.int 607 0), (.int 102 0), (.str (s A 4) 608)]) #[])
def o_391 (A : AT) (P : Params) : Obj := (Obj.mk (.type (t A 11)) none (.func (FuncData.mk (s A 2) (s A 86) (defArgs (inClass (stm A 24) 3)) (FuncBody.stmts (defBody (inClass (stm A 24) 3))) (defScope (inClass (stm A 24) 3)) 3 [] .none .none .none (.str (s A 41) 390) none (.ref 320) .none 0)) #[])
def o_392 (A : AT) (P : Params) : Obj := (Obj.mk (.type (t A 0)) none (.seq #[(.str (s A 38) 610)] 0) #[])
def o_393 (A : AT) (P : Params) : Obj := (Obj.mk (.type (t A 2)) none (.dict #[(DictEntry.mk (keyHash P (s A 31)) (.str (s A 31) 569) (.str (s A 41) 390)), (DictEntry.mk (keyHash P (s A 33)) (.str (s A 33) 573) (.int 89 572)), (DictEntry.mk (keyHash P (s A 48)) (.str (s A 48) 581) (.ref 300)), (DictEntry.mk (keyHash P (s A 39)) (.str (s A 39) 589) (.ref 307)), (DictEntry.mk (keyHash P (s A 29)) (.str (s A 29) 599) (.ref 314)), (DictEntry.mk (keyHash P (s A 2)) (.str (s A 2) 609) (.ref 321)), (DictEntry.mk (keyHash P (s A 34)) (.str (s A 34) 611) (.ref 322)), (DictEntry.mk (keyHash P (s A 7)) (.str (s A 7) 612) .none)] 2) #[])
def o_394 (A : AT) (P : Params) : Obj := (Obj.mk (.type (t A 4)) none (.cls (ClassData.mk (s A 64) [(.ref 169)] [(.ref 324), (.ref 169), (.type (t A 8))] 323 (s A 64) true [] [] false none false)) #[(some (.ref 287)), none, (some (.str (s A 64) 562)), (some (.str (s A 64) 570)), (some (.builtin (t A 12))), (some (.bool true))])
def o_395 (A : AT) (P : Params) : Obj := (Obj.mk (.type (t A 10)) none (.fields #[(.ref 324), (.ref 324), (.ref 324)]) #[])
def o_396 (A : AT) (P : Params) : Obj := (Obj.mk (.type (t A 13)) none (.fields #[(.builtin (t A 14)), (.ref 324)]) #[])
def o_397 (A : AT) (P : Params) : Obj := (Obj.mk (.type (t A 2)) none (.dict #[(DictEntry.mk (keyHash P (s A 5)) (.str (s A 5) 165) (.str (s A 41) 390)), (DictEntry.mk (keyHash P (s A 7)) (.str (s A 7) 166) .none), (DictEntry.mk (keyHash P (s A 8)) (.str (s A 8) 167) .none), (DictEntry.mk (keyHash P (s A 9)) (.str (s A 9) 168) (.builtin (t A 3))), (DictEntry.mk (keyHash P (s A 10)) (.str (s A 10) 169) .none), (DictEntry.mk (keyHash P (s A 11)) (.str (s A 11) 170) (.ref 6)), (DictEntry.mk (keyHash P (s A 12)) (.str (s A 12) 171) (.ref 4)), (DictEntry.mk (keyHash P (s A 13)) (.str (s A 13) 173) (.str (s A 4) 172)), (DictEntry.mk (keyHash P (s A 14)) (.str (s A 14) 174) .none), (DictEntry.mk (keyHash P (s A 15)) (.str (s A 15) 193) (.ref 21)), (DictEntry.mk (keyHash P (s A 16)) (.str (s A 16) 213) (.ref 31)), (DictEntry.mk (keyHash P (s A 17)) (.str (s A 17) 229) (.ref 44)), (DictEntry.mk (keyHash P (s A 18)) (.str (s A 18) 245) (.ref 56)), (DictEntry.mk (keyHash P (s A 19)) (.str (s A 19) 261) (.ref 68)), (DictEntry.mk (keyHash P (s A 20)) (.str (s A 20) 277) (.ref 80)), (DictEntry.mk (keyHash P (s A 21)) (.str (s A 21) 293) (.ref 92)), (DictEntry.mk (keyHash P (s A 22)) (.str (s A 22) 319) (.ref 112)), (DictEntry.mk (keyHash P (s A 23)) (.str (s A 23) 328) (.ref 121)), (DictEntry.mk (keyHash P (s A 24)) (.str (s A 24) 336) (.ref 128)), (DictEntry.mk (keyHash P (s A 25)) (.str (s A 25) 340) (.str (s A 26) 339)), (DictEntry.mk (keyHash P (s A 27)) (.str (s A 27) 342) (.int 8 341)), (DictEntry.mk (keyHash P (s A 28)) (.str (s A 28) 348) (.ref 133)), (DictEntry.mk (keyHash P (s A 52)) (.str (s A 52) 381) (.ref 150)), (DictEntry.mk (keyHash P (s A 53)) (.str (s A 53) 389) (.ref 159)), (DictEntry.mk (keyHash P (s A 54)) (.str (s A 54) 411) (.ref 169)), (DictEntry.mk (keyHash P (s A 47)) (.str (s A 47) 455) (.ref 204)), (DictEntry.mk (keyHash P (s A 55)) (.str (s A 55) 508) (.ref 244)), (DictEntry.mk (keyHash P (s A 65)) (.str (s A 65) 561) (.ref 284)), (DictEntry.mk (keyHash P (s A 64)) (.str (s A 64) 614) (.ref 324)), (DictEntry.mk (keyHash P (s A 46)) (.str (s A 46) 667) (.ref 364))] 30) #[])
def o_398 (A : AT) (P : Params) : Obj := (Obj.mk .none none (.fields #[(.int 1 0), (.int 0 0), (.ref 20), (.int 5 0), (.int 0 0), (.ref 27), (.int 7 0), (.int 0 0), (.ref 40), (.int 9 0), (.int 0 0), (.ref 52), (.int 11 0), (.int 0 0), (.ref 64), (.int 13 0), (.int 0 0), (.ref 76), (.int 15 0), (.int 0 0), (.ref 88), (.int 17 0), (.int 0 0), (.ref 100), (.int 22 0), (.int 0 0), (.ref 120), (.int 24 0), (.int 0 0), (.ref 127), (.int 29 0), (.int 0 0), (.ref 132), (.int 33 0), (.int 0 0), (.ref 139), (.int 44 0), (.int 0 0), (.ref 158), (.int 49 0), (.int 0 0), (.ref 165), (.int 51 0), (.int 0 0), (.ref 179), (.int 61 0), (.int 0 0), (.ref 212), (.int 75 0), (.int 0 0), (.ref 252), (.int 89 0), (.int 0 0), (.ref 292), (.int 104 0), (.int 0 0), (.ref 332)]) #[])
def o_399 (A : AT) (P : Params) : Obj := (Obj.mk (.type (t A 4)) none (.cls (ClassData.mk (s A 54) [(.type (t A 8))] [(.ref 169), (.type (t A 8))] 168 (s A 54) true [] [(.ref 204), (.ref 244), (.ref 284), (.ref 324), (.ref 364)] false none false)) #[none, none, (some (.str (s A 54) 392)), (some (.str (s A 54) 400)), (some (.builtin (t A 12))), (some (.bool true))])
def o_400 (A : AT) (P : Params) : Obj := (Obj.mk (.type (t A 0)) none (.seq #[(.ref 169)] 0) #[])
def o_401 (A : AT) (P : Params) : Obj := (Obj.mk (.type (t A 13)) none (.fields #[(.builtin (t A 16)), (.type (t A 4))]) #[])
def o_402 (A : AT) (P : Params) : Obj := (Obj.mk (.type (t A 2)) none (.dict #[(DictEntry.mk (keyHash P (s A 31)) (.str (s A 31) 622) (.str (s A 41) 390)), (DictEntry.mk (keyHash P (s A 44)) (.str (s A 44) 624) (.str (s A 46) 623)), (DictEntry.mk (keyHash P (s A 33)) (.str (s A 33) 626) (.int 104 625)), (DictEntry.mk (keyHash P (s A 48)) (.str (s A 48) 634) (.ref 340)), (DictEntry.mk (keyHash P (s A 39)) (.str (s A 39) 642) (.ref 347)), (DictEntry.mk (keyHash P (s A 29)) (.str (s A 29) 652) (.ref 354)), (DictEntry.mk (keyHash P (s A 2)) (.str (s A 2) 662) (.ref 361)), (DictEntry.mk (keyHash P (s A 34)) (.str (s A 34) 664) (.ref 362))] 8) #[])
def o_403 (A : AT) (P : Params) : Obj := (Obj.mk (.type (t A 0)) none (.seq #[] 0) #[])
def o_404 (A : AT) (P : Params) : Obj := (Obj.mk .none none (.fields #[(.int 106 0), (.int 4 0), (.ref 339), (.int 110 0), (.int 4 0), (.ref 346), (.int 113 0), (.int 4 0), (.ref 353), (.int 116 0), (.int 4 0), (.ref 360)]) #[])
def o_405 (A : AT) (P : Params) : Obj := (Obj.mk (.type (t A 1)) none (.fields #[(.str (s A 46) 617), (.str (s A 46) 618), (.str (s A 4) 619), (.int 104 0), (.int 0 0), (.int 0 0), (.int 0 0), (.int 0 0), (.ref 330), (.bool false), (.int 181 0), (.ref 331), .none, .none, .none, .none, (.int 620 0), (.int 104 0), (.str (s A 4) 621)]) #[])
def o_406 (A : AT) (P : Params) : Obj := (Obj.mk (.type (t A 15)) none .plain #[(some (.ref 332)), (some (.ref 3)), (some (.ref 329)), none, (some (.str (s A 41) 390)), none, (some (.ref 0))])
def o_407 (A : AT) (P : Params) : Obj := (Obj.mk (.type (t A 0)) none (.seq #[] 0) #[])
def o_408 (A : AT) (P : Params) : Obj := (Obj.mk .none none (.fields #[]) #[])
def o_409 (A : AT) (P : Params) : Obj := (Obj.mk (.type (t A 0)) none (.seq #[(.str (s A 35) 630), (.str (s A 113) 631)] 0) #[])
def o_410 (A : AT) (P : Params) : Obj := (Obj.mk (.type (t A 0)) none (.seq #[] 0) #[])
def o_411 (A : AT) (P : Params) : Obj := (Obj.mk .none none (.func (FuncData.mk (s A 48) (s A 82) (defArgs (inClass (stm A 25) 0)) (FuncBody.stmts (defBody (inClass (stm A 25) 0))) (defScope (inClass (stm A 25) 0)) 0 [] .none .none .none .none none .none .none 0)) #[])
def o_412 (A : AT) (P : Params) : Obj := (Obj.mk (.type (t A 1)) none (.fields #[(.str (s A 48) 627), (.str (s A 82) 628), (.str (s A 4) 629), (.int 106 0), (.int 2 0), (.int 0 0), (.int 0 0), (.int 3 0), (.ref 334), (.bool true), (.int 181 0), (.ref 335), .none, (.ref 336), (.ref 337), (.ref 338), (.int 632 0), (.int 106 0), (.str (s A 4) 633)]) #[])
def o_413 (A : AT) (P : Params) : Obj := (Obj.mk (.type (t A 11)) none (.func (FuncData.mk (s A 48) (s A 82) (defArgs (inClass (stm A 25) 0)) (FuncBody.stmts (defBody (inClass (stm A 25) 0))) (defScope (inClass (stm A 25) 0)) 3 [] .none .none .none (.str (s A 41) 390) none (.ref 339) .none 0)) #[])
def o_414 (A : AT) (P : Params) : Obj := (Obj.mk (.type (t A 0)) none (.seq #[] 0) #[])
def o_415 (A : AT) (P : Params) : Obj := (Obj.mk .none none (.fields #[]) #[])
def o_416 (A : AT) (P : Params) : Obj := (Obj.mk (.type (t A 0)) none (.seq #[(.str (s A 35) 638), (.str (s A 121) 639)] 0) #[])
def o_417 (A : AT) (P : Params) : Obj := (Obj.mk (.type (t A 0)) none (.seq #[] 0) #[])
def o_418 (A : AT) (P : Params) : Obj := (Obj.mk .none none (.func (FuncData.mk (s A 39) (s A 40) (defArgs (inClass (stm A 25) 1)) (FuncBody.stmts (defBody (inClass (stm A 25) 1))) (defScope (inClass (stm A 25) 1)) 0 [] .none .none .none .none none .none .none 0)) #[])
def o_419 (A : AT) (P : Params) : Obj := (Obj.mk (.type (t A 1)) none (.fields #[(.str (s A 39) 635), (.str (s A 40) 636), (.str (s A 4) 637), (.int 110 0), (.int 2 0), (.int 0 0), (.int 0 0), (.int 3 0), (.ref 341), (.bool true), (.int 181 0), (.ref 342), .none, (.ref 343), (.ref 344), (.ref 345), (.int 640 0), (.int 110 0), (.str (s A 4) 641)]) #[])
def o_420 (A : AT) (P : Params) : Obj := (Obj.mk (.type (t A 11)) none (.func (FuncData.mk (s A 39) (s A 40) (defArgs (inClass (stm A 25) 1)) (FuncBody.stmts (defBody (inClass (stm A 25) 1))) (defScope (inClass (stm A 25) 1)) 3 [] .none .none .none (.str (s A 41) 390) none (.ref 346) .none 0)) #[])
def o_421 (A : AT) (P : Params) : Obj := (Obj.mk (.type (t A 0)) none (.seq #[] 0) #[])
def o_422 (A : AT) (P : Params) : Obj := (Obj.mk .none none (.fields #[]) #[])
def o_423 (A : AT) (P : Params) : Obj := (Obj.mk (.type (t A 0)) none (.seq #[(.str (s A 35) 646), (.str (s A 71) 647), (.str (s A 72) 648), (.str (s A 73) 649)] 0) #[])
def o_424 (A : AT) (P : Params) : Obj := (Obj.mk (.type (t A 0)) none (.seq #[] 0) #[])
def o_425 (A : AT) (P : Params) : Obj := (Obj.mk .none none (.func (FuncData.mk (s A 29) (s A 119) (defArgs (inClass (stm A 25) 2)) (FuncBody.stmts (defBody (inClass (stm A 25) 2))) (defScope (inClass (stm A 25) 2)) 0 [] .none .none .none .none none .none .none 0)) #[])
def o_426 (A : AT) (P : Params) : Obj := (Obj.mk (.type (t A 1)) none (.fields #[(.str (s A 29) 643), (.str (s A 119) 644), (.str (s A 4) 645), (.int 113 0), (.int 4 0), (.int 0 0), (.int 0 0), (.int 3 0), (.ref 348), (.bool true), (.int 181 0), (.ref 349), .none, (.ref 350), (.ref 351), (.ref 352), (.int 650 0), (.int 113 0), (.str (s A 4) 651)]) #[])
def o_427 (A : AT) (P : Params) : Obj := (Obj.mk (.type (t A 11)) none (.func (FuncData.mk (s A 29) (s A 119) (defArgs (inClass (stm A 25) 2)) (FuncBody.stmts (defBody (inClass (stm A 25) 2))) (defScope (inClass (stm A 25) 2)) 3 [] .none .none .none (.str (s A 41) 390) none (.ref 353) .none 0)) #[])
def o_428 (A : AT) (P : Params) : Obj := (Obj.mk (.type (t A 0)) none (.seq #[] 0) #[])
def o_429 (A : AT) (P : Params) : Obj := (Obj.mk .none none (.fields #[]) #[])
def o_430 (A : AT) (P : Params) : Obj := (Obj.mk (.type (t A 0)) none (.seq #[(.str (s A 35) 656), (.str (s A 36) 657), (.str (s A 37) 658), (.str (s A 98) 659)] 0) #[])
def o_431 (A : AT) (P : Params) : Obj := (Obj.mk (.type (t A 0)) none (.seq #[] 0) #[])
def o_432 (A : AT) (P : Params) : Obj := (Obj.mk .none none (.func (FuncData.mk (s A 2) (s A 112) (defArgs (inClass (stm A 25) 3)) (FuncBody.stmts (defBody (inClass (stm A 25) 3))) (defScope (inClass (stm A 25) 3)) 0 [] .none .none .none .none none .none .none 0)) #[])
def o_433 (A : AT) (P : Params) : Obj := (Obj.mk (.type (t A 1)) none (.fields #[(.str (s A 2) 653), (.str (s A 112) 654), (.str (s A 4) 655), (.int 116 0), (.int 4 0), (.int 0 0), (.int 0 0), (.int 3 0), (.ref 355), (.bool true), (.int 181 0), (.ref 356), .none, (.ref 357), (.ref 358), (.ref 359), (.int 660 0), (.int 116 0), (.str (s A 4) 661)]) #[])
def o_434 (A : AT) (P : Params) : Obj := (Obj.mk (.type (t A 11)) none (.func (FuncData.mk (s A 2) (s A 112) (defArgs (inClass (stm A 25) 3)) (FuncBody.stmts (defBody (inClass (stm A 25) 3))) (defScope (inClass (stm A 25) 3)) 3 [] .none .none .none (.str (s A 41) 390) none (.ref 360) .none 0)) #[])
def o_435 (A : AT) (P : Params) : Obj := (Obj.mk (.type (t A 0)) none (.seq #[(.str (s A 113) 663)] 0) #[])
def o_436 (A : AT) (P : Params) : Obj := (Obj.mk (.type (t A 2)) none (.dict #[(DictEntry.mk (keyHash P (s A 31)) (.str (s A 31) 622) (.str (s A 41) 390)), (DictEntry.mk (keyHash P (s A 33)) (.str (s A 33) 626) (.int 104 625)), (DictEntry.mk (keyHash P (s A 48)) (.str (s A 48) 634) (.ref 340)), (DictEntry.mk (keyHash P (s A 39)) (.str (s A 39) 642) (.ref 347)), (DictEntry.mk (keyHash P (s A 29)) (.str (s A 29) 652) (.ref 354)), (DictEntry.mk (keyHash P (s A 2)) (.str (s A 2) 662) (.ref 361)), (DictEntry.mk (keyHash P (s A 34)) (.str (s A 34) 664) (.ref 362)), (DictEntry.mk (keyHash P (s A 7)) (.str (s A 7) 665) .none)] 2) #[])
def o_437 (A : AT) (P : Params) : Obj := (Obj.mk (.type (t A 4)) none (.cls (ClassData.mk (s A 46) [(.ref 169)] [(.ref 364), (.ref 169), (.type (t A 8))] 363 (s A 46) true [] [] false none false)) #[(some (.ref 327)), none, (some (.str (s A 46) 615)), (some (.str (s A 46) 623)), (some (.builtin (t A 12))), (some (.bool true))])
def o_438 (A : AT) (P : Params) : Obj := (Obj.mk (.type (t A 10)) none (.fields #[(.ref 364), (.ref 364), (.ref 364)]) #[])
def o_439 (A : AT) (P : Params) : Obj := (Obj.mk (.type (t A 13)) none (.fields #[(.builtin (t A 14)), (.ref 364)]) #[])
def o_440 (A : AT) (P : Params) : Obj := (Obj.mk (.type (t A 2)) none (.dict #[(DictEntry.mk (keyHash P (s A 5)) (.str (s A 5) 165) (.str (s A 41) 390)), (DictEntry.mk (keyHash P (s A 7)) (.str (s A 7) 166) .none), (DictEntry.mk (keyHash P (s A 8)) (.str (s A 8) 167) .none), (DictEntry.mk (keyHash P (s A 9)) (.str (s A 9) 168) (.builtin (t A 3))), (DictEntry.mk (keyHash P (s A 10)) (.str (s A 10) 169) .none), (DictEntry.mk (keyHash P (s A 11)) (.str (s A 11) 170) (.ref 6)), (DictEntry.mk (keyHash P (s A 12)) (.str (s A 12) 171) (.ref 4)), (DictEntry.mk (keyHash P (s A 13)) (.str (s A 13) 173) (.str (s A 4) 172)), (DictEntry.mk (keyHash P (s A 14)) (.str (s A 14) 174) .none), (DictEntry.mk (keyHash P (s A 15)) (.str (s A 15) 193) (.ref 21)), (DictEntry.mk (keyHash P (s A 16)) (.str (s A 16) 213) (.ref 31)), (DictEntry.mk (keyHash P (s A 17)) (.str (s A 17) 229) (.ref 44)), (DictEntry.mk (keyHash P (s A 18)) (.str (s A 18) 245) (.ref 56)), (DictEntry.mk (keyHash P (s A 19)) (.str (s A 19) 261) (.ref 68)), (DictEntry.mk (keyHash P (s A 20)) (.str (s A 20) 277) (.ref 80)), (DictEntry.mk (keyHash P (s A 21)) (.str (s A 21) 293) (.ref 92)), (DictEntry.mk (keyHash P (s A 22)) (.str (s A 22) 319) (.ref 112)), (DictEntry.mk (keyHash P (s A 23)) (.str (s A 23) 328) (.ref 121)), (DictEntry.mk (keyHash P (s A 24)) (.str (s A 24) 336) (.ref 128)), (DictEntry.mk (keyHash P (s A 25)) (.str (s A 25) 340) (.str (s A 26) 339)), (DictEntry.mk (keyHash P (s A 27)) (.str (s A 27) 342) (.int 8 341)), (DictEntry.mk (keyHash P (s A 28)) (.str (s A 28) 348) (.ref 133)), (DictEntry.mk (keyHash P (s A 52)) (.str (s A 52) 381) (.ref 150)), (DictEntry.mk (keyHash P (s A 53)) (.str (s A 53) 389) (.ref 159)), (DictEntry.mk (keyHash P (s A 54)) (.str (s A 54) 411) (.ref 169)), (DictEntry.mk (keyHash P (s A 47)) (.str (s A 47) 455) (.ref 204)), (DictEntry.mk (keyHash P (s A 55)) (.str (s A 55) 508) (.ref 244)), (DictEntry.mk (keyHash P (s A 65)) (.str (s A 65) 561) (.ref 284)), (DictEntry.mk (keyHash P (s A 64)) (.str (s A 64) 614) (.ref 324)), (DictEntry.mk (keyHash P (s A 46)) (.str (s A 46) 667) (.ref 364)), (DictEntry.mk (keyHash P (s A 101)) (.str (s A 101) 720) (.ref 404))] 31) #[])
def o_441 (A : AT) (P : Params) : Obj := (Obj.mk .none none (.fields #[(.int 1 0), (.int 0 0), (.ref 20), (.int 5 0), (.int 0 0), (.ref 27), (.int 7 0), (.int 0 0), (.ref 40), (.int 9 0), (.int 0 0), (.ref 52), (.int 11 0), (.int 0 0), (.ref 64), (.int 13 0), (.int 0 0), (.ref 76), (.int 15 0), (.int 0 0), (.ref 88), (.int 17 0), (.int 0 0), (.ref 100), (.int 22 0), (.int 0 0), (.ref 120), (.int 24 0), (.int 0 0), (.ref 127), (.int 29 0), (.int 0 0), (.ref 132), (.int 33 0), (.int 0 0), (.ref 139), (.int 44 0), (.int 0 0), (.ref 158), (.int 49 0), (.int 0 0), (.ref 165), (.int 51 0), (.int 0 0), (.ref 179), (.int 61 0), (.int 0 0), (.ref 212), (.int 75 0), (.int 0 0), (.ref 252), (.int 89 0), (.int 0 0), (.ref 292), (.int 104 0), (.int 0 0), (.ref 332), (.int 118 0), (.int 0 0), (.ref 372)]) #[])
def o_442 (A : AT) (P : Params) : Obj := (Obj.mk (.type (t A 4)) none (.cls (ClassData.mk (s A 54) [(.type (t A 8))] [(.ref 169), (.type (t A 8))] 168 (s A 54) true [] [(.ref 204), (.ref 244), (.ref 284), (.ref 324), (.ref 364), (.ref 404)] false none false)) #[none, none, (some (.str (s A 54) 392)), (some (.str (s A 54) 400)), (some (.builtin (t A 12))), (some (.bool true))])
def o_443 (A : AT) (P : Params) : Obj := (Obj.mk (.type (t A 0)) none (.seq #[(.ref 169)] 0) #[])
def o_444 (A : AT) (P : Params) : Obj := (Obj.mk (.type (t A 13)) none (.fields #[(.builtin (t A 16)), (.type (t A 4))]) #[])
def o_445 (A : AT) (P : Params) : Obj := (Obj.mk (.type (t A 2)) none (.dict #[(DictEntry.mk (keyHash P (s A 31)) (.str (s A 31) 675) (.str (s A 41) 390)), (DictEntry.mk (keyHash P (s A 44)) (.str (s A 44) 677) (.str (s A 101) 676)), (DictEntry.mk (keyHash P (s A 33)) (.str (s A 33) 679) (.int 118 678)), (DictEntry.mk (keyHash P (s A 48)) (.str (s A 48) 687) (.ref 380)), (DictEntry.mk (keyHash P (s A 39)) (.str (s A 39) 695) (.ref 387)), (DictEntry.mk (keyHash P (s A 29)) (.str (s A 29) 705) (.ref 394)), (DictEntry.mk (keyHash P (s A 2)) (.str (s A 2) 715) (.ref 401)), (DictEntry.mk (keyHash P (s A 34)) (.str (s A 34) 717) (.ref 402))] 8) #[])
def o_446 (A : AT) (P : Params) : Obj := (Obj.mk (.type (t A 0)) none (.seq #[] 0) #[])
def o_447 (A : AT) (P : Params) : Obj := (Obj.mk .none none (.fields #[(.int 120 0), (.int 4 0), (.ref 379), (.int 124 0), (.int 4 0), (.ref 386), (.int 127 0), (.int 4 0), (.ref 393), (.int 130 0), (.int 4 0), (.ref 400)]) #[])
def o_448 (A : AT) (P : Params) : Obj := (Obj.mk (.type (t A 1)) none (.fields #[(.str (s A 101) 670), (.str (s A 101) 671), (.str (s A 4) 672), (.int 118 0), (.int 0 0), (.int 0 0), (.int 0 0), (.int 0 0), (.ref 370), (.bool false), (.int 181 0), (.ref 371), .none, .none, .none, .none, (.int 673 0), (.int 118 0), (.str (s A 4) 674)]) #[])
def o_449 (A : AT) (P : Params) : Obj := (Obj.mk (.type (t A 15)) none .plain #[(some (.ref 372)), (some (.ref 3)), (some (.ref 369)), none, (some (.str (s A 41) 390)), none, (some (.ref 0))])
def o_450 (A : AT) (P : Params) : Obj := (Obj.mk (.type (t A 0)) none (.seq #[] 0) #[])
def o_451 (A : AT) (P : Params) : Obj := (Obj.mk .none none (.fields #[]) #[])
def o_452 (A : AT) (P : Params) : Obj := (Obj.mk (.type (t A 0)) none (.seq #[(.str (s A 35) 683), (.str (s A 118) 684)] 0) #[])
def o_453 (A : AT) (P : Params) : Obj := (Obj.mk (.type (t A 0)) none (.seq #[] 0) #[])
def o_454 (A : AT) (P : Params) : Obj := (Obj.mk .none none (.func (FuncData.mk (s A 48) (s A 83) (defArgs (inClass (stm A 26) 0)) (FuncBody.stmts (defBody (inClass (stm A 26) 0))) (defScope (inClass (stm A 26) 0)) 0 [] .none .none .none .none none .none .none 0)) #[])
def o_455 (A : AT) (P : Params) : Obj := (Obj.mk (.type (t A 1)) none (.fields #[(.str (s A 48) 680), (.str (s A 83) 681), (.str (s A 4) 682), (.int 120 0), (.int 2 0), (.int 0 0), (.int 0 0), (.int 3 0), (.ref 374), (.bool true), (.int 181 0), (.ref 375), .none, (.ref 376), (.ref 377), (.ref 378), (.int 685 0), (.int 120 0), (.str (s A 4) 686)]) #[])
def o_456 (A : AT) (P : Params) : Obj := (Obj.mk (.type (t A 11)) none (.func (FuncData.mk (s A 48) (s A 83) (defArgs (inClass (stm A 26) 0)) (FuncBody.stmts (defBody (inClass (stm A 26) 0))) (defScope (inClass (stm A 26) 0)) 3 [] .none .none .none (.str (s A 41) 390) none (.ref 379) .none 0)) #[])
def o_457 (A : AT) (P : Params) : Obj := (Obj.mk (.type (t A 0)) none (.seq #[] 0) #[])
def o_458 (A : AT) (P : Params) : Obj := (Obj.mk .none none (.fields #[]) #[])
def o_459 (A : AT) (P : Params) : Obj := (Obj.mk (.type (t A 0)) none (.seq #[(.str (s A 35) 691), (.str (s A 121) 692)] 0) #[])
def o_460 (A : AT) (P : Params) : Obj := (Obj.mk (.type (t A 0)) none (.seq #[] 0) #[])
def o_461 (A : AT) (P : Params) : Obj := (Obj.mk .none none (.func (FuncData.mk (s A 39) (s A 60) (defArgs (inClass (stm A 26) 1)) (FuncBody.stmts (defBody (inClass (stm A 26) 1))) (defScope (inClass (stm A 26) 1)) 0 [] .none .none .none .none none .none .none 0)) #[])
def o_462 (A : AT) (P : Params) : Obj := (Obj.mk (.type (t A 1)) none (.fields #[(.str (s A 39) 688), (.str (s A 60) 689), (.str (s A 4) 690), (.int 124 0), (.int 2 0), (.int 0 0), (.int 0 0), (.int 3 0), (.ref 381), (.bool true), (.int 181 0), (.ref 382), .none, (.ref 383), (.ref 384), (.ref 385), (.int 693 0), (.int 124 0), (.str (s A 4) 694)]) #[])
def o_463 (A : AT) (P : Params) : Obj := (Obj.mk (.type (t A 11)) none (.func (FuncData.mk (s A 39) (s A 60) (defArgs (inClass (stm A 26) 1)) (FuncBody.stmts (defBody (inClass (stm A 26) 1))) (defScope (inClass (stm A 26) 1)) 3 [] .none .none .none (.str (s A 41) 390) none (.ref 386) .none 0)) #[])
def o_464 (A : AT) (P : Params) : Obj := (Obj.mk (.type (t A 0)) none (.seq #[] 0) #[])
def o_465 (A : AT) (P : Params) : Obj := (Obj.mk .none none (.fields #[]) #[])
def o_466 (A : AT) (P : Params) : Obj := (Obj.mk (.type (t A 0)) none (.seq #[(.str (s A 35) 699), (.str (s A 71) 700), (.str (s A 72) 701), (.str (s A 73) 702)] 0) #[])
def o_467 (A : AT) (P : Params) : Obj := (Obj.mk (.type (t A 0)) none (.seq #[] 0) #[])
def o_468 (A : AT) (P : Params) : Obj := (Obj.mk .none none (.func (FuncData.mk (s A 29) (s A 90) (defArgs (inClass (stm A 26) 2)) (FuncBody.stmts (defBody (inClass (stm A 26) 2))) (defScope (inClass (stm A 26) 2)) 0 [] .none .none .none .none none .none .none 0)) #[])
def o_469 (A : AT) (P : Params) : Obj := (Obj.mk (.type (t A 1)) none (.fields #[(.str (s A 29) 696), (.str (s A 90) 697), (.str (s A 4) 698), (.int 127 0), (.int 4 0), (.int 0 0), (.int 0 0), (.int 3 0), (.ref 388), (.bool true), (.int 181 0), (.ref 389), .none, (.ref 390), (.ref 391), (.ref 392), (.int 703 0), (.int 127 0), (.str (s A 4) 704)]) #[])
def o_470 (A : AT) (P : Params) : Obj := (Obj.mk (.type (t A 11)) none (.func (FuncData.mk (s A 29) (s A 90) (defArgs (inClass (stm A 26) 2)) (FuncBody.stmts (defBody (inClass (stm A 26) 2))) (defScope (inClass (stm A 26) 2)) 3 [] .none .none .none (.str (s A 41) 390) none (.ref 393) .none 0)) #[])
def o_471 (A : AT) (P : Params) : Obj := (Obj.mk (.type (t A 0)) none (.seq #[] 0) #[])
def o_472 (A : AT) (P : Params) : Obj := (Obj.mk .none none (.fields #[]) #[])
def o_473 (A : AT) (P : Params) : Obj := (Obj.mk (.type (t A 0)) none (.seq #[(.str (s A 35) 709), (.str (s A 36) 710), (.str (s A 37) 711), (.str (s A 98) 712)] 0) #[])
def o_474 (A : AT) (P : Params) : Obj := (Obj.mk (.type (t A 0)) none (.seq #[] 0) #[])
def o_475 (A : AT) (P : Params) : Obj := (Obj.mk .none none (.func (FuncData.mk (s A 2) (s A 75) (defArgs (inClass (stm A 26) 3)) (FuncBody.stmts (defBody (inClass (stm A 26) 3))) (defScope (inClass (stm A 26) 3)) 0 [] .none .none .none .none none .none .none 0)) #[])
def o_476 (A : AT) (P : Params) : Obj := (Obj.mk (.type (t A 1)) none (.fields #[(.str (s A 2) 706), (.str (s A 75) 707), (.str (s A 4) 708), (.int 130 0), (.int 4 0), (.int 0 0), (.int 0 0), (.int 3 0), (.ref 395), (.bool true), (.int 181 0), (.ref 396), .none, (.ref 397), (.ref 398), (.ref 399), (.int 713 0), (.int 130 0), (.str (s A 4) 714)]) #[])
def o_477 (A : AT) (P : Params) : Obj := (Obj.mk (.type (t A 11)) none (.func (FuncData.mk (s A 2) (s A 75) (defArgs (inClass (stm A 26) 3)) (FuncBody.stmts (defBody (inClass (stm A 26) 3))) (defScope (inClass (stm A 26) 3)) 3 [] .none .none .none (.str (s A 41) 390) none (.ref 400) .none 0)) #[])
def o_478 (A : AT) (P : Params) : Obj := (Obj.mk (.type (t A 0)) none (.seq #[(.str (s A 118) 716)] 0) #[])
def o_479 (A : AT) (P : Params) : Obj := (Obj.mk (.type (t A 2)) none (.dict #[(DictEntry.mk (keyHash P (s A 31)) (.str (s A 31) 675) (.str (s A 41) 390)), (DictEntry.mk (keyHash P (s A 33)) (.str (s A 33) 679) (.int 118 678)), (DictEntry.mk (keyHash P (s A 48)) (.str (s A 48) 687) (.ref 380)), (DictEntry.mk (keyHash P (s A 39)) (.str (s A 39) 695) (.ref 387)), (DictEntry.mk (keyHash P (s A 29)) (.str (s A 29) 705) (.ref 394)), (DictEntry.mk (keyHash P (s A 2)) (.str (s A 2) 715) (.ref 401)), (DictEntry.mk (keyHash P (s A 34)) (.str (s A 34) 717) (.ref 402)), (DictEntry.mk (keyHash P (s A 7)) (.str (s A 7) 718) .none)] 2) #[])
def o_480 (A : AT) (P : Params) : Obj := (Obj.mk (.type (t A 4)) none (.cls (ClassData.mk (s A 101) [(.ref 169)] [(.ref 404), (.ref 169), (.type (t A 8))] 403 (s A 101) true [] [] false none false)) #[(some (.ref 367)), none, (some (.str (s A 101) 668)), (some (.str (s A 101) 676)), (some (.builtin (t A 12))), (some (.bool true))])
def o_481 (A : AT) (P : Params) : Obj := (Obj.mk (.type (t A 10)) none (.fields #[(.ref 404), (.ref 404), (.ref 404)]) #[])
def o_482 (A : AT) (P : Params) : Obj := (Obj.mk (.type (t A 13)) none (.fields #[(.builtin (t A 14)), (.ref 404)]) #[])
def o_483 (A : AT) (P : Params) : Obj := (Obj.mk (.type (t A 2)) none (.dict #[(DictEntry.mk (keyHash P (s A 5)) (.str (s A 5) 165) (.str (s A 41) 390)), (DictEntry.mk (keyHash P (s A 7)) (.str (s A 7) 166) .none), (DictEntry.mk (keyHash P (s A 8)) (.str (s A 8) 167) .none), (DictEntry.mk (keyHash P (s A 9)) (.str (s A 9) 168) (.builtin (t A 3))), (DictEntry.mk (keyHash P (s A 10)) (.str (s A 10) 169) .none), (DictEntry.mk (keyHash P (s A 11)) (.str (s A 11) 170) (.ref 6)), (DictEntry.mk (keyHash P (s A 12)) (.str (s A 12) 171) (.ref 4)), (DictEntry.mk (keyHash P (s A 13)) (.str (s A 13) 173) (.str (s A 4) 172)), (DictEntry.mk (keyHash P (s A 14)) (.str (s A 14) 174) .none), (DictEntry.mk (keyHash P (s A 15)) (.str (s A 15) 193) (.ref 21)), (DictEntry.mk (keyHash P (s A 16)) (.str (s A 16) 213) (.ref 31)), (DictEntry.mk (keyHash P (s A 17)) (.str (s A 17) 229) (.ref 44)), (DictEntry.mk (keyHash P (s A 18)) (.str (s A 18) 245) (.ref 56)), (DictEntry.mk (keyHash P (s A 19)) (.str (s A 19) 261) (.ref 68)), (DictEntry.mk (keyHash P (s A 20)) (.str (s A 20) 277) (.ref 80)), (DictEntry.mk (keyHash P (s A 21)) (.str (s A 21) 293) (.ref 92)), (DictEntry.mk (keyHash P (s A 22)) (.str (s A 22) 319) (.ref 112)), (DictEntry.mk (keyHash P (s A 23)) (.str (s A 23) 328) (.ref 121)), (DictEntry.mk (keyHash P (s A 24)) (.str (s A 24) 336) (.ref 128)), (DictEntry.mk (keyHash P (s A 25)) (.str (s A 25) 340) (.str (s A 26) 339)), (DictEntry.mk (keyHash P (s A 27)) (.str (s A 27) 342) (.int 8 341)), (DictEntry.mk (keyHash P (s A 28)) (.str (s A 28) 348) (.ref 133)), (DictEntry.mk (keyHash P (s A 52)) (.str (s A 52) 381) (.ref 150)), (DictEntry.mk (keyHash P (s A 53)) (.str (s A 53) 389) (.ref 159)), (DictEntry.mk (keyHash P (s A 54)) (.str (s A 54) 411) (.ref 169)), (DictEntry.mk (keyHash P (s A 47)) (.str (s A 47) 455) (.ref 204)), (DictEntry.mk (keyHash P (s A 55)) (.str (s A 55) 508) (.ref 244)), (DictEntry.mk (keyHash P (s A 65)) (.str (s A 65) 561) (.ref 284)), (DictEntry.mk (keyHash P (s A 64)) (.str (s A 64) 614) (.ref 324)), (DictEntry.mk (keyHash P (s A 46)) (.str (s A 46) 667) (.ref 364)), (DictEntry.mk (keyHash P (s A 101)) (.str (s A 101) 720) (.ref 404)), (DictEntry.mk (keyHash P (s A 66)) (.str (s A 66) 773) (.ref 444)), (DictEntry.mk (keyHash P (s A 102)) (.str (s A 102) 780) (.ref 453))] 33) #[])
def o_484 (A : AT) (P : Params) : Obj := (Obj.mk .none none (.fields #[(.int 1 0), (.int 0 0), (.ref 20), (.int 5 0), (.int 0 0), (.ref 27), (.int 7 0), (.int 0 0), (.ref 40), (.int 9 0), (.int 0 0), (.ref 52), (.int 11 0), (.int 0 0), (.ref 64), (.int 13 0), (.int 0 0), (.ref 76), (.int 15 0), (.int 0 0), (.ref 88), (.int 17 0), (.int 0 0), (.ref 100), (.int 22 0), (.int 0 0), (.ref 120), (.int 24 0), (.int 0 0), (.ref 127), (.int 29 0), (.int 0 0), (.ref 132), (.int 33 0), (.int 0 0), (.ref 139), (.int 44 0), (.int 0 0), (.ref 158), (.int 49 0), (.int 0 0), (.ref 165), (.int 51 0), (.int 0 0), (.ref 179), (.int 61 0), (.int 0 0), (.ref 212), (.int 75 0), (.int 0 0), (.ref 252), (.int 89 0), (.int 0 0), (.ref 292), (.int 104 0), (.int 0 0), (.ref 332), (.int 118 0), (.int 0 0), (.ref 372), (.int 132 0), (.int 0 0), (.ref 412), (.int 146 0), (.int 0 0), (.ref 452)]) #[])
def o_485 (A : AT) (P : Params) : Obj := (Obj.mk (.type (t A 4)) none (.cls (ClassData.mk (s A 54) [(.type (t A 8))] [(.ref 169), (.type (t A 8))] 168 (s A 54) true [] [(.ref 204), (.ref 244), (.ref 284), (.ref 324), (.ref 364), (.ref 404), (.ref 444)] false none false)) #[none, none, (some (.str (s A 54) 392)), (some (.str (s A 54) 400)), (some (.builtin (t A 12))), (some (.bool true))])
def o_486 (A : AT) (P : Params) : Obj := (Obj.mk (.type (t A 0)) none (.seq #[(.ref 169)] 0) #[])
def o_487 (A : AT) (P : Params) : Obj := (Obj.mk (.type (t A 13)) none (.fields #[(.builtin (t A 16)), (.type (t A 4))]) #[])
def o_488 (A : AT) (P : Params) : Obj := (Obj.mk (.type (t A 2)) none (.dict #[(DictEntry.mk (keyHash P (s A 31)) (.str (s A 31) 728) (.str (s A 41) 390)), (DictEntry.mk (keyHash P (s A 44)) (.str (s A 44) 730) (.str (s A 66) 729)), (DictEntry.mk (keyHash P (s A 33)) (.str (s A 33) 732) (.int 132 731)), (DictEntry.mk (keyHash P (s A 48)) (.str (s A 48) 740) (.ref 420)), (DictEntry.mk (keyHash P (s A 39)) (.str (s A 39) 748) (.ref 427)), (DictEntry.mk (keyHash P (s A 29)) (.str (s A 29) 758) (.ref 434)), (DictEntry.mk (keyHash P (s A 2)) (.str (s A 2) 768) (.ref 441)), (DictEntry.mk (keyHash P (s A 34)) (.str (s A 34) 770) (.ref 442))] 8) #[])
def o_489 (A : AT) (P : Params) : Obj := (Obj.mk (.type (t A 0)) none (.seq #[] 0) #[])
def o_490 (A : AT) (P : Params) : Obj := (Obj.mk .none none (.fields #[(.int 134 0), (.int 4 0), (.ref 419), (.int 138 0), (.int 4 0), (.ref 426), (.int 141 0), (.int 4 0), (.ref 433), (.int 144 0), (.int 4 0), (.ref 440)]) #[])
def o_491 (A : AT) (P : Params) : Obj := (Obj.mk (.type (t A 1)) none (.fields #[(.str (s A 66) 723), (.str (s A 66) 724), (.str (s A 4) 725), (.int 132 0), (.int 0 0), (.int 0 0), (.int 0 0), (.int 0 0), (.ref 410), (.bool false), (.int 181 0), (.ref 411), .none, .none, .none, .none, (.int 726 0), (.int 132 0), (.str (s A 4) 727)]) #[])
def o_492 (A : AT) (P : Params) : Obj := (Obj.mk (.type (t A 15)) none .plain #[(some (.ref 412)), (some (.ref 3)), (some (.ref 409)), none, (some (.str (s A 41) 390)), none, (some (.ref 0))])
def o_493 (A : AT) (P : Params) : Obj := (Obj.mk (.type (t A 0)) none (.seq #[] 0) #[])
def o_494 (A : AT) (P : Params) : Obj := (Obj.mk .none none (.fields #[]) #[])
def o_495 (A : AT) (P : Params) : Obj := (Obj.mk (.type (t A 0)) none (.seq #[(.str (s A 35) 736), (.str (s A 118) 737)] 0) #[])
def o_496 (A : AT) (P : Params) : Obj := (Obj.mk (.type (t A 0)) none (.seq #[] 0) #[])
def o_497 (A : AT) (P : Params) : Obj := (Obj.mk .none none (.func (FuncData.mk (s A 48) (s A 124) (defArgs (inClass (stm A 27) 0)) (FuncBody.stmts (defBody (inClass (stm A 27) 0))) (defScope (inClass (stm A 27) 0)) 0 [] .none .none .none .none none .none .none 0)) #[])
def o_498 (A : AT) (P : Params) : Obj := (Obj.mk (.type (t A 1)) none (.fields #[(.str (s A 48) 733), (.str (s A 124) 734), (.str (s A 4) 735), (.int 134 0), (.int 2 0), (.int 0 0), (.int 0 0), (.int 3 0), (.ref 414), (.bool true), (.int 181 0), (.ref 415), .none, (.ref 416), (.ref 417), (.ref 418), (.int 738 0), (.int 134 0), (.str (s A 4) 739)]) #[])
def o_499 (A : AT) (P : Params) : Obj := (Obj.mk (.type (t A 11)) none (.func (FuncData.mk (s A 48) (s A 124) (defArgs (inClass (stm A 27) 0)) (FuncBody.stmts (defBody (inClass (stm A 27) 0))) (defScope (inClass (stm A 27) 0)) 3 [] .none .none .none (.str (s A 41) 390) none (.ref 419) .none 0)) #[])
def o_500 (A : AT) (P : Params) : Obj := (Obj.mk (.type (t A 0)) none (.seq #[] 0) #[])
def o_501 (A : AT) (P : Params) : Obj := (Obj.mk .none none (.fields #[]) #[])
def o_502 (A : AT) (P : Params) : Obj := (Obj.mk (.type (t A 0)) none (.seq #[(.str (s A 35) 744), (.str (s A 121) 745)] 0) #[])
def o_503 (A : AT) (P : Params) : Obj := (Obj.mk (.type (t A 0)) none (.seq #[] 0) #[])
def o_504 (A : AT) (P : Params) : Obj := (Obj.mk .none none (.func (FuncData.mk (s A 39) (s A 99) (defArgs (inClass (stm A 27) 1)) (FuncBody.stmts (defBody (inClass (stm A 27) 1))) (defScope (inClass (stm A 27) 1)) 0 [] .none .none .none .none none .none .none 0)) #[])
def o_505 (A : AT) (P : Params) : Obj := (Obj.mk (.type (t A 1)) none (.fields #[(.str (s A 39) 741), (.str (s A 99) 742), (.str (s A 4) 743), (.int 138 0), (.int 2 0), (.int 0 0), (.int 0 0), (.int 3 0), (.ref 421), (.bool true), (.int 181 0), (.ref 422), .none, (.ref 423), (.ref 424), (.ref 425), (.int 746 0), (.int 138 0), (.str (s A 4) 747)]) #[])
def o_506 (A : AT) (P : Params) : Obj := (Obj.mk (.type (t A 11)) none (.func (FuncData.mk (s A 39) (s A 99) (defArgs (inClass (stm A 27) 1)) (FuncBody.stmts (defBody (inClass (stm A 27) 1))) (defScope (inClass (stm A 27) 1)) 3 [] .none .none .none (.str (s A 41) 390) none (.ref 426) .none 0)) #[])
def o_507 (A : AT) (P : Params) : Obj := (Obj.mk (.type (t A 0)) none (.seq #[] 0) #[])
def o_508 (A : AT) (P : Params) : Obj := (Obj.mk .none none (.fields #[]) #[])
def o_509 (A : AT) (P : Params) : Obj := (Obj.mk (.type (t A 0)) none (.seq #[(.str (s A 35) 752), (.str (s A 71) 753), (.str (s A 72) 754), (.str (s A 73) 755)] 0) #[])
def o_510 (A : AT) (P : Params) : Obj := (Obj.mk (.type (t A 0)) none (.seq #[] 0) #[])
def o_511 (A : AT) (P : Params) : Obj := (Obj.mk .none none (.func (FuncData.mk (s A 29) (s A 100) (defArgs (inClass (stm A 27) 2)) (FuncBody.stmts (defBody (inClass (stm A 27) 2))) (defScope (inClass (stm A 27) 2)) 0 [] .none .none .none .none none .none .none 0)) #[])
def o_512 (A : AT) (P : Params) : Obj := (Obj.mk (.type (t A 1)) none (.fields #[(.str (s A 29) 749), (.str (s A 100) 750), (.str (s A 4) 751), (.int 141 0), (.int 4 0), (.int 0 0), (.int 0 0), (.int 3 0), (.ref 428), (.bool true), (.int 181 0), (.ref 429), .none, (.ref 430), (.ref 431), (.ref 432), (.int 756 0), (.int 141 0), (.str (s A 4) 757)]) #[])
def o_513 (A : AT) (P : Params) : Obj := (Obj.mk (.type (t A 11)) none (.func (FuncData.mk (s A 29) (s A 100) (defArgs (inClass (stm A 27) 2)) (FuncBody.stmts (defBody (inClass (stm A 27) 2))) (defScope (inClass (stm A 27) 2)) 3 [] .none .none .none (.str (s A 41) 390) none (.ref 433) .none 0)) #[])
def o_514 (A : AT) (P : Params) : Obj := (Obj.mk (.type (t A 0)) none (.seq #[] 0) #[])
def o_515 (A : AT) (P : Params) : Obj := (Obj.mk .none none (.fields #[]) #[])
def o_516 (A : AT) (P : Params) : Obj := (Obj.mk (.type (t A 0)) none (.seq #[(.str (s A 35) 762), (.str (s A 36) 763), (.str (s A 37) 764), (.str (s A 98) 765)] 0) #[])
def o_517 (A : AT) (P : Params) : Obj := (Obj.mk (.type (t A 0)) none (.seq #[] 0) #[])
def o_518 (A : AT) (P : Params) : Obj := (Obj.mk .none none (.func (FuncData.mk (s A 2) (s A 3) (defArgs (inClass (stm A 27) 3)) (FuncBody.stmts (defBody (inClass (stm A 27) 3))) (defScope (inClass (stm A 27) 3)) 0 [] .none .none .none .none none .none .none 0)) #[])
def o_519 (A : AT) (P : Params) : Obj := (Obj.mk (.type (t A 1)) none (.fields #[(.str (s A 2) 759), (.str (s A 3) 760), (.str (s A 4) 761), (.int 144 0), (.int 4 0), (.int 0 0), (.int 0 0), (.int 3 0), (.ref 435), (.bool true), (.int 181 0), (.ref 436), .none, (.ref 437), (.ref 438), (.ref 439), (.int 766 0), (.int 144 0), (.str (s A 4) 767)]) #[])
def o_520 (A : AT) (P : Params) : Obj := (Obj.mk (.type (t A 11)) none (.func (FuncData.mk (s A 2) (s A 3) (defArgs (inClass (stm A 27) 3)) (FuncBody.stmts (defBody (inClass (stm A 27) 3))) (defScope (inClass (stm A 27) 3)) 3 [] .none .none .none (.str (s A 41) 390) none (.ref 440) .none 0)) #[])
def o_521 (A : AT) (P : Params) : Obj := (Obj.mk (.type (t A 0)) none (.seq #[(.str (s A 118) 769)] 0) #[])
def o_522 (A : AT) (P : Params) : Obj := (Obj.mk (.type (t A 2)) none (.dict #[(DictEntry.mk (keyHash P (s A 31)) (.str (s A 31) 728) (.str (s A 41) 390)), (DictEntry.mk (keyHash P (s A 33)) (.str (s A 33) 732) (.int 132 731)), (DictEntry.mk (keyHash P (s A 48)) (.str (s A 48) 740) (.ref 420)), (DictEntry.mk (keyHash P (s A 39)) (.str (s A 39) 748) (.ref 427)), (DictEntry.mk (keyHash P (s A 29)) (.str (s A 29) 758) (.ref 434)), (DictEntry.mk (keyHash P (s A 2)) (.str (s A 2) 768) (.ref 441)), (DictEntry.mk (keyHash P (s A 34)) (.str (s A 34) 770) (.ref 442)), (DictEntry.mk (keyHash P (s A 7)) (.str (s A 7) 771) .none)] 2) #[])
def o_523 (A : AT) (P : Params) : Obj := (Obj.mk (.type (t A 4)) none (.cls (ClassData.mk (s A 66) [(.ref 169)] [(.ref 444), (.ref 169), (.type (t A 8))] 443 (s A 66) true [] [] false none false)) #[(some (.ref 407)), none, (some (.str (s A 66) 721)), (some (.str (s A 66) 729)), (some (.builtin (t A 12))), (some (.bool true))])
def o_524 (A : AT) (P : Params) : Obj := (Obj.mk (.type (t A 10)) none (.fields #[(.ref 444), (.ref 444), (.ref 444)]) #[])
def o_525 (A : AT) (P : Params) : Obj := (Obj.mk (.type (t A 13)) none (.fields #[(.builtin (t A 14)), (.ref 444)]) #[])
def o_526 (A : AT) (P : Params) : Obj := (Obj.mk (.type (t A 0)) none (.seq #[] 0) #[])
def o_527 (A : AT) (P : Params) : Obj := (Obj.mk .none none (.fields #[]) #[])
def o_528 (A : AT) (P : Params) : Obj := (Obj.mk (.type (t A 0)) none (.seq #[(.str (s A 116) 777)] 0) #[])
def o_529 (A : AT) (P : Params) : Obj := (Obj.mk (.type (t A 0)) none (.seq #[] 0) #[])
def o_530 (A : AT) (P : Params) : Obj := (Obj.mk .none none (.func (FuncData.mk (s A 102) (s A 102) (defArgs (stm A 28)) (FuncBody.stmts (defBody (stm A 28))) (defScope (stm A 28)) 0 [] .none .none .none .none none .none .none 0)) #[])
def o_531 (A : AT) (P : Params) : Obj := (Obj.mk (.type (t A 1)) none (.fields #[(.str (s A 102) 774), (.str (s A 102) 775), (.str (s A 4) 776), (.int 146 0), (.int 1 0), (.int 0 0), (.int 0 0), (.int 3 0), (.ref 447), (.bool true), (.int 181 0), (.ref 448), .none, (.ref 449), (.ref 450), (.ref 451), (.int 778 0), (.int 146 0), (.str (s A 4) 779)]) #[])
def o_532 (A : AT) (P : Params) : Obj := (Obj.mk (.type (t A 11)) none (.func (FuncData.mk (s A 102) (s A 102) (defArgs (stm A 28)) (FuncBody.stmts (defBody (stm A 28))) (defScope (stm A 28)) 3 [] .none .none .none (.str (s A 41) 390) none (.ref 452) .none 0)) #[])
def o_533 (A : AT) (P : Params) : Obj := (Obj.mk (.type (t A 2)) none (.dict #[(DictEntry.mk (keyHash P (s A 5)) (.str (s A 5) 165) (.str (s A 49) 796)), (DictEntry.mk (keyHash P (s A 7)) (.str (s A 7) 166) .none), (DictEntry.mk (keyHash P (s A 8)) (.str (s A 8) 167) .none), (DictEntry.mk (keyHash P (s A 9)) (.str (s A 9) 168) (.builtin (t A 3))), (DictEntry.mk (keyHash P (s A 10)) (.str (s A 10) 169) .none), (DictEntry.mk (keyHash P (s A 11)) (.str (s A 11) 170) (.ref 6)), (DictEntry.mk (keyHash P (s A 12)) (.str (s A 12) 171) (.ref 4)), (DictEntry.mk (keyHash P (s A 13)) (.str (s A 13) 173) (.str (s A 4) 172)), (DictEntry.mk (keyHash P (s A 14)) (.str (s A 14) 174) .none), (DictEntry.mk (keyHash P (s A 15)) (.str (s A 15) 193) (.ref 21)), (DictEntry.mk (keyHash P (s A 16)) (.str (s A 16) 213) (.ref 31)), (DictEntry.mk (keyHash P (s A 17)) (.str (s A 17) 229) (.ref 44)), (DictEntry.mk (keyHash P (s A 18)) (.str (s A 18) 245) (.ref 56)), (DictEntry.mk (keyHash P (s A 19)) (.str (s A 19) 261) (.ref 68)), (DictEntry.mk (keyHash P (s A 20)) (.str (s A 20) 277) (.ref 80)), (DictEntry.mk (keyHash P (s A 21)) (.str (s A 21) 293) (.ref 92)), (DictEntry.mk (keyHash P (s A 22)) (.str (s A 22) 319) (.ref 112)), (DictEntry.mk (keyHash P (s A 23)) (.str (s A 23) 328) (.ref 121)), (DictEntry.mk (keyHash P (s A 24)) (.str (s A 24) 336) (.ref 128)), (DictEntry.mk (keyHash P (s A 25)) (.str (s A 25) 340) (.str (s A 26) 339)), (DictEntry.mk (keyHash P (s A 27)) (.str (s A 27) 342) (.int 8 341)), (DictEntry.mk (keyHash P (s A 28)) (.str (s A 28) 348) (.ref 133)), (DictEntry.mk (keyHash P (s A 52)) (.str (s A 52) 381) (.ref 150)), (DictEntry.mk (keyHash P (s A 53)) (.str (s A 53) 389) (.ref 159)), (DictEntry.mk (keyHash P (s A 54)) (.str (s A 54) 411) (.ref 169)), (DictEntry.mk (keyHash P (s A 47)) (.str (s A 47) 455) (.ref 204)), (DictEntry.mk (keyHash P (s A 55)) (.str (s A 55) 508) (.ref 244)), (DictEntry.mk (keyHash P (s A 65)) (.str (s A 65) 561) (.ref 284)), (DictEntry.mk (keyHash P (s A 64)) (.str (s A 64) 614) (.ref 324)), (DictEntry.mk (keyHash P (s A 46)) (.str (s A 46) 667) (.ref 364)), (DictEntry.mk (keyHash P (s A 101)) (.str (s A 101) 720) (.ref 404)), (DictEntry.mk (keyHash P (s A 66)) (.str (s A 66) 773) (.ref 444)), (DictEntry.mk (keyHash P (s A 102)) (.str (s A 102) 780) (.ref 453)), (DictEntry.mk (keyHash P (s A 103)) (.str (s A 103) 787) (.ref 460)), (DictEntry.mk (keyHash P (s A 45)) (.str (s A 45) 795) (.ref 467)), (DictEntry.mk (keyHash P (s A 97)) (.str (s A 97) 805) (.ref 474)), (DictEntry.mk (keyHash P (s A 50)) (.str (s A 50) 812) (.ref 481)), (DictEntry.mk (keyHash P (s A 79)) (.str (s A 79) 822) (.ref 488)), (DictEntry.mk (keyHash P (s A 104)) (.str (s A 104) 828) (.ref 493)), (DictEntry.mk (keyHash P (s A 105)) (.str (s A 105) 839) (.ref 500)), (DictEntry.mk (keyHash P (s A 106)) (.str (s A 106) 847) (.ref 507)), (DictEntry.mk (keyHash P (s A 56)) (.str (s A 56) 853) (.ref 512)), (DictEntry.mk (keyHash P (s A 59)) (.str (s A 59) 861) (.ref 519)), (DictEntry.mk (keyHash P (s A 107)) (.str (s A 107) 872) (.ref 526)), (DictEntry.mk (keyHash P (s A 57)) (.str (s A 57) 878) (.ref 531)), (DictEntry.mk (keyHash P (s A 81)) (.str (s A 81) 888) (.ref 538))] 46) #[])
def o_534 (A : AT) (P : Params) : Obj := (Obj.mk .none none (.fields #[(.int 1 0), (.int 0 0), (.ref 20), (.int 5 0), (.int 0 0), (.ref 27), (.int 7 0), (.int 0 0), (.ref 40), (.int 9 0), (.int 0 0), (.ref 52), (.int 11 0), (.int 0 0), (.ref 64), (.int 13 0), (.int 0 0), (.ref 76), (.int 15 0), (.int 0 0), (.ref 88), (.int 17 0), (.int 0 0), (.ref 100), (.int 22 0), (.int 0 0), (.ref 120), (.int 24 0), (.int 0 0), (.ref 127), (.int 29 0), (.int 0 0), (.ref 132), (.int 33 0), (.int 0 0), (.ref 139), (.int 44 0), (.int 0 0), (.ref 158), (.int 49 0), (.int 0 0), (.ref 165), (.int 51 0), (.int 0 0), (.ref 179), (.int 61 0), (.int 0 0), (.ref 212), (.int 75 0), (.int 0 0), (.ref 252), (.int 89 0), (.int 0 0), (.ref 292), (.int 104 0), (.int 0 0), (.ref 332), (.int 118 0), (.int 0 0), (.ref 372), (.int 132 0), (.int 0 0), (.ref 412), (.int 146 0), (.int 0 0), (.ref 452), (.int 149 0), (.int 0 0), (.ref 459), (.int 152 0), (.int 0 0), (.ref 466), (.int 158 0), (.int 0 0), (.ref 473), (.int 162 0), (.int 0 0), (.ref 480), (.int 164 0), (.int 0 0), (.ref 487), (.int 174 0), (.int 0 0), (.ref 492), (.int 185 0), (.int 0 0), (.ref 499), (.int 192 0), (.int 0 0), (.ref 506), (.int 195 0), (.int 0 0), (.ref 511), (.int 197 0), (.int 0 0), (.ref 518), (.int 209 0), (.int 0 0), (.ref 525), (.int 217 0), (.int 0 0), (.ref 530), (.int 228 0), (.int 0 0), (.ref 537)]) #[])
def o_535 (A : AT) (P : Params) : Obj := (Obj.mk (.type (t A 0)) none (.seq #[] 0) #[])
def o_536 (A : AT) (P : Params) : Obj := (Obj.mk .none none (.fields #[]) #[])
def o_537 (A : AT) (P : Params) : Obj := (Obj.mk (.type (t A 0)) none (.seq #[(.str (s A 113) 784)] 0) #[])
def o_538 (A : AT) (P : Params) : Obj := (Obj.mk (.type (t A 0)) none (.seq #[] 0) #[])
def o_539 (A : AT) (P : Params) : Obj := (Obj.mk .none none (.func (FuncData.mk (s A 103) (s A 103) (defArgs (stm A 29)) (FuncBody.stmts (defBody (stm A 29))) (defScope (stm A 29)) 0 [] .none .none .none .none none .none .none 0)) #[])
def o_540 (A : AT) (P : Params) : Obj := (Obj.mk (.type (t A 1)) none (.fields #[(.str (s A 103) 781), (.str (s A 103) 782), (.str (s A 4) 783), (.int 149 0), (.int 1 0), (.int 0 0), (.int 0 0), (.int 3 0), (.ref 454), (.bool true), (.int 181 0), (.ref 455), .none, (.ref 456), (.ref 457), (.ref 458), (.int 785 0), (.int 149 0), (.str (s A 4) 786)]) #[])
def o_541 (A : AT) (P : Params) : Obj := (Obj.mk (.type (t A 11)) none (.func (FuncData.mk (s A 103) (s A 103) (defArgs (stm A 29)) (FuncBody.stmts (defBody (stm A 29))) (defScope (stm A 29)) 3 [] .none .none .none (.str (s A 41) 390) none (.ref 459) .none 0)) #[])
def o_542 (A : AT) (P : Params) : Obj := (Obj.mk (.type (t A 0)) none (.seq #[] 0) #[])
def o_543 (A : AT) (P : Params) : Obj := (Obj.mk .none none (.fields #[]) #[])
def o_544 (A : AT) (P : Params) : Obj := (Obj.mk (.type (t A 0)) none (.seq #[(.str (s A 118) 791), (.str (s A 113) 792)] 0) #[])
def o_545 (A : AT) (P : Params) : Obj := (Obj.mk (.type (t A 0)) none (.seq #[] 0) #[])
def o_546 (A : AT) (P : Params) : Obj := (Obj.mk .none none (.func (FuncData.mk (s A 45) (s A 45) (defArgs (stm A 30)) (FuncBody.stmts (defBody (stm A 30))) (defScope (stm A 30)) 0 [] .none .none .none .none none .none .none 0)) #[])
def o_547 (A : AT) (P : Params) : Obj := (Obj.mk (.type (t A 1)) none (.fields #[(.str (s A 45) 788), (.str (s A 45) 789), (.str (s A 4) 790), (.int 152 0), (.int 1 0), (.int 0 0), (.int 0 0), (.int 3 0), (.ref 461), (.bool true), (.int 181 0), (.ref 462), .none, (.ref 463), (.ref 464), (.ref 465), (.int 793 0), (.int 152 0), (.str (s A 4) 794)]) #[])
def o_548 (A : AT) (P : Params) : Obj := (Obj.mk (.type (t A 11)) none (.func (FuncData.mk (s A 45) (s A 45) (defArgs (stm A 30)) (FuncBody.stmts (defBody (stm A 30))) (defScope (stm A 30)) 3 [] .none .none .none (.str (s A 41) 390) none (.ref 466) .none 0)) #[])
def o_549 (A : AT) (P : Params) : Obj := (Obj.mk (.type (t A 0)) none (.seq #[] 0) #[])
def o_550 (A : AT) (P : Params) : Obj := (Obj.mk .none none (.fields #[]) #[])
def o_551 (A : AT) (P : Params) : Obj := (Obj.mk (.type (t A 0)) none (.seq #[(.str (s A 128) 801), (.str (s A 95) 802)] 0) #[])
def o_552 (A : AT) (P : Params) : Obj := (Obj.mk (.type (t A 0)) none (.seq #[] 0) #[])
def o_553 (A : AT) (P : Params) : Obj := (Obj.mk .none none (.func (FuncData.mk (s A 97) (s A 97) (defArgs (stm A 32)) (FuncBody.stmts (defBody (stm A 32))) (defScope (stm A 32)) 0 [] .none .none .none .none none .none .none 0)) #[])
def o_554 (A : AT) (P : Params) : Obj := (Obj.mk (.type (t A 1)) none (.fields #[(.str (s A 97) 798), (.str (s A 97) 799), (.str (s A 4) 800), (.int 158 0), (.int 2 0), (.int 0 0), (.int 0 0), (.int 3 0), (.ref 468), (.bool true), (.int 181 0), (.ref 469), .none, (.ref 470), (.ref 471), (.ref 472), (.int 803 0), (.int 158 0), (.str (s A 4) 804)]) #[])
def o_555 (A : AT) (P : Params) : Obj := (Obj.mk (.type (t A 11)) none (.func (FuncData.mk (s A 97) (s A 97) (defArgs (stm A 32)) (FuncBody.stmts (defBody (stm A 32))) (defScope (stm A 32)) 3 [] .none .none .none (.str (s A 49) 796) none (.ref 473) .none 0)) #[])
def o_556 (A : AT) (P : Params) : Obj := (Obj.mk (.type (t A 0)) none (.seq #[] 0) #[])
def o_557 (A : AT) (P : Params) : Obj := (Obj.mk .none none (.fields #[]) #[])
def o_558 (A : AT) (P : Params) : Obj := (Obj.mk (.type (t A 0)) none (.seq #[(.str (s A 67) 809)] 0) #[])
def o_559 (A : AT) (P : Params) : Obj := (Obj.mk (.type (t A 0)) none (.seq #[] 0) #[])
def o_560 (A : AT) (P : Params) : Obj := (Obj.mk .none none (.func (FuncData.mk (s A 50) (s A 50) (defArgs (stm A 33)) (FuncBody.stmts (defBody (stm A 33))) (defScope (stm A 33)) 0 [] .none .none .none .none none .none .none 0)) #[])
def o_561 (A : AT) (P : Params) : Obj := (Obj.mk (.type (t A 1)) none (.fields #[(.str (s A 50) 806), (.str (s A 50) 807), (.str (s A 4) 808), (.int 162 0), (.int 1 0), (.int 0 0), (.int 0 0), (.int 3 0), (.ref 475), (.bool true), (.int 181 0), (.ref 476), .none, (.ref 477), (.ref 478), (.ref 479), (.int 810 0), (.int 162 0), (.str (s A 4) 811)]) #[])
def o_562 (A : AT) (P : Params) : Obj := (Obj.mk (.type (t A 11)) none (.func (FuncData.mk (s A 50) (s A 50) (defArgs (stm A 33)) (FuncBody.stmts (defBody (stm A 33))) (defScope (stm A 33)) 3 [] .none .none .none (.str (s A 49) 796) none (.ref 480) .none 0)) #[])
def o_563 (A : AT) (P : Params) : Obj := (Obj.mk (.type (t A 0)) none (.seq #[] 0) #[])
def o_564 (A : AT) (P : Params) : Obj := (Obj.mk .none none (.fields #[]) #[])
def o_565 (A : AT) (P : Params) : Obj := (Obj.mk (.type (t A 0)) none (.seq #[(.str (s A 68) 816), (.str (s A 69) 817), (.str (s A 1) 818), (.str (s A 70) 819)] 0) #[])
def o_566 (A : AT) (P : Params) : Obj := (Obj.mk (.type (t A 0)) none (.seq #[] 0) #[])
def o_567 (A : AT) (P : Params) : Obj := (Obj.mk .none none (.func (FuncData.mk (s A 79) (s A 79) (defArgs (stm A 34)) (FuncBody.stmts (defBody (stm A 34))) (defScope (stm A 34)) 0 [] .none .none .none .none none .none .none 0)) #[])
def o_568 (A : AT) (P : Params) : Obj := (Obj.mk (.type (t A 1)) none (.fields #[(.str (s A 79) 813), (.str (s A 79) 814), (.str (s A 4) 815), (.int 164 0), (.int 2 0), (.int 0 0), (.int 0 0), (.int 3 0), (.ref 482), (.bool true), (.int 181 0), (.ref 483), .none, (.ref 484), (.ref 485), (.ref 486), (.int 820 0), (.int 164 0), (.str (s A 4) 821)]) #[])
def o_569 (A : AT) (P : Params) : Obj := (Obj.mk (.type (t A 11)) none (.func (FuncData.mk (s A 79) (s A 79) (defArgs (stm A 34)) (FuncBody.stmts (defBody (stm A 34))) (defScope (stm A 34)) 3 [] .none .none .none (.str (s A 49) 796) none (.ref 487) .none 0)) #[])
def o_570 (A : AT) (P : Params) : Obj := (Obj.mk (.type (t A 0)) none (.seq #[] 0) #[])
def o_571 (A : AT) (P : Params) : Obj := (Obj.mk .none none (.fields #[]) #[])
def o_572 (A : AT) (P : Params) : Obj := (Obj.mk .none none (.func (FuncData.mk (s A 104) (s A 104) (defArgs (stm A 35)) (FuncBody.stmts (defBody (stm A 35))) (defScope (stm A 35)) 0 [] .none .none .none .none none .none .none 0)) #[])
def o_573 (A : AT) (P : Params) : Obj := (Obj.mk (.type (t A 1)) none (.fields #[(.str (s A 104) 823), (.str (s A 104) 824), (.str (s A 4) 825), (.int 174 0), (.int 1 0), (.int 0 0), (.int 0 0), (.int 3 0), (.ref 489), (.bool true), (.int 181 0), (.ref 490), .none, .none, .none, (.ref 491), (.int 826 0), (.int 174 0), (.str (s A 4) 827)]) #[])
def o_574 (A : AT) (P : Params) : Obj := (Obj.mk (.type (t A 11)) none (.func (FuncData.mk (s A 104) (s A 104) (defArgs (stm A 35)) (FuncBody.stmts (defBody (stm A 35))) (defScope (stm A 35)) 3 [] .none .none .none (.str (s A 49) 796) none (.ref 492) .none 0)) #[])
def o_575 (A : AT) (P : Params) : Obj := (Obj.mk (.type (t A 0)) none (.seq #[] 0) #[])
def o_576 (A : AT) (P : Params) : Obj := (Obj.mk .none none (.fields #[]) #[])
def o_577 (A : AT) (P : Params) : Obj := (Obj.mk (.type (t A 0)) none (.seq #[(.str (s A 68) 832), (.str (s A 94) 833), (.str (s A 1) 834), (.str (s A 95) 835), (.str (s A 96) 836)] 0) #[])
def o_578 (A : AT) (P : Params) : Obj := (Obj.mk (.type (t A 0)) none (.seq #[] 0) #[])
def o_579 (A : AT) (P : Params) : Obj := (Obj.mk .none none (.func (FuncData.mk (s A 105) (s A 105) (defArgs (stm A 36)) (FuncBody.stmts (defBody (stm A 36))) (defScope (stm A 36)) 0 [] .none .none .none .none none .none .none 0)) #[])
def o_580 (A : AT) (P : Params) : Obj := (Obj.mk (.type (t A 1)) none (.fields #[(.str (s A 105) 829), (.str (s A 105) 830), (.str (s A 4) 831), (.int 185 0), (.int 2 0), (.int 0 0), (.int 0 0), (.int 3 0), (.ref 494), (.bool true), (.int 181 0), (.ref 495), .none, (.ref 496), (.ref 497), (.ref 498), (.int 837 0), (.int 185 0), (.str (s A 4) 838)]) #[])
def o_581 (A : AT) (P : Params) : Obj := (Obj.mk (.type (t A 11)) none (.func (FuncData.mk (s A 105) (s A 105) (defArgs (stm A 36)) (FuncBody.stmts (defBody (stm A 36))) (defScope (stm A 36)) 3 [] .none .none .none (.str (s A 49) 796) none (.ref 499) .none 0)) #[])
def o_582 (A : AT) (P : Params) : Obj := (Obj.mk (.type (t A 0)) none (.seq #[] 0) #[])
def o_583 (A : AT) (P : Params) : Obj := (Obj.mk .none none (.fields #[]) #[])
def o_584 (A : AT) (P : Params) : Obj := (Obj.mk (.type (t A 0)) none (.seq #[(.str (s A 0) 843), (.str (s A 1) 844)] 0) #[])
def o_585 (A : AT) (P : Params) : Obj := (Obj.mk (.type (t A 0)) none (.seq #[] 0) #[])
def o_586 (A : AT) (P : Params) : Obj := (Obj.mk .none none (.func (FuncData.mk (s A 106) (s A 106) (defArgs (stm A 37)) (FuncBody.stmts (defBody (stm A 37))) (defScope (stm A 37)) 0 [] .none .none .none .none none .none .none 0)) #[])
def o_587 (A : AT) (P : Params) : Obj := (Obj.mk (.type (t A 1)) none (.fields #[(.str (s A 106) 840), (.str (s A 106) 841), (.str (s A 4) 842), (.int 192 0), (.int 1 0), (.int 0 0), (.int 0 0), (.int 3 0), (.ref 501), (.bool true), (.int 181 0), (.ref 502), .none, (.ref 503), (.ref 504), (.ref 505), (.int 845 0), (.int 192 0), (.str (s A 4) 846)]) #[])
def o_588 (A : AT) (P : Params) : Obj := (Obj.mk (.type (t A 11)) none (.func (FuncData.mk (s A 106) (s A 106) (defArgs (stm A 37)) (FuncBody.stmts (defBody (stm A 37))) (defScope (stm A 37)) 3 [] .none .none .none (.str (s A 49) 796) none (.ref 506) .none 0)) #[])
def o_589 (A : AT) (P : Params) : Obj := (Obj.mk (.type (t A 0)) none (.seq #[] 0) #[])
def o_590 (A : AT) (P : Params) : Obj := (Obj.mk .none none (.fields #[]) #[])
def o_591 (A : AT) (P : Params) : Obj := (Obj.mk .none none (.func (FuncData.mk (s A 56) (s A 56) (defArgs (stm A 38)) (FuncBody.stmts (defBody (stm A 38))) (defScope (stm A 38)) 0 [] .none .none .none .none none .none .none 0)) #[])
def o_592 (A : AT) (P : Params) : Obj := (Obj.mk (.type (t A 1)) none (.fields #[(.str (s A 56) 848), (.str (s A 56) 849), (.str (s A 4) 850), (.int 195 0), (.int 2 0), (.int 0 0), (.int 0 0), (.int 3 0), (.ref 508), (.bool true), (.int 181 0), (.ref 509), .none, .none, .none, (.ref 510), (.int 851 0), (.int 195 0), (.str (s A 4) 852)]) #[])
def o_593 (A : AT) (P : Params) : Obj := (Obj.mk (.type (t A 11)) none (.func (FuncData.mk (s A 56) (s A 56) (defArgs (stm A 38)) (FuncBody.stmts (defBody (stm A 38))) (defScope (stm A 38)) 3 [] .none .none .none (.str (s A 49) 796) none (.ref 511) .none 0)) #[])
def o_594 (A : AT) (P : Params) : Obj := (Obj.mk (.type (t A 0)) none (.seq #[] 0) #[])
def o_595 (A : AT) (P : Params) : Obj := (Obj.mk .none none (.fields #[]) #[])
def o_596 (A : AT) (P : Params) : Obj := (Obj.mk (.type (t A 0)) none (.seq #[(.str (s A 91) 857), (.str (s A 109) 858)] 0) #[])
def o_597 (A : AT) (P : Params) : Obj := (Obj.mk (.type (t A 0)) none (.seq #[] 0) #[])
def o_598 (A : AT) (P : Params) : Obj := (Obj.mk .none none (.func (FuncData.mk (s A 59) (s A 59) (defArgs (stm A 39)) (FuncBody.stmts (defBody (stm A 39))) (defScope (stm A 39)) 0 [] .none .none .none .none none .none .none 0)) #[])
def o_599 (A : AT) (P : Params) : Obj := (Obj.mk (.type (t A 1)) none (.fields #[(.str (s A 59) 854), (.str (s A 59) 855), (.str (s A 4) 856), (.int 197 0), (.int 2 0), (.int 0 0), (.int 0 0), (.int 3 0), (.ref 513), (.bool true), (.int 181 0), (.ref 514), .none, (.ref 515), (.ref 516), (.ref 517), (.int 859 0), (.int 197 0), (.str (s A 4) 860)]) #[])
def o_600 (A : AT) (P : Params) : Obj := (Obj.mk (.type (t A 11)) none (.func (FuncData.mk (s A 59) (s A 59) (defArgs (stm A 39)) (FuncBody.stmts (defBody (stm A 39))) (defScope (stm A 39)) 3 [] .none .none .none (.str (s A 49) 796) none (.ref 518) .none 0)) #[])
def o_601 (A : AT) (P : Params) : Obj := (Obj.mk (.type (t A 0)) none (.seq #[] 0) #[])
def o_602 (A : AT) (P : Params) : Obj := (Obj.mk .none none (.fields #[]) #[])
def o_603 (A : AT) (P : Params) : Obj := (Obj.mk (.type (t A 0)) none (.seq #[(.str (s A 91) 865), (.str (s A 109) 866), (.str (s A 1) 867), (.str (s A 110) 868), (.str (s A 111) 869)] 0) #[])
def o_604 (A : AT) (P : Params) : Obj := (Obj.mk (.type (t A 0)) none (.seq #[] 0) #[])
def o_605 (A : AT) (P : Params) : Obj := (Obj.mk .none none (.func (FuncData.mk (s A 107) (s A 107) (defArgs (stm A 40)) (FuncBody.stmts (defBody (stm A 40))) (defScope (stm A 40)) 0 [] .none .none .none .none none .none .none 0)) #[])
def o_606 (A : AT) (P : Params) : Obj := (Obj.mk (.type (t A 1)) none (.fields #[(.str (s A 107) 862), (.str (s A 107) 863), (.str (s A 4) 864), (.int 209 0), (.int 2 0), (.int 0 0), (.int 0 0), (.int 3 0), (.ref 520), (.bool true), (.int 181 0), (.ref 521), .none, (.ref 522), (.ref 523), (.ref 524), (.int 870 0), (.int 209 0), (.str (s A 4) 871)]) #[])
def o_607 (A : AT) (P : Params) : Obj := (Obj.mk (.type (t A 11)) none (.func (FuncData.mk (s A 107) (s A 107) (defArgs (stm A 40)) (FuncBody.stmts (defBody (stm A 40))) (defScope (stm A 40)) 3 [] .none .none .none (.str (s A 49) 796) none (.ref 525) .none 0)) #[])
def o_608 (A : AT) (P : Params) : Obj := (Obj.mk (.type (t A 0)) none (.seq #[] 0) #[])
def o_609 (A : AT) (P : Params) : Obj := (Obj.mk .none none (.fields #[]) #[])
def o_610 (A : AT) (P : Params) : Obj := (Obj.mk .none none (.func (FuncData.mk (s A 57) (s A 57) (defArgs (stm A 41)) (FuncBody.stmts (defBody (stm A 41))) (defScope (stm A 41)) 0 [] .none .none .none .none none .none .none 0)) #[])
def o_611 (A : AT) (P : Params) : Obj := (Obj.mk (.type (t A 1)) none (.fields #[(.str (s A 57) 873), (.str (s A 57) 874), (.str (s A 4) 875), (.int 217 0), (.int 4 0), (.int 0 0), (.int 0 0), (.int 3 0), (.ref 527), (.bool true), (.int 181 0), (.ref 528), .none, .none, .none, (.ref 529), (.int 876 0), (.int 217 0), (.str (s A 4) 877)]) #[])
def o_612 (A : AT) (P : Params) : Obj := (Obj.mk (.type (t A 11)) none (.func (FuncData.mk (s A 57) (s A 57) (defArgs (stm A 41)) (FuncBody.stmts (defBody (stm A 41))) (defScope (stm A 41)) 3 [] .none .none .none (.str (s A 49) 796) none (.ref 530) .none 0)) #[])
def o_613 (A : AT) (P : Params) : Obj := (Obj.mk (.type (t A 0)) none (.seq #[] 0) #[])
def o_614 (A : AT) (P : Params) : Obj := (Obj.mk .none none (.fields #[]) #[])
def o_615 (A : AT) (P : Params) : Obj := (Obj.mk (.type (t A 0)) none (.seq #[(.str (s A 91) 882), (.str (s A 92) 883), (.str (s A 93) 884), (.str (s A 0) 885)] 0) #[])
def o_616 (A : AT) (P : Params) : Obj := (Obj.mk (.type (t A 0)) none (.seq #[] 0) #[])
def o_617 (A : AT) (P : Params) : Obj := (Obj.mk .none none (.func (FuncData.mk (s A 81) (s A 81) (defArgs (stm A 42)) (FuncBody.stmts (defBody (stm A 42))) (defScope (stm A 42)) 0 [] .none .none .none .none none .none .none 0)) #[])
def o_618 (A : AT) (P : Params) : Obj := (Obj.mk (.type (t A 1)) none (.fields #[(.str (s A 81) 879), (.str (s A 81) 880), (.str (s A 4) 881), (.int 228 0), (.int 2 0), (.int 0 0), (.int 0 0), (.int 3 0), (.ref 532), (.bool true), (.int 181 0), (.ref 533), .none, (.ref 534), (.ref 535), (.ref 536), (.int 886 0), (.int 228 0), (.str (s A 4) 887)]) #[])
def o_619 (A : AT) (P : Params) : Obj := (Obj.mk (.type (t A 11)) none (.func (FuncData.mk (s A 81) (s A 81) (defArgs (stm A 42)) (FuncBody.stmts (defBody (stm A 42))) (defScope (stm A 42)) 3 [] .none .none .none (.str (s A 49) 796) none (.ref 537) .none 0)) #[])
def o_620 (A : AT) (P : Params) : Obj := (Obj.mk (.type (t A 2)) none (.dict #[(DictEntry.mk (keyHash P (s A 5)) (.str (s A 5) 165) (.str (s A 49) 796)), (DictEntry.mk (keyHash P (s A 7)) (.str (s A 7) 166) .none), (DictEntry.mk (keyHash P (s A 8)) (.str (s A 8) 167) .none), (DictEntry.mk (keyHash P (s A 9)) (.str (s A 9) 168) (.builtin (t A 3))), (DictEntry.mk (keyHash P (s A 10)) (.str (s A 10) 169) .none), (DictEntry.mk (keyHash P (s A 11)) (.str (s A 11) 170) (.ref 6)), (DictEntry.mk (keyHash P (s A 12)) (.str (s A 12) 171) (.ref 4)), (DictEntry.mk (keyHash P (s A 13)) (.str (s A 13) 173) (.str (s A 4) 172)), (DictEntry.mk (keyHash P (s A 14)) (.str (s A 14) 174) .none), (DictEntry.mk (keyHash P (s A 15)) (.str (s A 15) 193) (.ref 21)), (DictEntry.mk (keyHash P (s A 16)) (.str (s A 16) 213) (.ref 31)), (DictEntry.mk (keyHash P (s A 17)) (.str (s A 17) 229) (.ref 44)), (DictEntry.mk (keyHash P (s A 18)) (.str (s A 18) 245) (.ref 56)), (DictEntry.mk (keyHash P (s A 19)) (.str (s A 19) 261) (.ref 68)), (DictEntry.mk (keyHash P (s A 20)) (.str (s A 20) 277) (.ref 80)), (DictEntry.mk (keyHash P (s A 21)) (.str (s A 21) 293) (.ref 92)), (DictEntry.mk (keyHash P (s A 22)) (.str (s A 22) 319) (.ref 112)), (DictEntry.mk (keyHash P (s A 23)) (.str (s A 23) 328) (.ref 121)), (DictEntry.mk (keyHash P (s A 24)) (.str (s A 24) 336) (.ref 128)), (DictEntry.mk (keyHash P (s A 25)) (.str (s A 25) 340) (.str (s A 26) 339)), (DictEntry.mk (keyHash P (s A 27)) (.str (s A 27) 342) (.int 8 341)), (DictEntry.mk (keyHash P (s A 28)) (.str (s A 28) 348) (.ref 133)), (DictEntry.mk (keyHash P (s A 52)) (.str (s A 52) 381) (.ref 150)), (DictEntry.mk (keyHash P (s A 53)) (.str (s A 53) 389) (.ref 159)), (DictEntry.mk (keyHash P (s A 54)) (.str (s A 54) 411) (.ref 169)), (DictEntry.mk (keyHash P (s A 47)) (.str (s A 47) 455) (.ref 204)), (DictEntry.mk (keyHash P (s A 55)) (.str (s A 55) 508) (.ref 244)), (DictEntry.mk (keyHash P (s A 65)) (.str (s A 65) 561) (.ref 284)), (DictEntry.mk (keyHash P (s A 64)) (.str (s A 64) 614) (.ref 324)), (DictEntry.mk (keyHash P (s A 46)) (.str (s A 46) 667) (.ref 364)), (DictEntry.mk (keyHash P (s A 101)) (.str (s A 101) 720) (.ref 404)), (DictEntry.mk (keyHash P (s A 66)) (.str (s A 66) 773) (.ref 444)), (DictEntry.mk (keyHash P (s A 102)) (.str (s A 102) 780) (.ref 453)), (DictEntry.mk (keyHash P (s A 103)) (.str (s A 103) 787) (.ref 460)), (DictEntry.mk (keyHash P (s A 45)) (.str (s A 45) 795) (.ref 467)), (DictEntry.mk (keyHash P (s A 97)) (.str (s A 97) 805) (.ref 474)), (DictEntry.mk (keyHash P (s A 50)) (.str (s A 50) 812) (.ref 481)), (DictEntry.mk (keyHash P (s A 79)) (.str (s A 79) 822) (.ref 488)), (DictEntry.mk (keyHash P (s A 104)) (.str (s A 104) 828) (.ref 493)), (DictEntry.mk (keyHash P (s A 105)) (.str (s A 105) 839) (.ref 500)), (DictEntry.mk (keyHash P (s A 106)) (.str (s A 106) 847) (.ref 507)), (DictEntry.mk (keyHash P (s A 56)) (.str (s A 56) 853) (.ref 512)), (DictEntry.mk (keyHash P (s A 59)) (.str (s A 59) 861) (.ref 519)), (DictEntry.mk (keyHash P (s A 107)) (.str (s A 107) 872) (.ref 526)), (DictEntry.mk (keyHash P (s A 57)) (.str (s A 57) 878) (.ref 531)), (DictEntry.mk (keyHash P (s A 81)) (.str (s A 81) 888) (.ref 538)), (DictEntry.mk (keyHash P (s A 43)) (.str (s A 43) 894) (.ref 543)), (DictEntry.mk (keyHash P (s A 80)) (.str (s A 80) 900) (.ref 548))] 48) #[])
def o_621 (A : AT) (P : Params) : Obj := (Obj.mk .none none (.fields #[(.int 1 0), (.int 0 0), (.ref 20), (.int 5 0), (.int 0 0), (.ref 27), (.int 7 0), (.int 0 0), (.ref 40), (.int 9 0), (.int 0 0), (.ref 52), (.int 11 0), (.int 0 0), (.ref 64), (.int 13 0), (.int 0 0), (.ref 76), (.int 15 0), (.int 0 0), (.ref 88), (.int 17 0), (.int 0 0), (.ref 100), (.int 22 0), (.int 0 0), (.ref 120), (.int 24 0), (.int 0 0), (.ref 127), (.int 29 0), (.int 0 0), (.ref 132), (.int 33 0), (.int 0 0), (.ref 139), (.int 44 0), (.int 0 0), (.ref 158), (.int 49 0), (.int 0 0), (.ref 165), (.int 51 0), (.int 0 0), (.ref 179), (.int 61 0), (.int 0 0), (.ref 212), (.int 75 0), (.int 0 0), (.ref 252), (.int 89 0), (.int 0 0), (.ref 292), (.int 104 0), (.int 0 0), (.ref 332), (.int 118 0), (.int 0 0), (.ref 372), (.int 132 0), (.int 0 0), (.ref 412), (.int 146 0), (.int 0 0), (.ref 452), (.int 149 0), (.int 0 0), (.ref 459), (.int 152 0), (.int 0 0), (.ref 466), (.int 158 0), (.int 0 0), (.ref 473), (.int 162 0), (.int 0 0), (.ref 480), (.int 164 0), (.int 0 0), (.ref 487), (.int 174 0), (.int 0 0), (.ref 492), (.int 185 0), (.int 0 0), (.ref 499), (.int 192 0), (.int 0 0), (.ref 506), (.int 195 0), (.int 0 0), (.ref 511), (.int 197 0), (.int 0 0), (.ref 518), (.int 209 0), (.int 0 0), (.ref 525), (.int 217 0), (.int 0 0), (.ref 530), (.int 228 0), (.int 0 0), (.ref 537), (.int 236 0), (.int 0 0), (.ref 542), (.int 245 0), (.int 0 0), (.ref 547)]) #[])
def o_622 (A : AT) (P : Params) : Obj := (Obj.mk (.type (t A 0)) none (.seq #[] 0) #[])
def o_623 (A : AT) (P : Params) : Obj := (Obj.mk .none none (.fields #[]) #[])
def o_624 (A : AT) (P : Params) : Obj := (Obj.mk .none none (.func (FuncData.mk (s A 43) (s A 43) (defArgs (stm A 43)) (FuncBody.stmts (defBody (stm A 43))) (defScope (stm A 43)) 0 [] .none .none .none .none none .none .none 0)) #[])
def o_625 (A : AT) (P : Params) : Obj := (Obj.mk (.type (t A 1)) none (.fields #[(.str (s A 43) 889), (.str (s A 43) 890), (.str (s A 4) 891), (.int 236 0), (.int 2 0), (.int 0 0), (.int 0 0), (.int 3 0), (.ref 539), (.bool true), (.int 181 0), (.ref 540), .none, .none, .none, (.ref 541), (.int 892 0), (.int 236 0), (.str (s A 4) 893)]) #[])
def o_626 (A : AT) (P : Params) : Obj := (Obj.mk (.type (t A 11)) none (.func (FuncData.mk (s A 43) (s A 43) (defArgs (stm A 43)) (FuncBody.stmts (defBody (stm A 43))) (defScope (stm A 43)) 3 [] .none .none .none (.str (s A 49) 796) none (.ref 542) .none 0)) #[])
def o_627 (A : AT) (P : Params) : Obj := (Obj.mk (.type (t A 0)) none (.seq #[] 0) #[])
def o_628 (A : AT) (P : Params) : Obj := (Obj.mk .none none (.fields #[]) #[])
def o_629 (A : AT) (P : Params) : Obj := (Obj.mk .none none (.func (FuncData.mk (s A 80) (s A 80) (defArgs (stm A 44)) (FuncBody.stmts (defBody (stm A 44))) (defScope (stm A 44)) 0 [] .none .none .none .none none .none .none 0)) #[])
def o_630 (A : AT) (P : Params) : Obj := (Obj.mk (.type (t A 1)) none (.fields #[(.str (s A 80) 895), (.str (s A 80) 896), (.str (s A 4) 897), (.int 245 0), (.int 1 0), (.int 0 0), (.int 0 0), (.int 3 0), (.ref 544), (.bool true), (.int 181 0), (.ref 545), .none, .none, .none, (.ref 546), (.int 898 0), (.int 245 0), (.str (s A 4) 899)]) #[])
def o_631 (A : AT) (P : Params) : Obj := (Obj.mk (.type (t A 11)) none (.func (FuncData.mk (s A 80) (s A 80) (defArgs (stm A 44)) (FuncBody.stmts (defBody (stm A 44))) (defScope (stm A 44)) 3 [] .none .none .none (.str (s A 49) 796) none (.ref 547) .none 0)) #[])
def tree_631 (A : AT) : Params → PySem.W.BT := (fun P => (N (boot_o_0 P) (N (boot_o_1 P) (N (o_620 A P) (N (boot_o_7 P) (N (o_51 A P) (N (o_148 A P) (N (o_108 A P) (N (o_181 A P) (N (o_322 A P) (N (o_592 A P) L L) L) (N (o_459 A P) L L)) (N (o_252 A P) (N (o_389 A P) L L) (N (o_526 A P) L L))) (N (o_149 A P) (N (o_215 A P) (N (o_357 A P) (N (o_626 A P) L L) L) (N (o_494 A P) L L)) (N (o_287 A P) (N (o_424 A P) L L) (N (o_560 A P) L L)))) (N (o_89 A P) (N (o_127 A P) (N (o_199 A P) (N (o_338 A P) (N (o_608 A P) L L) L) (N (o_475 A P) L L)) (N (o_271 A P) (N (o_408 A P) L L) (N (o_544 A P) L L))) (N (o_165 A P) (N (o_236 A P) (N (o_373 A P) L L) (N (o_510 A P) L L)) (N (o_303 A P) (N (o_443 A P) L L) (N (o_576 A P) L L))))) (N (o_59 A P) (N (o_78 A P) (N (o_119 A P) (N (o_191 A P) (N (o_330 A P) (N (o_600 A P) L L) L) (N (o_467 A P) L L)) (N (o_260 A P) (N (o_400 A P) L L) (N (o_536 A P) L L))) (N (o_157 A P) (N (o_225 A P) (N (o_365 A P) L L) (N (o_502 A P) L L)) (N (o_295 A P) (N (o_432 A P) L L) (N (o_568 A P) L L)))) (N (o_97 A P) (N (o_138 A P) (N (o_207 A P) (N (o_346 A P) (N (o_616 A P) L L) L) (N (o_486 A P) L L)) (N (o_279 A P) (N (o_416 A P) L L) (N (o_552 A P) L L))) (N (o_173 A P) (N (o_244 A P) (N (o_381 A P) L L) (N (o_518 A P) L L)) (N (o_314 A P) (N (o_451 A P) L L) (N (o_584 A P) L L)))))) (N (o_43 A P) (N (o_55 A P) (N (o_74 A P) (N (o_112 A P) (N (o_185 A P) (N (o_326 A P) (N (o_596 A P) L L) L) (N (o_463 A P) L L)) (N (o_256 A P) (N (o_393 A P) L L) (N (o_530 A P) L L))) (N (o_153 A P) (N (o_221 A P) (N (o_361 A P) (N (o_630 A P) L L) L) (N (o_498 A P) L L)) (N (o_291 A P) (N (o_428 A P) L L) (N (o_564 A P) L L)))) (N (o_93 A P) (N (o_134 A P) (N (o_203 A P) (N (o_342 A P) (N (o_612 A P) L L) L) (N (o_479 A P) L L)) (N (o_275 A P) (N (o_412 A P) L L) (N (o_548 A P) L L))) (N (o_169 A P) (N (o_240 A P) (N (o_377 A P) L L) (N (o_514 A P) L L)) (N (o_307 A P) (N (o_447 A P) L L) (N (o_580 A P) L L))))) (N (o_63 A P) (N (o_82 A P) (N (o_123 A P) (N (o_195 A P) (N (o_334 A P) (N (o_604 A P) L L) L) (N (o_471 A P) L L)) (N (o_264 A P) (N (o_404 A P) L L) (N (o_540 A P) L L))) (N (o_161 A P) (N (o_229 A P) (N (o_369 A P) L L) (N (o_506 A P) L L)) (N (o_299 A P) (N (o_436 A P) L L) (N (o_572 A P) L L)))) (N (o_104 A P) (N (o_142 A P) (N (o_211 A P) (N (o_350 A P) (N (o_622 A P) L L) L) (N (o_490 A P) L L)) (N (o_283 A P) (N (o_420 A P) L L) (N (o_556 A P) L L))) (N (o_177 A P) (N (o_248 A P) (N (o_385 A P) L L) (N (o_522 A P) L L)) (N (o_318 A P) (N (o_455 A P) L L) (N (o_588 A P) L L))))))) (N (boot_o_5 P) (N (boot_o_9 P) (N (o_53 A P) (N (o_69 A P) (N (o_110 A P) (N (o_183 A P) (N (o_324 A P) (N (o_594 A P) L L) L) (N (o_461 A P) L L)) (N (o_254 A P) (N (o_391 A P) L L) (N (o_528 A P) L L))) (N (o_151 A P) (N (o_219 A P) (N (o_359 A P) (N (o_628 A P) L L) L) (N (o_496 A P) L L)) (N (o_289 A P) (N (o_426 A P) L L) (N (o_562 A P) L L)))) (N (o_91 A P) (N (o_129 A P) (N (o_201 A P) (N (o_340 A P) (N (o_610 A P) L L) L) (N (o_477 A P) L L)) (N (o_273 A P) (N (o_410 A P) L L) (N (o_546 A P) L L))) (N (o_167 A P) (N (o_238 A P) (N (o_375 A P) L L) (N (o_512 A P) L L)) (N (o_305 A P) (N (o_445 A P) L L) (N (o_578 A P) L L))))) (N (o_61 A P) (N (o_80 A P) (N (o_121 A P) (N (o_193 A P) (N (o_332 A P) (N (o_602 A P) L L) L) (N (o_469 A P) L L)) (N (o_262 A P) (N (o_402 A P) L L) (N (o_538 A P) L L))) (N (o_159 A P) (N (o_485 A P) (N (o_367 A P) L L) (N (o_504 A P) L L)) (N (o_297 A P) (N (o_434 A P) L L) (N (o_570 A P) L L)))) (N (o_99 A P) (N (o_140 A P) (N (o_209 A P) (N (o_348 A P) (N (o_618 A P) L L) L) (N (o_488 A P) L L)) (N (o_281 A P) (N (o_418 A P) L L) (N (o_554 A P) L L))) (N (o_175 A P) (N (o_246 A P) (N (o_383 A P) L L) (N (o_520 A P) L L)) (N (o_316 A P) (N (o_453 A P) L L) (N (o_586 A P) L L)))))) (N (o_45 A P) (N (o_57 A P) (N (o_76 A P) (N (o_114 A P) (N (o_187 A P) (N (o_328 A P) (N (o_598 A P) L L) L) (N (o_465 A P) L L)) (N (o_258 A P) (N (o_395 A P) L L) (N (o_532 A P) L L))) (N (o_155 A P) (N (o_223 A P) (N (o_363 A P) L L) (N (o_500 A P) L L)) (N (o_293 A P) (N (o_430 A P) L L) (N (o_566 A P) L L)))) (N (o_95 A P) (N (o_136 A P) (N (o_205 A P) (N (o_344 A P) (N (o_614 A P) L L) L) (N (o_481 A P) L L)) (N (o_277 A P) (N (o_414 A P) L L) (N (o_550 A P) L L))) (N (o_171 A P) (N (o_242 A P) (N (o_379 A P) L L) (N (o_516 A P) L L)) (N (o_309 A P) (N (o_449 A P) L L) (N (o_582 A P) L L))))) (N (o_65 A P) (N (o_84 A P) (N (o_125 A P) (N (o_197 A P) (N (o_336 A P) (N (o_606 A P) L L) L) (N (o_473 A P) L L)) (N (o_266 A P) (N (o_406 A P) L L) (N (o_542 A P) L L))) (N (o_163 A P) (N (o_231 A P) (N (o_371 A P) L L) (N (o_508 A P) L L)) (N (o_301 A P) (N (o_438 A P) L L) (N (o_574 A P) L L)))) (N (o_106 A P) (N (o_144 A P) (N (o_213 A P) (N (o_352 A P) (N (o_624 A P) L L) L) (N (o_492 A P) L L)) (N (o_285 A P) (N (o_422 A P) L L) (N (o_558 A P) L L))) (N (o_179 A P) (N (o_250 A P) (N (o_387 A P) L L) (N (o_524 A P) L L)) (N (o_320 A P) (N (o_457 A P) L L) (N (o_590 A P) L L)))))))) (N (boot_o_2 P) (N (boot_o_4 P) (N (boot_o_8 P) (N (o_52 A P) (N (o_68 A P) (N (o_109 A P) (N (o_182 A P) (N (o_323 A P) (N (o_593 A P) L L) L) (N (o_460 A P) L L)) (N (o_253 A P) (N (o_390 A P) L L) (N (o_527 A P) L L))) (N (o_150 A P) (N (o_218 A P) (N (o_358 A P) (N (o_627 A P) L L) L) (N (o_495 A P) L L)) (N (o_288 A P) (N (o_425 A P) L L) (N (o_561 A P) L L)))) (N (o_90 A P) (N (o_128 A P) (N (o_200 A P) (N (o_339 A P) (N (o_609 A P) L L) L) (N (o_476 A P) L L)) (N (o_272 A P) (N (o_409 A P) L L) (N (o_545 A P) L L))) (N (o_166 A P) (N (o_237 A P) (N (o_374 A P) L L) (N (o_511 A P) L L)) (N (o_304 A P) (N (o_444 A P) L L) (N (o_577 A P) L L))))) (N (o_60 A P) (N (o_79 A P) (N (o_120 A P) (N (o_192 A P) (N (o_331 A P) (N (o_601 A P) L L) L) (N (o_468 A P) L L)) (N (o_261 A P) (N (o_401 A P) L L) (N (o_537 A P) L L))) (N (o_158 A P) (N (o_226 A P) (N (o_366 A P) L L) (N (o_503 A P) L L)) (N (o_296 A P) (N (o_433 A P) L L) (N (o_569 A P) L L)))) (N (o_98 A P) (N (o_139 A P) (N (o_208 A P) (N (o_347 A P) (N (o_617 A P) L L) L) (N (o_487 A P) L L)) (N (o_280 A P) (N (o_417 A P) L L) (N (o_553 A P) L L))) (N (o_174 A P) (N (o_245 A P) (N (o_382 A P) L L) (N (o_519 A P) L L)) (N (o_315 A P) (N (o_452 A P) L L) (N (o_585 A P) L L)))))) (N (o_621 A P) (N (o_56 A P) (N (o_75 A P) (N (o_113 A P) (N (o_186 A P) (N (o_327 A P) (N (o_597 A P) L L) L) (N (o_464 A P) L L)) (N (o_257 A P) (N (o_394 A P) L L) (N (o_531 A P) L L))) (N (o_154 A P) (N (o_222 A P) (N (o_362 A P) (N (o_631 A P) L L) L) (N (o_499 A P) L L)) (N (o_292 A P) (N (o_429 A P) L L) (N (o_565 A P) L L)))) (N (o_94 A P) (N (o_135 A P) (N (o_204 A P) (N (o_343 A P) (N (o_613 A P) L L) L) (N (o_480 A P) L L)) (N (o_276 A P) (N (o_413 A P) L L) (N (o_549 A P) L L))) (N (o_170 A P) (N (o_241 A P) (N (o_378 A P) L L) (N (o_515 A P) L L)) (N (o_308 A P) (N (o_448 A P) L L) (N (o_581 A P) L L))))) (N (o_64 A P) (N (o_83 A P) (N (o_124 A P) (N (o_196 A P) (N (o_335 A P) (N (o_605 A P) L L) L) (N (o_472 A P) L L)) (N (o_265 A P) (N (o_405 A P) L L) (N (o_541 A P) L L))) (N (o_162 A P) (N (o_230 A P) (N (o_370 A P) L L) (N (o_507 A P) L L)) (N (o_300 A P) (N (o_437 A P) L L) (N (o_573 A P) L L)))) (N (o_105 A P) (N (o_143 A P) (N (o_212 A P) (N (o_351 A P) (N (o_623 A P) L L) L) (N (o_491 A P) L L)) (N (o_284 A P) (N (o_421 A P) L L) (N (o_557 A P) L L))) (N (o_178 A P) (N (o_249 A P) (N (o_386 A P) L L) (N (o_523 A P) L L)) (N (o_319 A P) (N (o_456 A P) L L) (N (o_589 A P) L L))))))) (N (boot_o_6 P) (N (boot_o_10 P) (N (o_54 A P) (N (o_70 A P) (N (o_111 A P) (N (o_184 A P) (N (o_325 A P) (N (o_595 A P) L L) L) (N (o_462 A P) L L)) (N (o_255 A P) (N (o_392 A P) L L) (N (o_529 A P) L L))) (N (o_152 A P) (N (o_220 A P) (N (o_360 A P) (N (o_629 A P) L L) L) (N (o_497 A P) L L)) (N (o_290 A P) (N (o_427 A P) L L) (N (o_563 A P) L L)))) (N (o_92 A P) (N (o_130 A P) (N (o_202 A P) (N (o_341 A P) (N (o_611 A P) L L) L) (N (o_478 A P) L L)) (N (o_274 A P) (N (o_411 A P) L L) (N (o_547 A P) L L))) (N (o_168 A P) (N (o_239 A P) (N (o_376 A P) L L) (N (o_513 A P) L L)) (N (o_306 A P) (N (o_446 A P) L L) (N (o_579 A P) L L))))) (N (o_62 A P) (N (o_81 A P) (N (o_122 A P) (N (o_194 A P) (N (o_333 A P) (N (o_603 A P) L L) L) (N (o_470 A P) L L)) (N (o_263 A P) (N (o_403 A P) L L) (N (o_539 A P) L L))) (N (o_160 A P) (N (o_228 A P) (N (o_368 A P) L L) (N (o_505 A P) L L)) (N (o_298 A P) (N (o_435 A P) L L) (N (o_571 A P) L L)))) (N (o_100 A P) (N (o_141 A P) (N (o_210 A P) (N (o_349 A P) (N (o_619 A P) L L) L) (N (o_489 A P) L L)) (N (o_282 A P) (N (o_419 A P) L L) (N (o_555 A P) L L))) (N (o_176 A P) (N (o_247 A P) (N (o_384 A P) L L) (N (o_521 A P) L L)) (N (o_317 A P) (N (o_454 A P) L L) (N (o_587 A P) L L)))))) (N (o_46 A P) (N (o_58 A P) (N (o_77 A P) (N (o_115 A P) (N (o_190 A P) (N (o_329 A P) (N (o_599 A P) L L) L) (N (o_466 A P) L L)) (N (o_259 A P) (N (o_396 A P) L L) (N (o_535 A P) L L))) (N (o_156 A P) (N (o_224 A P) (N (o_364 A P) L L) (N (o_501 A P) L L)) (N (o_294 A P) (N (o_431 A P) L L) (N (o_567 A P) L L)))) (N (o_96 A P) (N (o_137 A P) (N (o_206 A P) (N (o_345 A P) (N (o_615 A P) L L) L) (N (o_482 A P) L L)) (N (o_278 A P) (N (o_415 A P) L L) (N (o_551 A P) L L))) (N (o_172 A P) (N (o_243 A P) (N (o_380 A P) L L) (N (o_517 A P) L L)) (N (o_310 A P) (N (o_450 A P) L L) (N (o_583 A P) L L))))) (N (o_66 A P) (N (o_85 A P) (N (o_126 A P) (N (o_198 A P) (N (o_337 A P) (N (o_607 A P) L L) L) (N (o_474 A P) L L)) (N (o_267 A P) (N (o_407 A P) L L) (N (o_543 A P) L L))) (N (o_164 A P) (N (o_235 A P) (N (o_372 A P) L L) (N (o_509 A P) L L)) (N (o_302 A P) (N (o_439 A P) L L) (N (o_575 A P) L L)))) (N (o_107 A P) (N (o_145 A P) (N (o_214 A P) (N (o_353 A P) (N (o_625 A P) L L) L) (N (o_493 A P) L L)) (N (o_286 A P) (N (o_423 A P) L L) (N (o_559 A P) L L))) (N (o_180 A P) (N (o_251 A P) (N (o_388 A P) L L) (N (o_525 A P) L L)) (N (o_321 A P) (N (o_458 A P) L L) (N (o_591 A P) L L))))))))))
def tree_100 (A : AT) : Params → PySem.W.BT := (fun P => (N (boot_o_0 P) (N (boot_o_1 P) (N (o_86 A P) (N (boot_o_7 P) (N (o_51 A P) (N (o_88 A P) L L) (N (o_89 A P) L L)) (N (o_59 A P) (N (o_78 A P) L L) (N (o_97 A P) L L))) (N (o_43 A P) (N (o_55 A P) (N (o_74 A P) L L) (N (o_93 A P) L L)) (N (o_63 A P) (N (o_82 A P) L L) L))) (N (boot_o_5 P) (N (boot_o_9 P) (N (o_53 A P) (N (o_69 A P) L L) (N (o_91 A P) L L)) (N (o_61 A P) (N (o_80 A P) L L) (N (o_99 A P) L L))) (N (o_45 A P) (N (o_57 A P) (N (o_76 A P) L L) (N (o_95 A P) L L)) (N (o_65 A P) (N (o_84 A P) L L) L)))) (N (boot_o_2 P) (N (boot_o_4 P) (N (boot_o_8 P) (N (o_52 A P) (N (o_68 A P) L L) (N (o_90 A P) L L)) (N (o_60 A P) (N (o_79 A P) L L) (N (o_98 A P) L L))) (N (o_87 A P) (N (o_56 A P) (N (o_75 A P) L L) (N (o_94 A P) L L)) (N (o_64 A P) (N (o_83 A P) L L) L))) (N (boot_o_6 P) (N (boot_o_10 P) (N (o_54 A P) (N (o_70 A P) L L) (N (o_92 A P) L L)) (N (o_62 A P) (N (o_81 A P) L L) (N (o_100 A P) L L))) (N (o_46 A P) (N (o_58 A P) (N (o_77 A P) L L) (N (o_96 A P) L L)) (N (o_66 A P) (N (o_85 A P) L L) L))))))
def heap_632 (A : AT) : Params → PySem.Heap := (fun P => (Heap.mk (Array.mk [(boot_o_0 P), (boot_o_1 P), (boot_o_2 P), (o_620 A P), (boot_o_4 P), (boot_o_5 P), (boot_o_6 P), (boot_o_7 P), (boot_o_8 P), (boot_o_9 P), (boot_o_10 P), (o_43 A P), (o_621 A P), (o_45 A P), (o_46 A P), (o_51 A P), (o_52 A P), (o_53 A P), (o_54 A P), (o_55 A P), (o_56 A P), (o_57 A P), (o_58 A P), (o_59 A P), (o_60 A P), (o_61 A P), (o_62 A P), (o_63 A P), (o_64 A P), (o_65 A P), (o_66 A P), (o_148 A P), (o_68 A P), (o_69 A P), (o_70 A P), (o_74 A P), (o_75 A P), (o_76 A P), (o_77 A P), (o_78 A P), (o_79 A P), (o_80 A P), (o_81 A P), (o_82 A P), (o_83 A P), (o_84 A P), (o_85 A P), (o_89 A P), (o_90 A P), (o_91 A P), (o_92 A P), (o_93 A P), (o_94 A P), (o_95 A P), (o_96 A P), (o_97 A P), (o_98 A P), (o_99 A P), (o_100 A P), (o_104 A P), (o_105 A P), (o_106 A P), (o_107 A P), (o_108 A P), (o_109 A P), (o_110 A P), (o_111 A P), (o_112 A P), (o_113 A P), (o_114 A P), (o_115 A P), (o_119 A P), (o_120 A P), (o_121 A P), (o_122 A P), (o_123 A P), (o_124 A P), (o_125 A P), (o_126 A P), (o_127 A P), (o_128 A P), (o_129 A P), (o_130 A P), (o_134 A P), (o_135 A P), (o_136 A P), (o_137 A P), (o_138 A P), (o_139 A P), (o_140 A P), (o_141 A P), (o_142 A P), (o_143 A P), (o_144 A P), (o_145 A P), (o_149 A P), (o_150 A P), (o_151 A P), (o_152 A P), (o_153 A P), (o_154 A P), (o_155 A P), (o_156 A P), (o_157 A P), (o_158 A P), (o_159 A P), (o_160 A P), (o_161 A P), (o_162 A P), (o_163 A P), (o_164 A P), (o_165 A P), (o_166 A P), (o_167 A P), (o_168 A P), (o_169 A P), (o_170 A P), (o_171 A P), (o_172 A P), (o_173 A P), (o_174 A P), (o_175 A P), (o_176 A P), (o_177 A P), (o_178 A P), (o_179 A P), (o_180 A P), (o_181 A P), (o_182 A P), (o_183 A P), (o_184 A P), (o_185 A P), (o_186 A P), (o_187 A P), (o_190 A P), (o_191 A P), (o_192 A P), (o_193 A P), (o_194 A P), (o_195 A P), (o_196 A P), (o_197 A P), (o_198 A P), (o_199 A P), (o_200 A P), (o_201 A P), (o_202 A P), (o_203 A P), (o_204 A P), (o_205 A P), (o_206 A P), (o_207 A P), (o_208 A P), (o_209 A P), (o_210 A P), (o_211 A P), (o_212 A P), (o_213 A P), (o_214 A P), (o_215 A P), (o_218 A P), (o_219 A P), (o_220 A P), (o_221 A P), (o_222 A P), (o_223 A P), (o_224 A P), (o_225 A P), (o_226 A P), (o_485 A P), (o_228 A P), (o_229 A P), (o_230 A P), (o_231 A P), (o_235 A P), (o_236 A P), (o_237 A P), (o_238 A P), (o_239 A P), (o_240 A P), (o_241 A P), (o_242 A P), (o_243 A P), (o_244 A P), (o_245 A P), (o_246 A P), (o_247 A P), (o_248 A P), (o_249 A P), (o_250 A P), (o_251 A P), (o_252 A P), (o_253 A P), (o_254 A P), (o_255 A P), (o_256 A P), (o_257 A P), (o_258 A P), (o_259 A P), (o_260 A P), (o_261 A P), (o_262 A P), (o_263 A P), (o_264 A P), (o_265 A P), (o_266 A P), (o_267 A P), (o_271 A P), (o_272 A P), (o_273 A P), (o_274 A P), (o_275 A P), (o_276 A P), (o_277 A P), (o_278 A P), (o_279 A P), (o_280 A P), (o_281 A P), (o_282 A P), (o_283 A P), (o_284 A P), (o_285 A P), (o_286 A P), (o_287 A P), (o_288 A P), (o_289 A P), (o_290 A P), (o_291 A P), (o_292 A P), (o_293 A P), (o_294 A P), (o_295 A P), (o_296 A P), (o_297 A P), (o_298 A P), (o_299 A P), (o_300 A P), (o_301 A P), (o_302 A P), (o_303 A P), (o_304 A P), (o_305 A P), (o_306 A P), (o_307 A P), (o_308 A P), (o_309 A P), (o_310 A P), (o_314 A P), (o_315 A P), (o_316 A P), (o_317 A P), (o_318 A P), (o_319 A P), (o_320 A P), (o_321 A P), (o_322 A P), (o_323 A P), (o_324 A P), (o_325 A P), (o_326 A P), (o_327 A P), (o_328 A P), (o_329 A P), (o_330 A P), (o_331 A P), (o_332 A P), (o_333 A P), (o_334 A P), (o_335 A P), (o_336 A P), (o_337 A P), (o_338 A P), (o_339 A P), (o_340 A P), (o_341 A P), (o_342 A P), (o_343 A P), (o_344 A P), (o_345 A P), (o_346 A P), (o_347 A P), (o_348 A P), (o_349 A P), (o_350 A P), (o_351 A P), (o_352 A P), (o_353 A P), (o_357 A P), (o_358 A P), (o_359 A P), (o_360 A P), (o_361 A P), (o_362 A P), (o_363 A P), (o_364 A P), (o_365 A P), (o_366 A P), (o_367 A P), (o_368 A P), (o_369 A P), (o_370 A P), (o_371 A P), (o_372 A P), (o_373 A P), (o_374 A P), (o_375 A P), (o_376 A P), (o_377 A P), (o_378 A P), (o_379 A P), (o_380 A P), (o_381 A P), (o_382 A P), (o_383 A P), (o_384 A P), (o_385 A P), (o_386 A P), (o_387 A P), (o_388 A P), (o_389 A P), (o_390 A P), (o_391 A P), (o_392 A P), (o_393 A P), (o_394 A P), (o_395 A P), (o_396 A P), (o_400 A P), (o_401 A P), (o_402 A P), (o_403 A P), (o_404 A P), (o_405 A P), (o_406 A P), (o_407 A P), (o_408 A P), (o_409 A P), (o_410 A P), (o_411 A P), (o_412 A P), (o_413 A P), (o_414 A P), (o_415 A P), (o_416 A P), (o_417 A P), (o_418 A P), (o_419 A P), (o_420 A P), (o_421 A P), (o_422 A P), (o_423 A P), (o_424 A P), (o_425 A P), (o_426 A P), (o_427 A P), (o_428 A P), (o_429 A P), (o_430 A P), (o_431 A P), (o_432 A P), (o_433 A P), (o_434 A P), (o_435 A P), (o_436 A P), (o_437 A P), (o_438 A P), (o_439 A P), (o_443 A P), (o_444 A P), (o_445 A P), (o_446 A P), (o_447 A P), (o_448 A P), (o_449 A P), (o_450 A P), (o_451 A P), (o_452 A P), (o_453 A P), (o_454 A P), (o_455 A P), (o_456 A P), (o_457 A P), (o_458 A P), (o_459 A P), (o_460 A P), (o_461 A P), (o_462 A P), (o_463 A P), (o_464 A P), (o_465 A P), (o_466 A P), (o_467 A P), (o_468 A P), (o_469 A P), (o_470 A P), (o_471 A P), (o_472 A P), (o_473 A P), (o_474 A P), (o_475 A P), (o_476 A P), (o_477 A P), (o_478 A P), (o_479 A P), (o_480 A P), (o_481 A P), (o_482 A P), (o_486 A P), (o_487 A P), (o_488 A P), (o_489 A P), (o_490 A P), (o_491 A P), (o_492 A P), (o_493 A P), (o_494 A P), (o_495 A P), (o_496 A P), (o_497 A P), (o_498 A P), (o_499 A P), (o_500 A P), (o_501 A P), (o_502 A P), (o_503 A P), (o_504 A P), (o_505 A P), (o_506 A P), (o_507 A P), (o_508 A P), (o_509 A P), (o_510 A P), (o_511 A P), (o_512 A P), (o_513 A P), (o_514 A P), (o_515 A P), (o_516 A P), (o_517 A P), (o_518 A P), (o_519 A P), (o_520 A P), (o_521 A P), (o_522 A P), (o_523 A P), (o_524 A P), (o_525 A P), (o_526 A P), (o_527 A P), (o_528 A P), (o_529 A P), (o_530 A P), (o_531 A P), (o_532 A P), (o_535 A P), (o_536 A P), (o_537 A P), (o_538 A P), (o_539 A P), (o_540 A P), (o_541 A P), (o_542 A P), (o_543 A P), (o_544 A P), (o_545 A P), (o_546 A P), (o_547 A P), (o_548 A P), (o_549 A P), (o_550 A P), (o_551 A P), (o_552 A P), (o_553 A P), (o_554 A P), (o_555 A P), (o_556 A P), (o_557 A P), (o_558 A P), (o_559 A P), (o_560 A P), (o_561 A P), (o_562 A P), (o_563 A P), (o_564 A P), (o_565 A P), (o_566 A P), (o_567 A P), (o_568 A P), (o_569 A P), (o_570 A P), (o_571 A P), (o_572 A P), (o_573 A P), (o_574 A P), (o_575 A P), (o_576 A P), (o_577 A P), (o_578 A P), (o_579 A P), (o_580 A P), (o_581 A P), (o_582 A P), (o_583 A P), (o_584 A P), (o_585 A P), (o_586 A P), (o_587 A P), (o_588 A P), (o_589 A P), (o_590 A P), (o_591 A P), (o_592 A P), (o_593 A P), (o_594 A P), (o_595 A P), (o_596 A P), (o_597 A P), (o_598 A P), (o_599 A P), (o_600 A P), (o_601 A P), (o_602 A P), (o_603 A P), (o_604 A P), (o_605 A P), (o_606 A P), (o_607 A P), (o_608 A P), (o_609 A P), (o_610 A P), (o_611 A P), (o_612 A P), (o_613 A P), (o_614 A P), (o_615 A P), (o_616 A P), (o_617 A P), (o_618 A P), (o_619 A P), (o_622 A P), (o_623 A P), (o_624 A P), (o_625 A P), (o_626 A P), (o_627 A P), (o_628 A P), (o_629 A P), (o_630 A P), (o_631 A P)]) (Life.mk [] [] [] 0 [] [] false #[] [] 0 false false false 0 [2000, 10, 10] false 0 true [] [] 0 false)))
def tree_215 (A : AT) : Params → PySem.W.BT := (fun P => (N (boot_o_0 P) (N (boot_o_1 P) (N (o_188 A P) (N (boot_o_7 P) (N (o_51 A P) (N (o_148 A P) (N (o_108 A P) (N (o_181 A P) L L) L) (N (o_149 A P) (N (o_215 A P) L L) L)) (N (o_89 A P) (N (o_127 A P) (N (o_199 A P) L L) L) (N (o_165 A P) L L))) (N (o_59 A P) (N (o_78 A P) (N (o_119 A P) (N (o_191 A P) L L) L) (N (o_157 A P) L L)) (N (o_97 A P) (N (o_138 A P) (N (o_207 A P) L L) L) (N (o_173 A P) L L)))) (N (o_43 A P) (N (o_55 A P) (N (o_74 A P) (N (o_112 A P) (N (o_185 A P) L L) L) (N (o_153 A P) L L)) (N (o_93 A P) (N (o_134 A P) (N (o_203 A P) L L) L) (N (o_169 A P) L L))) (N (o_63 A P) (N (o_82 A P) (N (o_123 A P) (N (o_195 A P) L L) L) (N (o_161 A P) L L)) (N (o_104 A P) (N (o_142 A P) (N (o_211 A P) L L) L) (N (o_177 A P) L L))))) (N (boot_o_5 P) (N (boot_o_9 P) (N (o_53 A P) (N (o_69 A P) (N (o_110 A P) (N (o_183 A P) L L) L) (N (o_151 A P) L L)) (N (o_91 A P) (N (o_129 A P) (N (o_201 A P) L L) L) (N (o_167 A P) L L))) (N (o_61 A P) (N (o_80 A P) (N (o_121 A P) (N (o_193 A P) L L) L) (N (o_159 A P) L L)) (N (o_99 A P) (N (o_140 A P) (N (o_209 A P) L L) L) (N (o_175 A P) L L)))) (N (o_45 A P) (N (o_57 A P) (N (o_76 A P) (N (o_114 A P) (N (o_187 A P) L L) L) (N (o_155 A P) L L)) (N (o_95 A P) (N (o_136 A P) (N (o_205 A P) L L) L) (N (o_171 A P) L L))) (N (o_65 A P) (N (o_84 A P) (N (o_125 A P) (N (o_197 A P) L L) L) (N (o_163 A P) L L)) (N (o_106 A P) (N (o_144 A P) (N (o_213 A P) L L) L) (N (o_179 A P) L L)))))) (N (boot_o_2 P) (N (boot_o_4 P) (N (boot_o_8 P) (N (o_52 A P) (N (o_68 A P) (N (o_109 A P) (N (o_182 A P) L L) L) (N (o_150 A P) L L)) (N (o_90 A P) (N (o_128 A P) (N (o_200 A P) L L) L) (N (o_166 A P) L L))) (N (o_60 A P) (N (o_79 A P) (N (o_120 A P) (N (o_192 A P) L L) L) (N (o_158 A P) L L)) (N (o_98 A P) (N (o_139 A P) (N (o_208 A P) L L) L) (N (o_174 A P) L L)))) (N (o_189 A P) (N (o_56 A P) (N (o_75 A P) (N (o_113 A P) (N (o_186 A P) L L) L) (N (o_154 A P) L L)) (N (o_94 A P) (N (o_135 A P) (N (o_204 A P) L L) L) (N (o_170 A P) L L))) (N (o_64 A P) (N (o_83 A P) (N (o_124 A P) (N (o_196 A P) L L) L) (N (o_162 A P) L L)) (N (o_105 A P) (N (o_143 A P) (N (o_212 A P) L L) L) (N (o_178 A P) L L))))) (N (boot_o_6 P) (N (boot_o_10 P) (N (o_54 A P) (N (o_70 A P) (N (o_111 A P) (N (o_184 A P) L L) L) (N (o_152 A P) L L)) (N (o_92 A P) (N (o_130 A P) (N (o_202 A P) L L) L) (N (o_168 A P) L L))) (N (o_62 A P) (N (o_81 A P) (N (o_122 A P) (N (o_194 A P) L L) L) (N (o_160 A P) L L)) (N (o_100 A P) (N (o_141 A P) (N (o_210 A P) L L) L) (N (o_176 A P) L L)))) (N (o_46 A P) (N (o_58 A P) (N (o_77 A P) (N (o_115 A P) (N (o_190 A P) L L) L) (N (o_156 A P) L L)) (N (o_96 A P) (N (o_137 A P) (N (o_206 A P) L L) L) (N (o_172 A P) L L))) (N (o_66 A P) (N (o_85 A P) (N (o_126 A P) (N (o_198 A P) L L) L) (N (o_164 A P) L L)) (N (o_107 A P) (N (o_145 A P) (N (o_214 A P) L L) L) (N (o_180 A P) L L))))))))
def tree_396 (A : AT) : Params → PySem.W.BT := (fun P => (N (boot_o_0 P) (N (boot_o_1 P) (N (o_354 A P) (N (boot_o_7 P) (N (o_51 A P) (N (o_148 A P) (N (o_108 A P) (N (o_181 A P) (N (o_322 A P) L L) L) (N (o_252 A P) (N (o_389 A P) L L) L)) (N (o_149 A P) (N (o_215 A P) (N (o_357 A P) L L) L) (N (o_287 A P) L L))) (N (o_89 A P) (N (o_127 A P) (N (o_199 A P) (N (o_338 A P) L L) L) (N (o_271 A P) L L)) (N (o_165 A P) (N (o_236 A P) (N (o_373 A P) L L) L) (N (o_303 A P) L L)))) (N (o_59 A P) (N (o_78 A P) (N (o_119 A P) (N (o_191 A P) (N (o_330 A P) L L) L) (N (o_260 A P) L L)) (N (o_157 A P) (N (o_225 A P) (N (o_365 A P) L L) L) (N (o_295 A P) L L))) (N (o_97 A P) (N (o_138 A P) (N (o_207 A P) (N (o_346 A P) L L) L) (N (o_279 A P) L L)) (N (o_173 A P) (N (o_244 A P) (N (o_381 A P) L L) L) (N (o_314 A P) L L))))) (N (o_43 A P) (N (o_55 A P) (N (o_74 A P) (N (o_112 A P) (N (o_185 A P) (N (o_326 A P) L L) L) (N (o_256 A P) (N (o_393 A P) L L) L)) (N (o_153 A P) (N (o_221 A P) (N (o_361 A P) L L) L) (N (o_291 A P) L L))) (N (o_93 A P) (N (o_134 A P) (N (o_203 A P) (N (o_342 A P) L L) L) (N (o_275 A P) L L)) (N (o_169 A P) (N (o_240 A P) (N (o_377 A P) L L) L) (N (o_307 A P) L L)))) (N (o_63 A P) (N (o_82 A P) (N (o_123 A P) (N (o_195 A P) (N (o_334 A P) L L) L) (N (o_264 A P) L L)) (N (o_161 A P) (N (o_229 A P) (N (o_369 A P) L L) L) (N (o_299 A P) L L))) (N (o_104 A P) (N (o_142 A P) (N (o_211 A P) (N (o_350 A P) L L) L) (N (o_283 A P) L L)) (N (o_177 A P) (N (o_248 A P) (N (o_385 A P) L L) L) (N (o_318 A P) L L)))))) (N (boot_o_5 P) (N (boot_o_9 P) (N (o_53 A P) (N (o_69 A P) (N (o_110 A P) (N (o_183 A P) (N (o_324 A P) L L) L) (N (o_254 A P) (N (o_391 A P) L L) L)) (N (o_151 A P) (N (o_219 A P) (N (o_359 A P) L L) L) (N (o_289 A P) L L))) (N (o_91 A P) (N (o_129 A P) (N (o_201 A P) (N (o_340 A P) L L) L) (N (o_273 A P) L L)) (N (o_167 A P) (N (o_238 A P) (N (o_375 A P) L L) L) (N (o_305 A P) L L)))) (N (o_61 A P) (N (o_80 A P) (N (o_121 A P) (N (o_193 A P) (N (o_332 A P) L L) L) (N (o_262 A P) L L)) (N (o_159 A P) (N (o_356 A P) (N (o_367 A P) L L) L) (N (o_297 A P) L L))) (N (o_99 A P) (N (o_140 A P) (N (o_209 A P) (N (o_348 A P) L L) L) (N (o_281 A P) L L)) (N (o_175 A P) (N (o_246 A P) (N (o_383 A P) L L) L) (N (o_316 A P) L L))))) (N (o_45 A P) (N (o_57 A P) (N (o_76 A P) (N (o_114 A P) (N (o_187 A P) (N (o_328 A P) L L) L) (N (o_258 A P) (N (o_395 A P) L L) L)) (N (o_155 A P) (N (o_223 A P) (N (o_363 A P) L L) L) (N (o_293 A P) L L))) (N (o_95 A P) (N (o_136 A P) (N (o_205 A P) (N (o_344 A P) L L) L) (N (o_277 A P) L L)) (N (o_171 A P) (N (o_242 A P) (N (o_379 A P) L L) L) (N (o_309 A P) L L)))) (N (o_65 A P) (N (o_84 A P) (N (o_125 A P) (N (o_197 A P) (N (o_336 A P) L L) L) (N (o_266 A P) L L)) (N (o_163 A P) (N (o_231 A P) (N (o_371 A P) L L) L) (N (o_301 A P) L L))) (N (o_106 A P) (N (o_144 A P) (N (o_213 A P) (N (o_352 A P) L L) L) (N (o_285 A P) L L)) (N (o_179 A P) (N (o_250 A P) (N (o_387 A P) L L) L) (N (o_320 A P) L L))))))) (N (boot_o_2 P) (N (boot_o_4 P) (N (boot_o_8 P) (N (o_52 A P) (N (o_68 A P) (N (o_109 A P) (N (o_182 A P) (N (o_323 A P) L L) L) (N (o_253 A P) (N (o_390 A P) L L) L)) (N (o_150 A P) (N (o_218 A P) (N (o_358 A P) L L) L) (N (o_288 A P) L L))) (N (o_90 A P) (N (o_128 A P) (N (o_200 A P) (N (o_339 A P) L L) L) (N (o_272 A P) L L)) (N (o_166 A P) (N (o_237 A P) (N (o_374 A P) L L) L) (N (o_304 A P) L L)))) (N (o_60 A P) (N (o_79 A P) (N (o_120 A P) (N (o_192 A P) (N (o_331 A P) L L) L) (N (o_261 A P) L L)) (N (o_158 A P) (N (o_226 A P) (N (o_366 A P) L L) L) (N (o_296 A P) L L))) (N (o_98 A P) (N (o_139 A P) (N (o_208 A P) (N (o_347 A P) L L) L) (N (o_280 A P) L L)) (N (o_174 A P) (N (o_245 A P) (N (o_382 A P) L L) L) (N (o_315 A P) L L))))) (N (o_355 A P) (N (o_56 A P) (N (o_75 A P) (N (o_113 A P) (N (o_186 A P) (N (o_327 A P) L L) L) (N (o_257 A P) (N (o_394 A P) L L) L)) (N (o_154 A P) (N (o_222 A P) (N (o_362 A P) L L) L) (N (o_292 A P) L L))) (N (o_94 A P) (N (o_135 A P) (N (o_204 A P) (N (o_343 A P) L L) L) (N (o_276 A P) L L)) (N (o_170 A P) (N (o_241 A P) (N (o_378 A P) L L) L) (N (o_308 A P) L L)))) (N (o_64 A P) (N (o_83 A P) (N (o_124 A P) (N (o_196 A P) (N (o_335 A P) L L) L) (N (o_265 A P) L L)) (N (o_162 A P) (N (o_230 A P) (N (o_370 A P) L L) L) (N (o_300 A P) L L))) (N (o_105 A P) (N (o_143 A P) (N (o_212 A P) (N (o_351 A P) L L) L) (N (o_284 A P) L L)) (N (o_178 A P) (N (o_249 A P) (N (o_386 A P) L L) L) (N (o_319 A P) L L)))))) (N (boot_o_6 P) (N (boot_o_10 P) (N (o_54 A P) (N (o_70 A P) (N (o_111 A P) (N (o_184 A P) (N (o_325 A P) L L) L) (N (o_255 A P) (N (o_392 A P) L L) L)) (N (o_152 A P) (N (o_220 A P) (N (o_360 A P) L L) L) (N (o_290 A P) L L))) (N (o_92 A P) (N (o_130 A P) (N (o_202 A P) (N (o_341 A P) L L) L) (N (o_274 A P) L L)) (N (o_168 A P) (N (o_239 A P) (N (o_376 A P) L L) L) (N (o_306 A P) L L)))) (N (o_62 A P) (N (o_81 A P) (N (o_122 A P) (N (o_194 A P) (N (o_333 A P) L L) L) (N (o_263 A P) L L)) (N (o_160 A P) (N (o_228 A P) (N (o_368 A P) L L) L) (N (o_298 A P) L L))) (N (o_100 A P) (N (o_141 A P) (N (o_210 A P) (N (o_349 A P) L L) L) (N (o_282 A P) L L)) (N (o_176 A P) (N (o_247 A P) (N (o_384 A P) L L) L) (N (o_317 A P) L L))))) (N (o_46 A P) (N (o_58 A P) (N (o_77 A P) (N (o_115 A P) (N (o_190 A P) (N (o_329 A P) L L) L) (N (o_259 A P) (N (o_396 A P) L L) L)) (N (o_156 A P) (N (o_224 A P) (N (o_364 A P) L L) L) (N (o_294 A P) L L))) (N (o_96 A P) (N (o_137 A P) (N (o_206 A P) (N (o_345 A P) L L) L) (N (o_278 A P) L L)) (N (o_172 A P) (N (o_243 A P) (N (o_380 A P) L L) L) (N (o_310 A P) L L)))) (N (o_66 A P) (N (o_85 A P) (N (o_126 A P) (N (o_198 A P) (N (o_337 A P) L L) L) (N (o_267 A P) L L)) (N (o_164 A P) (N (o_235 A P) (N (o_372 A P) L L) L) (N (o_302 A P) L L))) (N (o_107 A P) (N (o_145 A P) (N (o_214 A P) (N (o_353 A P) L L) L) (N (o_286 A P) L L)) (N (o_180 A P) (N (o_251 A P) (N (o_388 A P) L L) L) (N (o_321 A P) L L)))))))))
def tree_532 (A : AT) : Params → PySem.W.BT := (fun P => (N (boot_o_0 P) (N (boot_o_1 P) (N (o_483 A P) (N (boot_o_7 P) (N (o_51 A P) (N (o_148 A P) (N (o_108 A P) (N (o_181 A P) (N (o_322 A P) L L) (N (o_459 A P) L L)) (N (o_252 A P) (N (o_389 A P) L L) (N (o_526 A P) L L))) (N (o_149 A P) (N (o_215 A P) (N (o_357 A P) L L) (N (o_494 A P) L L)) (N (o_287 A P) (N (o_424 A P) L L) L))) (N (o_89 A P) (N (o_127 A P) (N (o_199 A P) (N (o_338 A P) L L) (N (o_475 A P) L L)) (N (o_271 A P) (N (o_408 A P) L L) L)) (N (o_165 A P) (N (o_236 A P) (N (o_373 A P) L L) (N (o_510 A P) L L)) (N (o_303 A P) (N (o_443 A P) L L) L)))) (N (o_59 A P) (N (o_78 A P) (N (o_119 A P) (N (o_191 A P) (N (o_330 A P) L L) (N (o_467 A P) L L)) (N (o_260 A P) (N (o_400 A P) L L) L)) (N (o_157 A P) (N (o_225 A P) (N (o_365 A P) L L) (N (o_502 A P) L L)) (N (o_295 A P) (N (o_432 A P) L L) L))) (N (o_97 A P) (N (o_138 A P) (N (o_207 A P) (N (o_346 A P) L L) (N (o_486 A P) L L)) (N (o_279 A P) (N (o_416 A P) L L) L)) (N (o_173 A P) (N (o_244 A P) (N (o_381 A P) L L) (N (o_518 A P) L L)) (N (o_314 A P) (N (o_451 A P) L L) L))))) (N (o_43 A P) (N (o_55 A P) (N (o_74 A P) (N (o_112 A P) (N (o_185 A P) (N (o_326 A P) L L) (N (o_463 A P) L L)) (N (o_256 A P) (N (o_393 A P) L L) (N (o_530 A P) L L))) (N (o_153 A P) (N (o_221 A P) (N (o_361 A P) L L) (N (o_498 A P) L L)) (N (o_291 A P) (N (o_428 A P) L L) L))) (N (o_93 A P) (N (o_134 A P) (N (o_203 A P) (N (o_342 A P) L L) (N (o_479 A P) L L)) (N (o_275 A P) (N (o_412 A P) L L) L)) (N (o_169 A P) (N (o_240 A P) (N (o_377 A P) L L) (N (o_514 A P) L L)) (N (o_307 A P) (N (o_447 A P) L L) L)))) (N (o_63 A P) (N (o_82 A P) (N (o_123 A P) (N (o_195 A P) (N (o_334 A P) L L) (N (o_471 A P) L L)) (N (o_264 A P) (N (o_404 A P) L L) L)) (N (o_161 A P) (N (o_229 A P) (N (o_369 A P) L L) (N (o_506 A P) L L)) (N (o_299 A P) (N (o_436 A P) L L) L))) (N (o_104 A P) (N (o_142 A P) (N (o_211 A P) (N (o_350 A P) L L) (N (o_490 A P) L L)) (N (o_283 A P) (N (o_420 A P) L L) L)) (N (o_177 A P) (N (o_248 A P) (N (o_385 A P) L L) (N (o_522 A P) L L)) (N (o_318 A P) (N (o_455 A P) L L) L)))))) (N (boot_o_5 P) (N (boot_o_9 P) (N (o_53 A P) (N (o_69 A P) (N (o_110 A P) (N (o_183 A P) (N (o_324 A P) L L) (N (o_461 A P) L L)) (N (o_254 A P) (N (o_391 A P) L L) (N (o_528 A P) L L))) (N (o_151 A P) (N (o_219 A P) (N (o_359 A P) L L) (N (o_496 A P) L L)) (N (o_289 A P) (N (o_426 A P) L L) L))) (N (o_91 A P) (N (o_129 A P) (N (o_201 A P) (N (o_340 A P) L L) (N (o_477 A P) L L)) (N (o_273 A P) (N (o_410 A P) L L) L)) (N (o_167 A P) (N (o_238 A P) (N (o_375 A P) L L) (N (o_512 A P) L L)) (N (o_305 A P) (N (o_445 A P) L L) L)))) (N (o_61 A P) (N (o_80 A P) (N (o_121 A P) (N (o_193 A P) (N (o_332 A P) L L) (N (o_469 A P) L L)) (N (o_262 A P) (N (o_402 A P) L L) L)) (N (o_159 A P) (N (o_485 A P) (N (o_367 A P) L L) (N (o_504 A P) L L)) (N (o_297 A P) (N (o_434 A P) L L) L))) (N (o_99 A P) (N (o_140 A P) (N (o_209 A P) (N (o_348 A P) L L) (N (o_488 A P) L L)) (N (o_281 A P) (N (o_418 A P) L L) L)) (N (o_175 A P) (N (o_246 A P) (N (o_383 A P) L L) (N (o_520 A P) L L)) (N (o_316 A P) (N (o_453 A P) L L) L))))) (N (o_45 A P) (N (o_57 A P) (N (o_76 A P) (N (o_114 A P) (N (o_187 A P) (N (o_328 A P) L L) (N (o_465 A P) L L)) (N (o_258 A P) (N (o_395 A P) L L) (N (o_532 A P) L L))) (N (o_155 A P) (N (o_223 A P) (N (o_363 A P) L L) (N (o_500 A P) L L)) (N (o_293 A P) (N (o_430 A P) L L) L))) (N (o_95 A P) (N (o_136 A P) (N (o_205 A P) (N (o_344 A P) L L) (N (o_481 A P) L L)) (N (o_277 A P) (N (o_414 A P) L L) L)) (N (o_171 A P) (N (o_242 A P) (N (o_379 A P) L L) (N (o_516 A P) L L)) (N (o_309 A P) (N (o_449 A P) L L) L)))) (N (o_65 A P) (N (o_84 A P) (N (o_125 A P) (N (o_197 A P) (N (o_336 A P) L L) (N (o_473 A P) L L)) (N (o_266 A P) (N (o_406 A P) L L) L)) (N (o_163 A P) (N (o_231 A P) (N (o_371 A P) L L) (N (o_508 A P) L L)) (N (o_301 A P) (N (o_438 A P) L L) L))) (N (o_106 A P) (N (o_144 A P) (N (o_213 A P) (N (o_352 A P) L L) (N (o_492 A P) L L)) (N (o_285 A P) (N (o_422 A P) L L) L)) (N (o_179 A P) (N (o_250 A P) (N (o_387 A P) L L) (N (o_524 A P) L L)) (N (o_320 A P) (N (o_457 A P) L L) L))))))) (N (boot_o_2 P) (N (boot_o_4 P) (N (boot_o_8 P) (N (o_52 A P) (N (o_68 A P) (N (o_109 A P) (N (o_182 A P) (N (o_323 A P) L L) (N (o_460 A P) L L)) (N (o_253 A P) (N (o_390 A P) L L) (N (o_527 A P) L L))) (N (o_150 A P) (N (o_218 A P) (N (o_358 A P) L L) (N (o_495 A P) L L)) (N (o_288 A P) (N (o_425 A P) L L) L))) (N (o_90 A P) (N (o_128 A P) (N (o_200 A P) (N (o_339 A P) L L) (N (o_476 A P) L L)) (N (o_272 A P) (N (o_409 A P) L L) L)) (N (o_166 A P) (N (o_237 A P) (N (o_374 A P) L L) (N (o_511 A P) L L)) (N (o_304 A P) (N (o_444 A P) L L) L)))) (N (o_60 A P) (N (o_79 A P) (N (o_120 A P) (N (o_192 A P) (N (o_331 A P) L L) (N (o_468 A P) L L)) (N (o_261 A P) (N (o_401 A P) L L) L)) (N (o_158 A P) (N (o_226 A P) (N (o_366 A P) L L) (N (o_503 A P) L L)) (N (o_296 A P) (N (o_433 A P) L L) L))) (N (o_98 A P) (N (o_139 A P) (N (o_208 A P) (N (o_347 A P) L L) (N (o_487 A P) L L)) (N (o_280 A P) (N (o_417 A P) L L) L)) (N (o_174 A P) (N (o_245 A P) (N (o_382 A P) L L) (N (o_519 A P) L L)) (N (o_315 A P) (N (o_452 A P) L L) L))))) (N (o_484 A P) (N (o_56 A P) (N (o_75 A P) (N (o_113 A P) (N (o_186 A P) (N (o_327 A P) L L) (N (o_464 A P) L L)) (N (o_257 A P) (N (o_394 A P) L L) (N (o_531 A P) L L))) (N (o_154 A P) (N (o_222 A P) (N (o_362 A P) L L) (N (o_499 A P) L L)) (N (o_292 A P) (N (o_429 A P) L L) L))) (N (o_94 A P) (N (o_135 A P) (N (o_204 A P) (N (o_343 A P) L L) (N (o_480 A P) L L)) (N (o_276 A P) (N (o_413 A P) L L) L)) (N (o_170 A P) (N (o_241 A P) (N (o_378 A P) L L) (N (o_515 A P) L L)) (N (o_308 A P) (N (o_448 A P) L L) L)))) (N (o_64 A P) (N (o_83 A P) (N (o_124 A P) (N (o_196 A P) (N (o_335 A P) L L) (N (o_472 A P) L L)) (N (o_265 A P) (N (o_405 A P) L L) L)) (N (o_162 A P) (N (o_230 A P) (N (o_370 A P) L L) (N (o_507 A P) L L)) (N (o_300 A P) (N (o_437 A P) L L) L))) (N (o_105 A P) (N (o_143 A P) (N (o_212 A P) (N (o_351 A P) L L) (N (o_491 A P) L L)) (N (o_284 A P) (N (o_421 A P) L L) L)) (N (o_178 A P) (N (o_249 A P) (N (o_386 A P) L L) (N (o_523 A P) L L)) (N (o_319 A P) (N (o_456 A P) L L) L)))))) (N (boot_o_6 P) (N (boot_o_10 P) (N (o_54 A P) (N (o_70 A P) (N (o_111 A P) (N (o_184 A P) (N (o_325 A P) L L) (N (o_462 A P) L L)) (N (o_255 A P) (N (o_392 A P) L L) (N (o_529 A P) L L))) (N (o_152 A P) (N (o_220 A P) (N (o_360 A P) L L) (N (o_497 A P) L L)) (N (o_290 A P) (N (o_427 A P) L L) L))) (N (o_92 A P) (N (o_130 A P) (N (o_202 A P) (N (o_341 A P) L L) (N (o_478 A P) L L)) (N (o_274 A P) (N (o_411 A P) L L) L)) (N (o_168 A P) (N (o_239 A P) (N (o_376 A P) L L) (N (o_513 A P) L L)) (N (o_306 A P) (N (o_446 A P) L L) L)))) (N (o_62 A P) (N (o_81 A P) (N (o_122 A P) (N (o_194 A P) (N (o_333 A P) L L) (N (o_470 A P) L L)) (N (o_263 A P) (N (o_403 A P) L L) L)) (N (o_160 A P) (N (o_228 A P) (N (o_368 A P) L L) (N (o_505 A P) L L)) (N (o_298 A P) (N (o_435 A P) L L) L))) (N (o_100 A P) (N (o_141 A P) (N (o_210 A P) (N (o_349 A P) L L) (N (o_489 A P) L L)) (N (o_282 A P) (N (o_419 A P) L L) L)) (N (o_176 A P) (N (o_247 A P) (N (o_384 A P) L L) (N (o_521 A P) L L)) (N (o_317 A P) (N (o_454 A P) L L) L))))) (N (o_46 A P) (N (o_58 A P) (N (o_77 A P) (N (o_115 A P) (N (o_190 A P) (N (o_329 A P) L L) (N (o_466 A P) L L)) (N (o_259 A P) (N (o_396 A P) L L) L)) (N (o_156 A P) (N (o_224 A P) (N (o_364 A P) L L) (N (o_501 A P) L L)) (N (o_294 A P) (N (o_431 A P) L L) L))) (N (o_96 A P) (N (o_137 A P) (N (o_206 A P) (N (o_345 A P) L L) (N (o_482 A P) L L)) (N (o_278 A P) (N (o_415 A P) L L) L)) (N (o_172 A P) (N (o_243 A P) (N (o_380 A P) L L) (N (o_517 A P) L L)) (N (o_310 A P) (N (o_450 A P) L L) L)))) (N (o_66 A P) (N (o_85 A P) (N (o_126 A P) (N (o_198 A P) (N (o_337 A P) L L) (N (o_474 A P) L L)) (N (o_267 A P) (N (o_407 A P) L L) L)) (N (o_164 A P) (N (o_235 A P) (N (o_372 A P) L L) (N (o_509 A P) L L)) (N (o_302 A P) (N (o_439 A P) L L) L))) (N (o_107 A P) (N (o_145 A P) (N (o_214 A P) (N (o_353 A P) L L) (N (o_493 A P) L L)) (N (o_286 A P) (N (o_423 A P) L L) L)) (N (o_180 A P) (N (o_251 A P) (N (o_388 A P) L L) (N (o_525 A P) L L)) (N (o_321 A P) (N (o_458 A P) L L) L)))))))))
def tree_353 (A : AT) : Params → PySem.W.BT := (fun P => (N (boot_o_0 P) (N (boot_o_1 P) (N (o_311 A P) (N (boot_o_7 P) (N (o_51 A P) (N (o_148 A P) (N (o_108 A P) (N (o_181 A P) (N (o_322 A P) L L) L) (N (o_252 A P) L L)) (N (o_149 A P) (N (o_215 A P) L L) (N (o_287 A P) L L))) (N (o_89 A P) (N (o_127 A P) (N (o_199 A P) (N (o_338 A P) L L) L) (N (o_271 A P) L L)) (N (o_165 A P) (N (o_236 A P) L L) (N (o_303 A P) L L)))) (N (o_59 A P) (N (o_78 A P) (N (o_119 A P) (N (o_191 A P) (N (o_330 A P) L L) L) (N (o_260 A P) L L)) (N (o_157 A P) (N (o_225 A P) L L) (N (o_295 A P) L L))) (N (o_97 A P) (N (o_138 A P) (N (o_207 A P) (N (o_346 A P) L L) L) (N (o_279 A P) L L)) (N (o_173 A P) (N (o_244 A P) L L) (N (o_314 A P) L L))))) (N (o_43 A P) (N (o_55 A P) (N (o_74 A P) (N (o_112 A P) (N (o_185 A P) (N (o_326 A P) L L) L) (N (o_256 A P) L L)) (N (o_153 A P) (N (o_221 A P) L L) (N (o_291 A P) L L))) (N (o_93 A P) (N (o_134 A P) (N (o_203 A P) (N (o_342 A P) L L) L) (N (o_275 A P) L L)) (N (o_169 A P) (N (o_240 A P) L L) (N (o_307 A P) L L)))) (N (o_63 A P) (N (o_82 A P) (N (o_123 A P) (N (o_195 A P) (N (o_334 A P) L L) L) (N (o_264 A P) L L)) (N (o_161 A P) (N (o_229 A P) L L) (N (o_299 A P) L L))) (N (o_104 A P) (N (o_142 A P) (N (o_211 A P) (N (o_350 A P) L L) L) (N (o_283 A P) L L)) (N (o_177 A P) (N (o_248 A P) L L) (N (o_318 A P) L L)))))) (N (boot_o_5 P) (N (boot_o_9 P) (N (o_53 A P) (N (o_69 A P) (N (o_110 A P) (N (o_183 A P) (N (o_324 A P) L L) L) (N (o_254 A P) L L)) (N (o_151 A P) (N (o_219 A P) L L) (N (o_289 A P) L L))) (N (o_91 A P) (N (o_129 A P) (N (o_201 A P) (N (o_340 A P) L L) L) (N (o_273 A P) L L)) (N (o_167 A P) (N (o_238 A P) L L) (N (o_305 A P) L L)))) (N (o_61 A P) (N (o_80 A P) (N (o_121 A P) (N (o_193 A P) (N (o_332 A P) L L) L) (N (o_262 A P) L L)) (N (o_159 A P) (N (o_313 A P) L L) (N (o_297 A P) L L))) (N (o_99 A P) (N (o_140 A P) (N (o_209 A P) (N (o_348 A P) L L) L) (N (o_281 A P) L L)) (N (o_175 A P) (N (o_246 A P) L L) (N (o_316 A P) L L))))) (N (o_45 A P) (N (o_57 A P) (N (o_76 A P) (N (o_114 A P) (N (o_187 A P) (N (o_328 A P) L L) L) (N (o_258 A P) L L)) (N (o_155 A P) (N (o_223 A P) L L) (N (o_293 A P) L L))) (N (o_95 A P) (N (o_136 A P) (N (o_205 A P) (N (o_344 A P) L L) L) (N (o_277 A P) L L)) (N (o_171 A P) (N (o_242 A P) L L) (N (o_309 A P) L L)))) (N (o_65 A P) (N (o_84 A P) (N (o_125 A P) (N (o_197 A P) (N (o_336 A P) L L) L) (N (o_266 A P) L L)) (N (o_163 A P) (N (o_231 A P) L L) (N (o_301 A P) L L))) (N (o_106 A P) (N (o_144 A P) (N (o_213 A P) (N (o_352 A P) L L) L) (N (o_285 A P) L L)) (N (o_179 A P) (N (o_250 A P) L L) (N (o_320 A P) L L))))))) (N (boot_o_2 P) (N (boot_o_4 P) (N (boot_o_8 P) (N (o_52 A P) (N (o_68 A P) (N (o_109 A P) (N (o_182 A P) (N (o_323 A P) L L) L) (N (o_253 A P) L L)) (N (o_150 A P) (N (o_218 A P) L L) (N (o_288 A P) L L))) (N (o_90 A P) (N (o_128 A P) (N (o_200 A P) (N (o_339 A P) L L) L) (N (o_272 A P) L L)) (N (o_166 A P) (N (o_237 A P) L L) (N (o_304 A P) L L)))) (N (o_60 A P) (N (o_79 A P) (N (o_120 A P) (N (o_192 A P) (N (o_331 A P) L L) L) (N (o_261 A P) L L)) (N (o_158 A P) (N (o_226 A P) L L) (N (o_296 A P) L L))) (N (o_98 A P) (N (o_139 A P) (N (o_208 A P) (N (o_347 A P) L L) L) (N (o_280 A P) L L)) (N (o_174 A P) (N (o_245 A P) L L) (N (o_315 A P) L L))))) (N (o_312 A P) (N (o_56 A P) (N (o_75 A P) (N (o_113 A P) (N (o_186 A P) (N (o_327 A P) L L) L) (N (o_257 A P) L L)) (N (o_154 A P) (N (o_222 A P) L L) (N (o_292 A P) L L))) (N (o_94 A P) (N (o_135 A P) (N (o_204 A P) (N (o_343 A P) L L) L) (N (o_276 A P) L L)) (N (o_170 A P) (N (o_241 A P) L L) (N (o_308 A P) L L)))) (N (o_64 A P) (N (o_83 A P) (N (o_124 A P) (N (o_196 A P) (N (o_335 A P) L L) L) (N (o_265 A P) L L)) (N (o_162 A P) (N (o_230 A P) L L) (N (o_300 A P) L L))) (N (o_105 A P) (N (o_143 A P) (N (o_212 A P) (N (o_351 A P) L L) L) (N (o_284 A P) L L)) (N (o_178 A P) (N (o_249 A P) L L) (N (o_319 A P) L L)))))) (N (boot_o_6 P) (N (boot_o_10 P) (N (o_54 A P) (N (o_70 A P) (N (o_111 A P) (N (o_184 A P) (N (o_325 A P) L L) L) (N (o_255 A P) L L)) (N (o_152 A P) (N (o_220 A P) L L) (N (o_290 A P) L L))) (N (o_92 A P) (N (o_130 A P) (N (o_202 A P) (N (o_341 A P) L L) L) (N (o_274 A P) L L)) (N (o_168 A P) (N (o_239 A P) L L) (N (o_306 A P) L L)))) (N (o_62 A P) (N (o_81 A P) (N (o_122 A P) (N (o_194 A P) (N (o_333 A P) L L) L) (N (o_263 A P) L L)) (N (o_160 A P) (N (o_228 A P) L L) (N (o_298 A P) L L))) (N (o_100 A P) (N (o_141 A P) (N (o_210 A P) (N (o_349 A P) L L) L) (N (o_282 A P) L L)) (N (o_176 A P) (N (o_247 A P) L L) (N (o_317 A P) L L))))) (N (o_46 A P) (N (o_58 A P) (N (o_77 A P) (N (o_115 A P) (N (o_190 A P) (N (o_329 A P) L L) L) (N (o_259 A P) L L)) (N (o_156 A P) (N (o_224 A P) L L) (N (o_294 A P) L L))) (N (o_96 A P) (N (o_137 A P) (N (o_206 A P) (N (o_345 A P) L L) L) (N (o_278 A P) L L)) (N (o_172 A P) (N (o_243 A P) L L) (N (o_310 A P) L L)))) (N (o_66 A P) (N (o_85 A P) (N (o_126 A P) (N (o_198 A P) (N (o_337 A P) L L) L) (N (o_267 A P) L L)) (N (o_164 A P) (N (o_235 A P) L L) (N (o_302 A P) L L))) (N (o_107 A P) (N (o_145 A P) (N (o_214 A P) (N (o_353 A P) L L) L) (N (o_286 A P) L L)) (N (o_180 A P) (N (o_251 A P) L L) (N (o_321 A P) L L)))))))))
def heap_46 (A : AT) : Params → PySem.Heap := (fun P => (Heap.mk (Array.mk [(boot_o_0 P), (boot_o_1 P), (boot_o_2 P), (boot_o_3 P), (boot_o_4 P), (boot_o_5 P), (boot_o_6 P), (boot_o_7 P), (boot_o_8 P), (boot_o_9 P), (boot_o_10 P), (o_43 A P), (o_44 A P), (o_45 A P), (o_46 A P)]) (Life.mk [] [] [] 0 [] [] false #[] [] 0 false false false 0 [2000, 10, 10] false 0 true [] [] 0 false)))
def tree_85 (A : AT) : Params → PySem.W.BT := (fun P => (N (boot_o_0 P) (N (boot_o_1 P) (N (o_71 A P) (N (boot_o_7 P) (N (o_51 A P) (N (o_73 A P) L L) L) (N (o_59 A P) (N (o_78 A P) L L) L)) (N (o_43 A P) (N (o_55 A P) (N (o_74 A P) L L) L) (N (o_63 A P) (N (o_82 A P) L L) L))) (N (boot_o_5 P) (N (boot_o_9 P) (N (o_53 A P) (N (o_69 A P) L L) L) (N (o_61 A P) (N (o_80 A P) L L) L)) (N (o_45 A P) (N (o_57 A P) (N (o_76 A P) L L) L) (N (o_65 A P) (N (o_84 A P) L L) L)))) (N (boot_o_2 P) (N (boot_o_4 P) (N (boot_o_8 P) (N (o_52 A P) (N (o_68 A P) L L) L) (N (o_60 A P) (N (o_79 A P) L L) L)) (N (o_72 A P) (N (o_56 A P) (N (o_75 A P) L L) L) (N (o_64 A P) (N (o_83 A P) L L) L))) (N (boot_o_6 P) (N (boot_o_10 P) (N (o_54 A P) (N (o_70 A P) L L) L) (N (o_62 A P) (N (o_81 A P) L L) L)) (N (o_46 A P) (N (o_58 A P) (N (o_77 A P) L L) L) (N (o_66 A P) (N (o_85 A P) L L) L))))))
def tree_47 (A : AT) : Params → PySem.W.BT := (fun P => (N (boot_o_0 P) (N (boot_o_1 P) (N (boot_o_3 P) (N (boot_o_7 P) L L) (N (o_43 A P) L L)) (N (boot_o_5 P) (N (boot_o_9 P) L L) (N (o_45 A P) L L))) (N (boot_o_2 P) (N (boot_o_4 P) (N (boot_o_8 P) L L) (N (o_44 A P) L L)) (N (boot_o_6 P) (N (boot_o_10 P) L L) (N (o_46 A P) L L)))))
def tree_231 (A : AT) : Params → PySem.W.BT := (fun P => (N (boot_o_0 P) (N (boot_o_1 P) (N (o_216 A P) (N (boot_o_7 P) (N (o_51 A P) (N (o_148 A P) (N (o_108 A P) (N (o_181 A P) L L) L) (N (o_149 A P) (N (o_215 A P) L L) L)) (N (o_89 A P) (N (o_127 A P) (N (o_199 A P) L L) L) (N (o_165 A P) L L))) (N (o_59 A P) (N (o_78 A P) (N (o_119 A P) (N (o_191 A P) L L) L) (N (o_157 A P) (N (o_225 A P) L L) L)) (N (o_97 A P) (N (o_138 A P) (N (o_207 A P) L L) L) (N (o_173 A P) L L)))) (N (o_43 A P) (N (o_55 A P) (N (o_74 A P) (N (o_112 A P) (N (o_185 A P) L L) L) (N (o_153 A P) (N (o_221 A P) L L) L)) (N (o_93 A P) (N (o_134 A P) (N (o_203 A P) L L) L) (N (o_169 A P) L L))) (N (o_63 A P) (N (o_82 A P) (N (o_123 A P) (N (o_195 A P) L L) L) (N (o_161 A P) (N (o_229 A P) L L) L)) (N (o_104 A P) (N (o_142 A P) (N (o_211 A P) L L) L) (N (o_177 A P) L L))))) (N (boot_o_5 P) (N (boot_o_9 P) (N (o_53 A P) (N (o_69 A P) (N (o_110 A P) (N (o_183 A P) L L) L) (N (o_151 A P) (N (o_219 A P) L L) L)) (N (o_91 A P) (N (o_129 A P) (N (o_201 A P) L L) L) (N (o_167 A P) L L))) (N (o_61 A P) (N (o_80 A P) (N (o_121 A P) (N (o_193 A P) L L) L) (N (o_159 A P) (N (o_227 A P) L L) L)) (N (o_99 A P) (N (o_140 A P) (N (o_209 A P) L L) L) (N (o_175 A P) L L)))) (N (o_45 A P) (N (o_57 A P) (N (o_76 A P) (N (o_114 A P) (N (o_187 A P) L L) L) (N (o_155 A P) (N (o_223 A P) L L) L)) (N (o_95 A P) (N (o_136 A P) (N (o_205 A P) L L) L) (N (o_171 A P) L L))) (N (o_65 A P) (N (o_84 A P) (N (o_125 A P) (N (o_197 A P) L L) L) (N (o_163 A P) (N (o_231 A P) L L) L)) (N (o_106 A P) (N (o_144 A P) (N (o_213 A P) L L) L) (N (o_179 A P) L L)))))) (N (boot_o_2 P) (N (boot_o_4 P) (N (boot_o_8 P) (N (o_52 A P) (N (o_68 A P) (N (o_109 A P) (N (o_182 A P) L L) L) (N (o_150 A P) (N (o_218 A P) L L) L)) (N (o_90 A P) (N (o_128 A P) (N (o_200 A P) L L) L) (N (o_166 A P) L L))) (N (o_60 A P) (N (o_79 A P) (N (o_120 A P) (N (o_192 A P) L L) L) (N (o_158 A P) (N (o_226 A P) L L) L)) (N (o_98 A P) (N (o_139 A P) (N (o_208 A P) L L) L) (N (o_174 A P) L L)))) (N (o_217 A P) (N (o_56 A P) (N (o_75 A P) (N (o_113 A P) (N (o_186 A P) L L) L) (N (o_154 A P) (N (o_222 A P) L L) L)) (N (o_94 A P) (N (o_135 A P) (N (o_204 A P) L L) L) (N (o_170 A P) L L))) (N (o_64 A P) (N (o_83 A P) (N (o_124 A P) (N (o_196 A P) L L) L) (N (o_162 A P) (N (o_230 A P) L L) L)) (N (o_105 A P) (N (o_143 A P) (N (o_212 A P) L L) L) (N (o_178 A P) L L))))) (N (boot_o_6 P) (N (boot_o_10 P) (N (o_54 A P) (N (o_70 A P) (N (o_111 A P) (N (o_184 A P) L L) L) (N (o_152 A P) (N (o_220 A P) L L) L)) (N (o_92 A P) (N (o_130 A P) (N (o_202 A P) L L) L) (N (o_168 A P) L L))) (N (o_62 A P) (N (o_81 A P) (N (o_122 A P) (N (o_194 A P) L L) L) (N (o_160 A P) (N (o_228 A P) L L) L)) (N (o_100 A P) (N (o_141 A P) (N (o_210 A P) L L) L) (N (o_176 A P) L L)))) (N (o_46 A P) (N (o_58 A P) (N (o_77 A P) (N (o_115 A P) (N (o_190 A P) L L) L) (N (o_156 A P) (N (o_224 A P) L L) L)) (N (o_96 A P) (N (o_137 A P) (N (o_206 A P) L L) L) (N (o_172 A P) L L))) (N (o_66 A P) (N (o_85 A P) (N (o_126 A P) (N (o_198 A P) L L) L) (N (o_164 A P) L L)) (N (o_107 A P) (N (o_145 A P) (N (o_214 A P) L L) L) (N (o_180 A P) L L))))))))
def tree_619 (A : AT) : Params → PySem.W.BT := (fun P => (N (boot_o_0 P) (N (boot_o_1 P) (N (o_533 A P) (N (boot_o_7 P) (N (o_51 A P) (N (o_148 A P) (N (o_108 A P) (N (o_181 A P) (N (o_322 A P) (N (o_592 A P) L L) L) (N (o_459 A P) L L)) (N (o_252 A P) (N (o_389 A P) L L) (N (o_526 A P) L L))) (N (o_149 A P) (N (o_215 A P) (N (o_357 A P) L L) (N (o_494 A P) L L)) (N (o_287 A P) (N (o_424 A P) L L) (N (o_560 A P) L L)))) (N (o_89 A P) (N (o_127 A P) (N (o_199 A P) (N (o_338 A P) (N (o_608 A P) L L) L) (N (o_475 A P) L L)) (N (o_271 A P) (N (o_408 A P) L L) (N (o_544 A P) L L))) (N (o_165 A P) (N (o_236 A P) (N (o_373 A P) L L) (N (o_510 A P) L L)) (N (o_303 A P) (N (o_443 A P) L L) (N (o_576 A P) L L))))) (N (o_59 A P) (N (o_78 A P) (N (o_119 A P) (N (o_191 A P) (N (o_330 A P) (N (o_600 A P) L L) L) (N (o_467 A P) L L)) (N (o_260 A P) (N (o_400 A P) L L) (N (o_536 A P) L L))) (N (o_157 A P) (N (o_225 A P) (N (o_365 A P) L L) (N (o_502 A P) L L)) (N (o_295 A P) (N (o_432 A P) L L) (N (o_568 A P) L L)))) (N (o_97 A P) (N (o_138 A P) (N (o_207 A P) (N (o_346 A P) (N (o_616 A P) L L) L) (N (o_486 A P) L L)) (N (o_279 A P) (N (o_416 A P) L L) (N (o_552 A P) L L))) (N (o_173 A P) (N (o_244 A P) (N (o_381 A P) L L) (N (o_518 A P) L L)) (N (o_314 A P) (N (o_451 A P) L L) (N (o_584 A P) L L)))))) (N (o_43 A P) (N (o_55 A P) (N (o_74 A P) (N (o_112 A P) (N (o_185 A P) (N (o_326 A P) (N (o_596 A P) L L) L) (N (o_463 A P) L L)) (N (o_256 A P) (N (o_393 A P) L L) (N (o_530 A P) L L))) (N (o_153 A P) (N (o_221 A P) (N (o_361 A P) L L) (N (o_498 A P) L L)) (N (o_291 A P) (N (o_428 A P) L L) (N (o_564 A P) L L)))) (N (o_93 A P) (N (o_134 A P) (N (o_203 A P) (N (o_342 A P) (N (o_612 A P) L L) L) (N (o_479 A P) L L)) (N (o_275 A P) (N (o_412 A P) L L) (N (o_548 A P) L L))) (N (o_169 A P) (N (o_240 A P) (N (o_377 A P) L L) (N (o_514 A P) L L)) (N (o_307 A P) (N (o_447 A P) L L) (N (o_580 A P) L L))))) (N (o_63 A P) (N (o_82 A P) (N (o_123 A P) (N (o_195 A P) (N (o_334 A P) (N (o_604 A P) L L) L) (N (o_471 A P) L L)) (N (o_264 A P) (N (o_404 A P) L L) (N (o_540 A P) L L))) (N (o_161 A P) (N (o_229 A P) (N (o_369 A P) L L) (N (o_506 A P) L L)) (N (o_299 A P) (N (o_436 A P) L L) (N (o_572 A P) L L)))) (N (o_104 A P) (N (o_142 A P) (N (o_211 A P) (N (o_350 A P) L L) (N (o_490 A P) L L)) (N (o_283 A P) (N (o_420 A P) L L) (N (o_556 A P) L L))) (N (o_177 A P) (N (o_248 A P) (N (o_385 A P) L L) (N (o_522 A P) L L)) (N (o_318 A P) (N (o_455 A P) L L) (N (o_588 A P) L L))))))) (N (boot_o_5 P) (N (boot_o_9 P) (N (o_53 A P) (N (o_69 A P) (N (o_110 A P) (N (o_183 A P) (N (o_324 A P) (N (o_594 A P) L L) L) (N (o_461 A P) L L)) (N (o_254 A P) (N (o_391 A P) L L) (N (o_528 A P) L L))) (N (o_151 A P) (N (o_219 A P) (N (o_359 A P) L L) (N (o_496 A P) L L)) (N (o_289 A P) (N (o_426 A P) L L) (N (o_562 A P) L L)))) (N (o_91 A P) (N (o_129 A P) (N (o_201 A P) (N (o_340 A P) (N (o_610 A P) L L) L) (N (o_477 A P) L L)) (N (o_273 A P) (N (o_410 A P) L L) (N (o_546 A P) L L))) (N (o_167 A P) (N (o_238 A P) (N (o_375 A P) L L) (N (o_512 A P) L L)) (N (o_305 A P) (N (o_445 A P) L L) (N (o_578 A P) L L))))) (N (o_61 A P) (N (o_80 A P) (N (o_121 A P) (N (o_193 A P) (N (o_332 A P) (N (o_602 A P) L L) L) (N (o_469 A P) L L)) (N (o_262 A P) (N (o_402 A P) L L) (N (o_538 A P) L L))) (N (o_159 A P) (N (o_485 A P) (N (o_367 A P) L L) (N (o_504 A P) L L)) (N (o_297 A P) (N (o_434 A P) L L) (N (o_570 A P) L L)))) (N (o_99 A P) (N (o_140 A P) (N (o_209 A P) (N (o_348 A P) (N (o_618 A P) L L) L) (N (o_488 A P) L L)) (N (o_281 A P) (N (o_418 A P) L L) (N (o_554 A P) L L))) (N (o_175 A P) (N (o_246 A P) (N (o_383 A P) L L) (N (o_520 A P) L L)) (N (o_316 A P) (N (o_453 A P) L L) (N (o_586 A P) L L)))))) (N (o_45 A P) (N (o_57 A P) (N (o_76 A P) (N (o_114 A P) (N (o_187 A P) (N (o_328 A P) (N (o_598 A P) L L) L) (N (o_465 A P) L L)) (N (o_258 A P) (N (o_395 A P) L L) (N (o_532 A P) L L))) (N (o_155 A P) (N (o_223 A P) (N (o_363 A P) L L) (N (o_500 A P) L L)) (N (o_293 A P) (N (o_430 A P) L L) (N (o_566 A P) L L)))) (N (o_95 A P) (N (o_136 A P) (N (o_205 A P) (N (o_344 A P) (N (o_614 A P) L L) L) (N (o_481 A P) L L)) (N (o_277 A P) (N (o_414 A P) L L) (N (o_550 A P) L L))) (N (o_171 A P) (N (o_242 A P) (N (o_379 A P) L L) (N (o_516 A P) L L)) (N (o_309 A P) (N (o_449 A P) L L) (N (o_582 A P) L L))))) (N (o_65 A P) (N (o_84 A P) (N (o_125 A P) (N (o_197 A P) (N (o_336 A P) (N (o_606 A P) L L) L) (N (o_473 A P) L L)) (N (o_266 A P) (N (o_406 A P) L L) (N (o_542 A P) L L))) (N (o_163 A P) (N (o_231 A P) (N (o_371 A P) L L) (N (o_508 A P) L L)) (N (o_301 A P) (N (o_438 A P) L L) (N (o_574 A P) L L)))) (N (o_106 A P) (N (o_144 A P) (N (o_213 A P) (N (o_352 A P) L L) (N (o_492 A P) L L)) (N (o_285 A P) (N (o_422 A P) L L) (N (o_558 A P) L L))) (N (o_179 A P) (N (o_250 A P) (N (o_387 A P) L L) (N (o_524 A P) L L)) (N (o_320 A P) (N (o_457 A P) L L) (N (o_590 A P) L L)))))))) (N (boot_o_2 P) (N (boot_o_4 P) (N (boot_o_8 P) (N (o_52 A P) (N (o_68 A P) (N (o_109 A P) (N (o_182 A P) (N (o_323 A P) (N (o_593 A P) L L) L) (N (o_460 A P) L L)) (N (o_253 A P) (N (o_390 A P) L L) (N (o_527 A P) L L))) (N (o_150 A P) (N (o_218 A P) (N (o_358 A P) L L) (N (o_495 A P) L L)) (N (o_288 A P) (N (o_425 A P) L L) (N (o_561 A P) L L)))) (N (o_90 A P) (N (o_128 A P) (N (o_200 A P) (N (o_339 A P) (N (o_609 A P) L L) L) (N (o_476 A P) L L)) (N (o_272 A P) (N (o_409 A P) L L) (N (o_545 A P) L L))) (N (o_166 A P) (N (o_237 A P) (N (o_374 A P) L L) (N (o_511 A P) L L)) (N (o_304 A P) (N (o_444 A P) L L) (N (o_577 A P) L L))))) (N (o_60 A P) (N (o_79 A P) (N (o_120 A P) (N (o_192 A P) (N (o_331 A P) (N (o_601 A P) L L) L) (N (o_468 A P) L L)) (N (o_261 A P) (N (o_401 A P) L L) (N (o_537 A P) L L))) (N (o_158 A P) (N (o_226 A P) (N (o_366 A P) L L) (N (o_503 A P) L L)) (N (o_296 A P) (N (o_433 A P) L L) (N (o_569 A P) L L)))) (N (o_98 A P) (N (o_139 A P) (N (o_208 A P) (N (o_347 A P) (N (o_617 A P) L L) L) (N (o_487 A P) L L)) (N (o_280 A P) (N (o_417 A P) L L) (N (o_553 A P) L L))) (N (o_174 A P) (N (o_245 A P) (N (o_382 A P) L L) (N (o_519 A P) L L)) (N (o_315 A P) (N (o_452 A P) L L) (N (o_585 A P) L L)))))) (N (o_534 A P) (N (o_56 A P) (N (o_75 A P) (N (o_113 A P) (N (o_186 A P) (N (o_327 A P) (N (o_597 A P) L L) L) (N (o_464 A P) L L)) (N (o_257 A P) (N (o_394 A P) L L) (N (o_531 A P) L L))) (N (o_154 A P) (N (o_222 A P) (N (o_362 A P) L L) (N (o_499 A P) L L)) (N (o_292 A P) (N (o_429 A P) L L) (N (o_565 A P) L L)))) (N (o_94 A P) (N (o_135 A P) (N (o_204 A P) (N (o_343 A P) (N (o_613 A P) L L) L) (N (o_480 A P) L L)) (N (o_276 A P) (N (o_413 A P) L L) (N (o_549 A P) L L))) (N (o_170 A P) (N (o_241 A P) (N (o_378 A P) L L) (N (o_515 A P) L L)) (N (o_308 A P) (N (o_448 A P) L L) (N (o_581 A P) L L))))) (N (o_64 A P) (N (o_83 A P) (N (o_124 A P) (N (o_196 A P) (N (o_335 A P) (N (o_605 A P) L L) L) (N (o_472 A P) L L)) (N (o_265 A P) (N (o_405 A P) L L) (N (o_541 A P) L L))) (N (o_162 A P) (N (o_230 A P) (N (o_370 A P) L L) (N (o_507 A P) L L)) (N (o_300 A P) (N (o_437 A P) L L) (N (o_573 A P) L L)))) (N (o_105 A P) (N (o_143 A P) (N (o_212 A P) (N (o_351 A P) L L) (N (o_491 A P) L L)) (N (o_284 A P) (N (o_421 A P) L L) (N (o_557 A P) L L))) (N (o_178 A P) (N (o_249 A P) (N (o_386 A P) L L) (N (o_523 A P) L L)) (N (o_319 A P) (N (o_456 A P) L L) (N (o_589 A P) L L))))))) (N (boot_o_6 P) (N (boot_o_10 P) (N (o_54 A P) (N (o_70 A P) (N (o_111 A P) (N (o_184 A P) (N (o_325 A P) (N (o_595 A P) L L) L) (N (o_462 A P) L L)) (N (o_255 A P) (N (o_392 A P) L L) (N (o_529 A P) L L))) (N (o_152 A P) (N (o_220 A P) (N (o_360 A P) L L) (N (o_497 A P) L L)) (N (o_290 A P) (N (o_427 A P) L L) (N (o_563 A P) L L)))) (N (o_92 A P) (N (o_130 A P) (N (o_202 A P) (N (o_341 A P) (N (o_611 A P) L L) L) (N (o_478 A P) L L)) (N (o_274 A P) (N (o_411 A P) L L) (N (o_547 A P) L L))) (N (o_168 A P) (N (o_239 A P) (N (o_376 A P) L L) (N (o_513 A P) L L)) (N (o_306 A P) (N (o_446 A P) L L) (N (o_579 A P) L L))))) (N (o_62 A P) (N (o_81 A P) (N (o_122 A P) (N (o_194 A P) (N (o_333 A P) (N (o_603 A P) L L) L) (N (o_470 A P) L L)) (N (o_263 A P) (N (o_403 A P) L L) (N (o_539 A P) L L))) (N (o_160 A P) (N (o_228 A P) (N (o_368 A P) L L) (N (o_505 A P) L L)) (N (o_298 A P) (N (o_435 A P) L L) (N (o_571 A P) L L)))) (N (o_100 A P) (N (o_141 A P) (N (o_210 A P) (N (o_349 A P) (N (o_619 A P) L L) L) (N (o_489 A P) L L)) (N (o_282 A P) (N (o_419 A P) L L) (N (o_555 A P) L L))) (N (o_176 A P) (N (o_247 A P) (N (o_384 A P) L L) (N (o_521 A P) L L)) (N (o_317 A P) (N (o_454 A P) L L) (N (o_587 A P) L L)))))) (N (o_46 A P) (N (o_58 A P) (N (o_77 A P) (N (o_115 A P) (N (o_190 A P) (N (o_329 A P) (N (o_599 A P) L L) L) (N (o_466 A P) L L)) (N (o_259 A P) (N (o_396 A P) L L) (N (o_535 A P) L L))) (N (o_156 A P) (N (o_224 A P) (N (o_364 A P) L L) (N (o_501 A P) L L)) (N (o_294 A P) (N (o_431 A P) L L) (N (o_567 A P) L L)))) (N (o_96 A P) (N (o_137 A P) (N (o_206 A P) (N (o_345 A P) (N (o_615 A P) L L) L) (N (o_482 A P) L L)) (N (o_278 A P) (N (o_415 A P) L L) (N (o_551 A P) L L))) (N (o_172 A P) (N (o_243 A P) (N (o_380 A P) L L) (N (o_517 A P) L L)) (N (o_310 A P) (N (o_450 A P) L L) (N (o_583 A P) L L))))) (N (o_66 A P) (N (o_85 A P) (N (o_126 A P) (N (o_198 A P) (N (o_337 A P) (N (o_607 A P) L L) L) (N (o_474 A P) L L)) (N (o_267 A P) (N (o_407 A P) L L) (N (o_543 A P) L L))) (N (o_164 A P) (N (o_235 A P) (N (o_372 A P) L L) (N (o_509 A P) L L)) (N (o_302 A P) (N (o_439 A P) L L) (N (o_575 A P) L L)))) (N (o_107 A P) (N (o_145 A P) (N (o_214 A P) (N (o_353 A P) L L) (N (o_493 A P) L L)) (N (o_286 A P) (N (o_423 A P) L L) (N (o_559 A P) L L))) (N (o_180 A P) (N (o_251 A P) (N (o_388 A P) L L) (N (o_525 A P) L L)) (N (o_321 A P) (N (o_458 A P) L L) (N (o_591 A P) L L))))))))))
def tree_310 (A : AT) : Params → PySem.W.BT := (fun P => (N (boot_o_0 P) (N (boot_o_1 P) (N (o_268 A P) (N (boot_o_7 P) (N (o_51 A P) (N (o_148 A P) (N (o_108 A P) (N (o_181 A P) L L) (N (o_252 A P) L L)) (N (o_149 A P) (N (o_215 A P) L L) (N (o_287 A P) L L))) (N (o_89 A P) (N (o_127 A P) (N (o_199 A P) L L) (N (o_271 A P) L L)) (N (o_165 A P) (N (o_236 A P) L L) (N (o_303 A P) L L)))) (N (o_59 A P) (N (o_78 A P) (N (o_119 A P) (N (o_191 A P) L L) (N (o_260 A P) L L)) (N (o_157 A P) (N (o_225 A P) L L) (N (o_295 A P) L L))) (N (o_97 A P) (N (o_138 A P) (N (o_207 A P) L L) (N (o_279 A P) L L)) (N (o_173 A P) (N (o_244 A P) L L) L)))) (N (o_43 A P) (N (o_55 A P) (N (o_74 A P) (N (o_112 A P) (N (o_185 A P) L L) (N (o_256 A P) L L)) (N (o_153 A P) (N (o_221 A P) L L) (N (o_291 A P) L L))) (N (o_93 A P) (N (o_134 A P) (N (o_203 A P) L L) (N (o_275 A P) L L)) (N (o_169 A P) (N (o_240 A P) L L) (N (o_307 A P) L L)))) (N (o_63 A P) (N (o_82 A P) (N (o_123 A P) (N (o_195 A P) L L) (N (o_264 A P) L L)) (N (o_161 A P) (N (o_229 A P) L L) (N (o_299 A P) L L))) (N (o_104 A P) (N (o_142 A P) (N (o_211 A P) L L) (N (o_283 A P) L L)) (N (o_177 A P) (N (o_248 A P) L L) L))))) (N (boot_o_5 P) (N (boot_o_9 P) (N (o_53 A P) (N (o_69 A P) (N (o_110 A P) (N (o_183 A P) L L) (N (o_254 A P) L L)) (N (o_151 A P) (N (o_219 A P) L L) (N (o_289 A P) L L))) (N (o_91 A P) (N (o_129 A P) (N (o_201 A P) L L) (N (o_273 A P) L L)) (N (o_167 A P) (N (o_238 A P) L L) (N (o_305 A P) L L)))) (N (o_61 A P) (N (o_80 A P) (N (o_121 A P) (N (o_193 A P) L L) (N (o_262 A P) L L)) (N (o_159 A P) (N (o_270 A P) L L) (N (o_297 A P) L L))) (N (o_99 A P) (N (o_140 A P) (N (o_209 A P) L L) (N (o_281 A P) L L)) (N (o_175 A P) (N (o_246 A P) L L) L)))) (N (o_45 A P) (N (o_57 A P) (N (o_76 A P) (N (o_114 A P) (N (o_187 A P) L L) (N (o_258 A P) L L)) (N (o_155 A P) (N (o_223 A P) L L) (N (o_293 A P) L L))) (N (o_95 A P) (N (o_136 A P) (N (o_205 A P) L L) (N (o_277 A P) L L)) (N (o_171 A P) (N (o_242 A P) L L) (N (o_309 A P) L L)))) (N (o_65 A P) (N (o_84 A P) (N (o_125 A P) (N (o_197 A P) L L) (N (o_266 A P) L L)) (N (o_163 A P) (N (o_231 A P) L L) (N (o_301 A P) L L))) (N (o_106 A P) (N (o_144 A P) (N (o_213 A P) L L) (N (o_285 A P) L L)) (N (o_179 A P) (N (o_250 A P) L L) L)))))) (N (boot_o_2 P) (N (boot_o_4 P) (N (boot_o_8 P) (N (o_52 A P) (N (o_68 A P) (N (o_109 A P) (N (o_182 A P) L L) (N (o_253 A P) L L)) (N (o_150 A P) (N (o_218 A P) L L) (N (o_288 A P) L L))) (N (o_90 A P) (N (o_128 A P) (N (o_200 A P) L L) (N (o_272 A P) L L)) (N (o_166 A P) (N (o_237 A P) L L) (N (o_304 A P) L L)))) (N (o_60 A P) (N (o_79 A P) (N (o_120 A P) (N (o_192 A P) L L) (N (o_261 A P) L L)) (N (o_158 A P) (N (o_226 A P) L L) (N (o_296 A P) L L))) (N (o_98 A P) (N (o_139 A P) (N (o_208 A P) L L) (N (o_280 A P) L L)) (N (o_174 A P) (N (o_245 A P) L L) L)))) (N (o_269 A P) (N (o_56 A P) (N (o_75 A P) (N (o_113 A P) (N (o_186 A P) L L) (N (o_257 A P) L L)) (N (o_154 A P) (N (o_222 A P) L L) (N (o_292 A P) L L))) (N (o_94 A P) (N (o_135 A P) (N (o_204 A P) L L) (N (o_276 A P) L L)) (N (o_170 A P) (N (o_241 A P) L L) (N (o_308 A P) L L)))) (N (o_64 A P) (N (o_83 A P) (N (o_124 A P) (N (o_196 A P) L L) (N (o_265 A P) L L)) (N (o_162 A P) (N (o_230 A P) L L) (N (o_300 A P) L L))) (N (o_105 A P) (N (o_143 A P) (N (o_212 A P) L L) (N (o_284 A P) L L)) (N (o_178 A P) (N (o_249 A P) L L) L))))) (N (boot_o_6 P) (N (boot_o_10 P) (N (o_54 A P) (N (o_70 A P) (N (o_111 A P) (N (o_184 A P) L L) (N (o_255 A P) L L)) (N (o_152 A P) (N (o_220 A P) L L) (N (o_290 A P) L L))) (N (o_92 A P) (N (o_130 A P) (N (o_202 A P) L L) (N (o_274 A P) L L)) (N (o_168 A P) (N (o_239 A P) L L) (N (o_306 A P) L L)))) (N (o_62 A P) (N (o_81 A P) (N (o_122 A P) (N (o_194 A P) L L) (N (o_263 A P) L L)) (N (o_160 A P) (N (o_228 A P) L L) (N (o_298 A P) L L))) (N (o_100 A P) (N (o_141 A P) (N (o_210 A P) L L) (N (o_282 A P) L L)) (N (o_176 A P) (N (o_247 A P) L L) L)))) (N (o_46 A P) (N (o_58 A P) (N (o_77 A P) (N (o_115 A P) (N (o_190 A P) L L) (N (o_259 A P) L L)) (N (o_156 A P) (N (o_224 A P) L L) (N (o_294 A P) L L))) (N (o_96 A P) (N (o_137 A P) (N (o_206 A P) L L) (N (o_278 A P) L L)) (N (o_172 A P) (N (o_243 A P) L L) (N (o_310 A P) L L)))) (N (o_66 A P) (N (o_85 A P) (N (o_126 A P) (N (o_198 A P) L L) (N (o_267 A P) L L)) (N (o_164 A P) (N (o_235 A P) L L) (N (o_302 A P) L L))) (N (o_107 A P) (N (o_145 A P) (N (o_214 A P) L L) (N (o_286 A P) L L)) (N (o_180 A P) (N (o_251 A P) L L) L))))))))
def tree_187 (A : AT) : Params → PySem.W.BT := (fun P => (N (boot_o_0 P) (N (boot_o_1 P) (N (o_146 A P) (N (boot_o_7 P) (N (o_51 A P) (N (o_148 A P) (N (o_108 A P) (N (o_181 A P) L L) L) (N (o_149 A P) L L)) (N (o_89 A P) (N (o_127 A P) L L) (N (o_165 A P) L L))) (N (o_59 A P) (N (o_78 A P) (N (o_119 A P) L L) (N (o_157 A P) L L)) (N (o_97 A P) (N (o_138 A P) L L) (N (o_173 A P) L L)))) (N (o_43 A P) (N (o_55 A P) (N (o_74 A P) (N (o_112 A P) (N (o_185 A P) L L) L) (N (o_153 A P) L L)) (N (o_93 A P) (N (o_134 A P) L L) (N (o_169 A P) L L))) (N (o_63 A P) (N (o_82 A P) (N (o_123 A P) L L) (N (o_161 A P) L L)) (N (o_104 A P) (N (o_142 A P) L L) (N (o_177 A P) L L))))) (N (boot_o_5 P) (N (boot_o_9 P) (N (o_53 A P) (N (o_69 A P) (N (o_110 A P) (N (o_183 A P) L L) L) (N (o_151 A P) L L)) (N (o_91 A P) (N (o_129 A P) L L) (N (o_167 A P) L L))) (N (o_61 A P) (N (o_80 A P) (N (o_121 A P) L L) (N (o_159 A P) L L)) (N (o_99 A P) (N (o_140 A P) L L) (N (o_175 A P) L L)))) (N (o_45 A P) (N (o_57 A P) (N (o_76 A P) (N (o_114 A P) (N (o_187 A P) L L) L) (N (o_155 A P) L L)) (N (o_95 A P) (N (o_136 A P) L L) (N (o_171 A P) L L))) (N (o_65 A P) (N (o_84 A P) (N (o_125 A P) L L) (N (o_163 A P) L L)) (N (o_106 A P) (N (o_144 A P) L L) (N (o_179 A P) L L)))))) (N (boot_o_2 P) (N (boot_o_4 P) (N (boot_o_8 P) (N (o_52 A P) (N (o_68 A P) (N (o_109 A P) (N (o_182 A P) L L) L) (N (o_150 A P) L L)) (N (o_90 A P) (N (o_128 A P) L L) (N (o_166 A P) L L))) (N (o_60 A P) (N (o_79 A P) (N (o_120 A P) L L) (N (o_158 A P) L L)) (N (o_98 A P) (N (o_139 A P) L L) (N (o_174 A P) L L)))) (N (o_147 A P) (N (o_56 A P) (N (o_75 A P) (N (o_113 A P) (N (o_186 A P) L L) L) (N (o_154 A P) L L)) (N (o_94 A P) (N (o_135 A P) L L) (N (o_170 A P) L L))) (N (o_64 A P) (N (o_83 A P) (N (o_124 A P) L L) (N (o_162 A P) L L)) (N (o_105 A P) (N (o_143 A P) L L) (N (o_178 A P) L L))))) (N (boot_o_6 P) (N (boot_o_10 P) (N (o_54 A P) (N (o_70 A P) (N (o_111 A P) (N (o_184 A P) L L) L) (N (o_152 A P) L L)) (N (o_92 A P) (N (o_130 A P) L L) (N (o_168 A P) L L))) (N (o_62 A P) (N (o_81 A P) (N (o_122 A P) L L) (N (o_160 A P) L L)) (N (o_100 A P) (N (o_141 A P) L L) (N (o_176 A P) L L)))) (N (o_46 A P) (N (o_58 A P) (N (o_77 A P) (N (o_115 A P) L L) (N (o_156 A P) L L)) (N (o_96 A P) (N (o_137 A P) L L) (N (o_172 A P) L L))) (N (o_66 A P) (N (o_85 A P) (N (o_126 A P) L L) (N (o_164 A P) L L)) (N (o_107 A P) (N (o_145 A P) L L) (N (o_180 A P) L L))))))))
def tree_130 (A : AT) : Params → PySem.W.BT := (fun P => (N (boot_o_0 P) (N (boot_o_1 P) (N (o_116 A P) (N (boot_o_7 P) (N (o_51 A P) (N (o_118 A P) (N (o_108 A P) L L) L) (N (o_89 A P) (N (o_127 A P) L L) L)) (N (o_59 A P) (N (o_78 A P) (N (o_119 A P) L L) L) (N (o_97 A P) L L))) (N (o_43 A P) (N (o_55 A P) (N (o_74 A P) (N (o_112 A P) L L) L) (N (o_93 A P) L L)) (N (o_63 A P) (N (o_82 A P) (N (o_123 A P) L L) L) (N (o_104 A P) L L)))) (N (boot_o_5 P) (N (boot_o_9 P) (N (o_53 A P) (N (o_69 A P) (N (o_110 A P) L L) L) (N (o_91 A P) (N (o_129 A P) L L) L)) (N (o_61 A P) (N (o_80 A P) (N (o_121 A P) L L) L) (N (o_99 A P) L L))) (N (o_45 A P) (N (o_57 A P) (N (o_76 A P) (N (o_114 A P) L L) L) (N (o_95 A P) L L)) (N (o_65 A P) (N (o_84 A P) (N (o_125 A P) L L) L) (N (o_106 A P) L L))))) (N (boot_o_2 P) (N (boot_o_4 P) (N (boot_o_8 P) (N (o_52 A P) (N (o_68 A P) (N (o_109 A P) L L) L) (N (o_90 A P) (N (o_128 A P) L L) L)) (N (o_60 A P) (N (o_79 A P) (N (o_120 A P) L L) L) (N (o_98 A P) L L))) (N (o_117 A P) (N (o_56 A P) (N (o_75 A P) (N (o_113 A P) L L) L) (N (o_94 A P) L L)) (N (o_64 A P) (N (o_83 A P) (N (o_124 A P) L L) L) (N (o_105 A P) L L)))) (N (boot_o_6 P) (N (boot_o_10 P) (N (o_54 A P) (N (o_70 A P) (N (o_111 A P) L L) L) (N (o_92 A P) (N (o_130 A P) L L) L)) (N (o_62 A P) (N (o_81 A P) (N (o_122 A P) L L) L) (N (o_100 A P) L L))) (N (o_46 A P) (N (o_58 A P) (N (o_77 A P) (N (o_115 A P) L L) L) (N (o_96 A P) L L)) (N (o_66 A P) (N (o_85 A P) (N (o_126 A P) L L) L) (N (o_107 A P) L L)))))))
def tree_115 (A : AT) : Params → PySem.W.BT := (fun P => (N (boot_o_0 P) (N (boot_o_1 P) (N (o_101 A P) (N (boot_o_7 P) (N (o_51 A P) (N (o_103 A P) (N (o_108 A P) L L) L) (N (o_89 A P) L L)) (N (o_59 A P) (N (o_78 A P) L L) (N (o_97 A P) L L))) (N (o_43 A P) (N (o_55 A P) (N (o_74 A P) (N (o_112 A P) L L) L) (N (o_93 A P) L L)) (N (o_63 A P) (N (o_82 A P) L L) (N (o_104 A P) L L)))) (N (boot_o_5 P) (N (boot_o_9 P) (N (o_53 A P) (N (o_69 A P) (N (o_110 A P) L L) L) (N (o_91 A P) L L)) (N (o_61 A P) (N (o_80 A P) L L) (N (o_99 A P) L L))) (N (o_45 A P) (N (o_57 A P) (N (o_76 A P) (N (o_114 A P) L L) L) (N (o_95 A P) L L)) (N (o_65 A P) (N (o_84 A P) L L) (N (o_106 A P) L L))))) (N (boot_o_2 P) (N (boot_o_4 P) (N (boot_o_8 P) (N (o_52 A P) (N (o_68 A P) (N (o_109 A P) L L) L) (N (o_90 A P) L L)) (N (o_60 A P) (N (o_79 A P) L L) (N (o_98 A P) L L))) (N (o_102 A P) (N (o_56 A P) (N (o_75 A P) (N (o_113 A P) L L) L) (N (o_94 A P) L L)) (N (o_64 A P) (N (o_83 A P) L L) (N (o_105 A P) L L)))) (N (boot_o_6 P) (N (boot_o_10 P) (N (o_54 A P) (N (o_70 A P) (N (o_111 A P) L L) L) (N (o_92 A P) L L)) (N (o_62 A P) (N (o_81 A P) L L) (N (o_100 A P) L L))) (N (o_46 A P) (N (o_58 A P) (N (o_77 A P) (N (o_115 A P) L L) L) (N (o_96 A P) L L)) (N (o_66 A P) (N (o_85 A P) L L) (N (o_107 A P) L L)))))))
def tree_267 (A : AT) : Params → PySem.W.BT := (fun P => (N (boot_o_0 P) (N (boot_o_1 P) (N (o_232 A P) (N (boot_o_7 P) (N (o_51 A P) (N (o_148 A P) (N (o_108 A P) (N (o_181 A P) L L) (N (o_252 A P) L L)) (N (o_149 A P) (N (o_215 A P) L L) L)) (N (o_89 A P) (N (o_127 A P) (N (o_199 A P) L L) L) (N (o_165 A P) (N (o_236 A P) L L) L))) (N (o_59 A P) (N (o_78 A P) (N (o_119 A P) (N (o_191 A P) L L) (N (o_260 A P) L L)) (N (o_157 A P) (N (o_225 A P) L L) L)) (N (o_97 A P) (N (o_138 A P) (N (o_207 A P) L L) L) (N (o_173 A P) (N (o_244 A P) L L) L)))) (N (o_43 A P) (N (o_55 A P) (N (o_74 A P) (N (o_112 A P) (N (o_185 A P) L L) (N (o_256 A P) L L)) (N (o_153 A P) (N (o_221 A P) L L) L)) (N (o_93 A P) (N (o_134 A P) (N (o_203 A P) L L) L) (N (o_169 A P) (N (o_240 A P) L L) L))) (N (o_63 A P) (N (o_82 A P) (N (o_123 A P) (N (o_195 A P) L L) (N (o_264 A P) L L)) (N (o_161 A P) (N (o_229 A P) L L) L)) (N (o_104 A P) (N (o_142 A P) (N (o_211 A P) L L) L) (N (o_177 A P) (N (o_248 A P) L L) L))))) (N (boot_o_5 P) (N (boot_o_9 P) (N (o_53 A P) (N (o_69 A P) (N (o_110 A P) (N (o_183 A P) L L) (N (o_254 A P) L L)) (N (o_151 A P) (N (o_219 A P) L L) L)) (N (o_91 A P) (N (o_129 A P) (N (o_201 A P) L L) L) (N (o_167 A P) (N (o_238 A P) L L) L))) (N (o_61 A P) (N (o_80 A P) (N (o_121 A P) (N (o_193 A P) L L) (N (o_262 A P) L L)) (N (o_159 A P) (N (o_234 A P) L L) L)) (N (o_99 A P) (N (o_140 A P) (N (o_209 A P) L L) L) (N (o_175 A P) (N (o_246 A P) L L) L)))) (N (o_45 A P) (N (o_57 A P) (N (o_76 A P) (N (o_114 A P) (N (o_187 A P) L L) (N (o_258 A P) L L)) (N (o_155 A P) (N (o_223 A P) L L) L)) (N (o_95 A P) (N (o_136 A P) (N (o_205 A P) L L) L) (N (o_171 A P) (N (o_242 A P) L L) L))) (N (o_65 A P) (N (o_84 A P) (N (o_125 A P) (N (o_197 A P) L L) (N (o_266 A P) L L)) (N (o_163 A P) (N (o_231 A P) L L) L)) (N (o_106 A P) (N (o_144 A P) (N (o_213 A P) L L) L) (N (o_179 A P) (N (o_250 A P) L L) L)))))) (N (boot_o_2 P) (N (boot_o_4 P) (N (boot_o_8 P) (N (o_52 A P) (N (o_68 A P) (N (o_109 A P) (N (o_182 A P) L L) (N (o_253 A P) L L)) (N (o_150 A P) (N (o_218 A P) L L) L)) (N (o_90 A P) (N (o_128 A P) (N (o_200 A P) L L) L) (N (o_166 A P) (N (o_237 A P) L L) L))) (N (o_60 A P) (N (o_79 A P) (N (o_120 A P) (N (o_192 A P) L L) (N (o_261 A P) L L)) (N (o_158 A P) (N (o_226 A P) L L) L)) (N (o_98 A P) (N (o_139 A P) (N (o_208 A P) L L) L) (N (o_174 A P) (N (o_245 A P) L L) L)))) (N (o_233 A P) (N (o_56 A P) (N (o_75 A P) (N (o_113 A P) (N (o_186 A P) L L) (N (o_257 A P) L L)) (N (o_154 A P) (N (o_222 A P) L L) L)) (N (o_94 A P) (N (o_135 A P) (N (o_204 A P) L L) L) (N (o_170 A P) (N (o_241 A P) L L) L))) (N (o_64 A P) (N (o_83 A P) (N (o_124 A P) (N (o_196 A P) L L) (N (o_265 A P) L L)) (N (o_162 A P) (N (o_230 A P) L L) L)) (N (o_105 A P) (N (o_143 A P) (N (o_212 A P) L L) L) (N (o_178 A P) (N (o_249 A P) L L) L))))) (N (boot_o_6 P) (N (boot_o_10 P) (N (o_54 A P) (N (o_70 A P) (N (o_111 A P) (N (o_184 A P) L L) (N (o_255 A P) L L)) (N (o_152 A P) (N (o_220 A P) L L) L)) (N (o_92 A P) (N (o_130 A P) (N (o_202 A P) L L) L) (N (o_168 A P) (N (o_239 A P) L L) L))) (N (o_62 A P) (N (o_81 A P) (N (o_122 A P) (N (o_194 A P) L L) (N (o_263 A P) L L)) (N (o_160 A P) (N (o_228 A P) L L) L)) (N (o_100 A P) (N (o_141 A P) (N (o_210 A P) L L) L) (N (o_176 A P) (N (o_247 A P) L L) L)))) (N (o_46 A P) (N (o_58 A P) (N (o_77 A P) (N (o_115 A P) (N (o_190 A P) L L) (N (o_259 A P) L L)) (N (o_156 A P) (N (o_224 A P) L L) L)) (N (o_96 A P) (N (o_137 A P) (N (o_206 A P) L L) L) (N (o_172 A P) (N (o_243 A P) L L) L))) (N (o_66 A P) (N (o_85 A P) (N (o_126 A P) (N (o_198 A P) L L) (N (o_267 A P) L L)) (N (o_164 A P) (N (o_235 A P) L L) L)) (N (o_107 A P) (N (o_145 A P) (N (o_214 A P) L L) L) (N (o_180 A P) (N (o_251 A P) L L) L))))))))
def tree_70 (A : AT) : Params → PySem.W.BT := (fun P => (N (boot_o_0 P) (N (boot_o_1 P) (N (o_49 A P) (N (boot_o_7 P) (N (o_51 A P) (N (o_67 A P) L L) L) (N (o_59 A P) L L)) (N (o_43 A P) (N (o_55 A P) L L) (N (o_63 A P) L L))) (N (boot_o_5 P) (N (boot_o_9 P) (N (o_53 A P) (N (o_69 A P) L L) L) (N (o_61 A P) L L)) (N (o_45 A P) (N (o_57 A P) L L) (N (o_65 A P) L L)))) (N (boot_o_2 P) (N (boot_o_4 P) (N (boot_o_8 P) (N (o_52 A P) (N (o_68 A P) L L) L) (N (o_60 A P) L L)) (N (o_50 A P) (N (o_56 A P) L L) (N (o_64 A P) L L))) (N (boot_o_6 P) (N (boot_o_10 P) (N (o_54 A P) (N (o_70 A P) L L) L) (N (o_62 A P) L L)) (N (o_46 A P) (N (o_58 A P) L L) (N (o_66 A P) L L))))))
def tree_482 (A : AT) : Params → PySem.W.BT := (fun P => (N (boot_o_0 P) (N (boot_o_1 P) (N (o_440 A P) (N (boot_o_7 P) (N (o_51 A P) (N (o_148 A P) (N (o_108 A P) (N (o_181 A P) (N (o_322 A P) L L) (N (o_459 A P) L L)) (N (o_252 A P) (N (o_389 A P) L L) L)) (N (o_149 A P) (N (o_215 A P) (N (o_357 A P) L L) L) (N (o_287 A P) (N (o_424 A P) L L) L))) (N (o_89 A P) (N (o_127 A P) (N (o_199 A P) (N (o_338 A P) L L) (N (o_475 A P) L L)) (N (o_271 A P) (N (o_408 A P) L L) L)) (N (o_165 A P) (N (o_236 A P) (N (o_373 A P) L L) L) (N (o_303 A P) (N (o_443 A P) L L) L)))) (N (o_59 A P) (N (o_78 A P) (N (o_119 A P) (N (o_191 A P) (N (o_330 A P) L L) (N (o_467 A P) L L)) (N (o_260 A P) (N (o_400 A P) L L) L)) (N (o_157 A P) (N (o_225 A P) (N (o_365 A P) L L) L) (N (o_295 A P) (N (o_432 A P) L L) L))) (N (o_97 A P) (N (o_138 A P) (N (o_207 A P) (N (o_346 A P) L L) L) (N (o_279 A P) (N (o_416 A P) L L) L)) (N (o_173 A P) (N (o_244 A P) (N (o_381 A P) L L) L) (N (o_314 A P) (N (o_451 A P) L L) L))))) (N (o_43 A P) (N (o_55 A P) (N (o_74 A P) (N (o_112 A P) (N (o_185 A P) (N (o_326 A P) L L) (N (o_463 A P) L L)) (N (o_256 A P) (N (o_393 A P) L L) L)) (N (o_153 A P) (N (o_221 A P) (N (o_361 A P) L L) L) (N (o_291 A P) (N (o_428 A P) L L) L))) (N (o_93 A P) (N (o_134 A P) (N (o_203 A P) (N (o_342 A P) L L) (N (o_479 A P) L L)) (N (o_275 A P) (N (o_412 A P) L L) L)) (N (o_169 A P) (N (o_240 A P) (N (o_377 A P) L L) L) (N (o_307 A P) (N (o_447 A P) L L) L)))) (N (o_63 A P) (N (o_82 A P) (N (o_123 A P) (N (o_195 A P) (N (o_334 A P) L L) (N (o_471 A P) L L)) (N (o_264 A P) (N (o_404 A P) L L) L)) (N (o_161 A P) (N (o_229 A P) (N (o_369 A P) L L) L) (N (o_299 A P) (N (o_436 A P) L L) L))) (N (o_104 A P) (N (o_142 A P) (N (o_211 A P) (N (o_350 A P) L L) L) (N (o_283 A P) (N (o_420 A P) L L) L)) (N (o_177 A P) (N (o_248 A P) (N (o_385 A P) L L) L) (N (o_318 A P) (N (o_455 A P) L L) L)))))) (N (boot_o_5 P) (N (boot_o_9 P) (N (o_53 A P) (N (o_69 A P) (N (o_110 A P) (N (o_183 A P) (N (o_324 A P) L L) (N (o_461 A P) L L)) (N (o_254 A P) (N (o_391 A P) L L) L)) (N (o_151 A P) (N (o_219 A P) (N (o_359 A P) L L) L) (N (o_289 A P) (N (o_426 A P) L L) L))) (N (o_91 A P) (N (o_129 A P) (N (o_201 A P) (N (o_340 A P) L L) (N (o_477 A P) L L)) (N (o_273 A P) (N (o_410 A P) L L) L)) (N (o_167 A P) (N (o_238 A P) (N (o_375 A P) L L) L) (N (o_305 A P) (N (o_445 A P) L L) L)))) (N (o_61 A P) (N (o_80 A P) (N (o_121 A P) (N (o_193 A P) (N (o_332 A P) L L) (N (o_469 A P) L L)) (N (o_262 A P) (N (o_402 A P) L L) L)) (N (o_159 A P) (N (o_442 A P) (N (o_367 A P) L L) L) (N (o_297 A P) (N (o_434 A P) L L) L))) (N (o_99 A P) (N (o_140 A P) (N (o_209 A P) (N (o_348 A P) L L) L) (N (o_281 A P) (N (o_418 A P) L L) L)) (N (o_175 A P) (N (o_246 A P) (N (o_383 A P) L L) L) (N (o_316 A P) (N (o_453 A P) L L) L))))) (N (o_45 A P) (N (o_57 A P) (N (o_76 A P) (N (o_114 A P) (N (o_187 A P) (N (o_328 A P) L L) (N (o_465 A P) L L)) (N (o_258 A P) (N (o_395 A P) L L) L)) (N (o_155 A P) (N (o_223 A P) (N (o_363 A P) L L) L) (N (o_293 A P) (N (o_430 A P) L L) L))) (N (o_95 A P) (N (o_136 A P) (N (o_205 A P) (N (o_344 A P) L L) (N (o_481 A P) L L)) (N (o_277 A P) (N (o_414 A P) L L) L)) (N (o_171 A P) (N (o_242 A P) (N (o_379 A P) L L) L) (N (o_309 A P) (N (o_449 A P) L L) L)))) (N (o_65 A P) (N (o_84 A P) (N (o_125 A P) (N (o_197 A P) (N (o_336 A P) L L) (N (o_473 A P) L L)) (N (o_266 A P) (N (o_406 A P) L L) L)) (N (o_163 A P) (N (o_231 A P) (N (o_371 A P) L L) L) (N (o_301 A P) (N (o_438 A P) L L) L))) (N (o_106 A P) (N (o_144 A P) (N (o_213 A P) (N (o_352 A P) L L) L) (N (o_285 A P) (N (o_422 A P) L L) L)) (N (o_179 A P) (N (o_250 A P) (N (o_387 A P) L L) L) (N (o_320 A P) (N (o_457 A P) L L) L))))))) (N (boot_o_2 P) (N (boot_o_4 P) (N (boot_o_8 P) (N (o_52 A P) (N (o_68 A P) (N (o_109 A P) (N (o_182 A P) (N (o_323 A P) L L) (N (o_460 A P) L L)) (N (o_253 A P) (N (o_390 A P) L L) L)) (N (o_150 A P) (N (o_218 A P) (N (o_358 A P) L L) L) (N (o_288 A P) (N (o_425 A P) L L) L))) (N (o_90 A P) (N (o_128 A P) (N (o_200 A P) (N (o_339 A P) L L) (N (o_476 A P) L L)) (N (o_272 A P) (N (o_409 A P) L L) L)) (N (o_166 A P) (N (o_237 A P) (N (o_374 A P) L L) L) (N (o_304 A P) (N (o_444 A P) L L) L)))) (N (o_60 A P) (N (o_79 A P) (N (o_120 A P) (N (o_192 A P) (N (o_331 A P) L L) (N (o_468 A P) L L)) (N (o_261 A P) (N (o_401 A P) L L) L)) (N (o_158 A P) (N (o_226 A P) (N (o_366 A P) L L) L) (N (o_296 A P) (N (o_433 A P) L L) L))) (N (o_98 A P) (N (o_139 A P) (N (o_208 A P) (N (o_347 A P) L L) L) (N (o_280 A P) (N (o_417 A P) L L) L)) (N (o_174 A P) (N (o_245 A P) (N (o_382 A P) L L) L) (N (o_315 A P) (N (o_452 A P) L L) L))))) (N (o_441 A P) (N (o_56 A P) (N (o_75 A P) (N (o_113 A P) (N (o_186 A P) (N (o_327 A P) L L) (N (o_464 A P) L L)) (N (o_257 A P) (N (o_394 A P) L L) L)) (N (o_154 A P) (N (o_222 A P) (N (o_362 A P) L L) L) (N (o_292 A P) (N (o_429 A P) L L) L))) (N (o_94 A P) (N (o_135 A P) (N (o_204 A P) (N (o_343 A P) L L) (N (o_480 A P) L L)) (N (o_276 A P) (N (o_413 A P) L L) L)) (N (o_170 A P) (N (o_241 A P) (N (o_378 A P) L L) L) (N (o_308 A P) (N (o_448 A P) L L) L)))) (N (o_64 A P) (N (o_83 A P) (N (o_124 A P) (N (o_196 A P) (N (o_335 A P) L L) (N (o_472 A P) L L)) (N (o_265 A P) (N (o_405 A P) L L) L)) (N (o_162 A P) (N (o_230 A P) (N (o_370 A P) L L) L) (N (o_300 A P) (N (o_437 A P) L L) L))) (N (o_105 A P) (N (o_143 A P) (N (o_212 A P) (N (o_351 A P) L L) L) (N (o_284 A P) (N (o_421 A P) L L) L)) (N (o_178 A P) (N (o_249 A P) (N (o_386 A P) L L) L) (N (o_319 A P) (N (o_456 A P) L L) L)))))) (N (boot_o_6 P) (N (boot_o_10 P) (N (o_54 A P) (N (o_70 A P) (N (o_111 A P) (N (o_184 A P) (N (o_325 A P) L L) (N (o_462 A P) L L)) (N (o_255 A P) (N (o_392 A P) L L) L)) (N (o_152 A P) (N (o_220 A P) (N (o_360 A P) L L) L) (N (o_290 A P) (N (o_427 A P) L L) L))) (N (o_92 A P) (N (o_130 A P) (N (o_202 A P) (N (o_341 A P) L L) (N (o_478 A P) L L)) (N (o_274 A P) (N (o_411 A P) L L) L)) (N (o_168 A P) (N (o_239 A P) (N (o_376 A P) L L) L) (N (o_306 A P) (N (o_446 A P) L L) L)))) (N (o_62 A P) (N (o_81 A P) (N (o_122 A P) (N (o_194 A P) (N (o_333 A P) L L) (N (o_470 A P) L L)) (N (o_263 A P) (N (o_403 A P) L L) L)) (N (o_160 A P) (N (o_228 A P) (N (o_368 A P) L L) L) (N (o_298 A P) (N (o_435 A P) L L) L))) (N (o_100 A P) (N (o_141 A P) (N (o_210 A P) (N (o_349 A P) L L) L) (N (o_282 A P) (N (o_419 A P) L L) L)) (N (o_176 A P) (N (o_247 A P) (N (o_384 A P) L L) L) (N (o_317 A P) (N (o_454 A P) L L) L))))) (N (o_46 A P) (N (o_58 A P) (N (o_77 A P) (N (o_115 A P) (N (o_190 A P) (N (o_329 A P) L L) (N (o_466 A P) L L)) (N (o_259 A P) (N (o_396 A P) L L) L)) (N (o_156 A P) (N (o_224 A P) (N (o_364 A P) L L) L) (N (o_294 A P) (N (o_431 A P) L L) L))) (N (o_96 A P) (N (o_137 A P) (N (o_206 A P) (N (o_345 A P) L L) (N (o_482 A P) L L)) (N (o_278 A P) (N (o_415 A P) L L) L)) (N (o_172 A P) (N (o_243 A P) (N (o_380 A P) L L) L) (N (o_310 A P) (N (o_450 A P) L L) L)))) (N (o_66 A P) (N (o_85 A P) (N (o_126 A P) (N (o_198 A P) (N (o_337 A P) L L) (N (o_474 A P) L L)) (N (o_267 A P) (N (o_407 A P) L L) L)) (N (o_164 A P) (N (o_235 A P) (N (o_372 A P) L L) L) (N (o_302 A P) (N (o_439 A P) L L) L))) (N (o_107 A P) (N (o_145 A P) (N (o_214 A P) (N (o_353 A P) L L) L) (N (o_286 A P) (N (o_423 A P) L L) L)) (N (o_180 A P) (N (o_251 A P) (N (o_388 A P) L L) L) (N (o_321 A P) (N (o_458 A P) L L) L)))))))))
def tree_145 (A : AT) : Params → PySem.W.BT := (fun P => (N (boot_o_0 P) (N (boot_o_1 P) (N (o_131 A P) (N (boot_o_7 P) (N (o_51 A P) (N (o_133 A P) (N (o_108 A P) L L) L) (N (o_89 A P) (N (o_127 A P) L L) L)) (N (o_59 A P) (N (o_78 A P) (N (o_119 A P) L L) L) (N (o_97 A P) (N (o_138 A P) L L) L))) (N (o_43 A P) (N (o_55 A P) (N (o_74 A P) (N (o_112 A P) L L) L) (N (o_93 A P) (N (o_134 A P) L L) L)) (N (o_63 A P) (N (o_82 A P) (N (o_123 A P) L L) L) (N (o_104 A P) (N (o_142 A P) L L) L)))) (N (boot_o_5 P) (N (boot_o_9 P) (N (o_53 A P) (N (o_69 A P) (N (o_110 A P) L L) L) (N (o_91 A P) (N (o_129 A P) L L) L)) (N (o_61 A P) (N (o_80 A P) (N (o_121 A P) L L) L) (N (o_99 A P) (N (o_140 A P) L L) L))) (N (o_45 A P) (N (o_57 A P) (N (o_76 A P) (N (o_114 A P) L L) L) (N (o_95 A P) (N (o_136 A P) L L) L)) (N (o_65 A P) (N (o_84 A P) (N (o_125 A P) L L) L) (N (o_106 A P) (N (o_144 A P) L L) L))))) (N (boot_o_2 P) (N (boot_o_4 P) (N (boot_o_8 P) (N (o_52 A P) (N (o_68 A P) (N (o_109 A P) L L) L) (N (o_90 A P) (N (o_128 A P) L L) L)) (N (o_60 A P) (N (o_79 A P) (N (o_120 A P) L L) L) (N (o_98 A P) (N (o_139 A P) L L) L))) (N (o_132 A P) (N (o_56 A P) (N (o_75 A P) (N (o_113 A P) L L) L) (N (o_94 A P) (N (o_135 A P) L L) L)) (N (o_64 A P) (N (o_83 A P) (N (o_124 A P) L L) L) (N (o_105 A P) (N (o_143 A P) L L) L)))) (N (boot_o_6 P) (N (boot_o_10 P) (N (o_54 A P) (N (o_70 A P) (N (o_111 A P) L L) L) (N (o_92 A P) (N (o_130 A P) L L) L)) (N (o_62 A P) (N (o_81 A P) (N (o_122 A P) L L) L) (N (o_100 A P) (N (o_141 A P) L L) L))) (N (o_46 A P) (N (o_58 A P) (N (o_77 A P) (N (o_115 A P) L L) L) (N (o_96 A P) (N (o_137 A P) L L) L)) (N (o_66 A P) (N (o_85 A P) (N (o_126 A P) L L) L) (N (o_107 A P) (N (o_145 A P) L L) L)))))))
def tree_439 (A : AT) : Params → PySem.W.BT := (fun P => (N (boot_o_0 P) (N (boot_o_1 P) (N (o_397 A P) (N (boot_o_7 P) (N (o_51 A P) (N (o_148 A P) (N (o_108 A P) (N (o_181 A P) (N (o_322 A P) L L) L) (N (o_252 A P) (N (o_389 A P) L L) L)) (N (o_149 A P) (N (o_215 A P) (N (o_357 A P) L L) L) (N (o_287 A P) (N (o_424 A P) L L) L))) (N (o_89 A P) (N (o_127 A P) (N (o_199 A P) (N (o_338 A P) L L) L) (N (o_271 A P) (N (o_408 A P) L L) L)) (N (o_165 A P) (N (o_236 A P) (N (o_373 A P) L L) L) (N (o_303 A P) L L)))) (N (o_59 A P) (N (o_78 A P) (N (o_119 A P) (N (o_191 A P) (N (o_330 A P) L L) L) (N (o_260 A P) (N (o_400 A P) L L) L)) (N (o_157 A P) (N (o_225 A P) (N (o_365 A P) L L) L) (N (o_295 A P) (N (o_432 A P) L L) L))) (N (o_97 A P) (N (o_138 A P) (N (o_207 A P) (N (o_346 A P) L L) L) (N (o_279 A P) (N (o_416 A P) L L) L)) (N (o_173 A P) (N (o_244 A P) (N (o_381 A P) L L) L) (N (o_314 A P) L L))))) (N (o_43 A P) (N (o_55 A P) (N (o_74 A P) (N (o_112 A P) (N (o_185 A P) (N (o_326 A P) L L) L) (N (o_256 A P) (N (o_393 A P) L L) L)) (N (o_153 A P) (N (o_221 A P) (N (o_361 A P) L L) L) (N (o_291 A P) (N (o_428 A P) L L) L))) (N (o_93 A P) (N (o_134 A P) (N (o_203 A P) (N (o_342 A P) L L) L) (N (o_275 A P) (N (o_412 A P) L L) L)) (N (o_169 A P) (N (o_240 A P) (N (o_377 A P) L L) L) (N (o_307 A P) L L)))) (N (o_63 A P) (N (o_82 A P) (N (o_123 A P) (N (o_195 A P) (N (o_334 A P) L L) L) (N (o_264 A P) (N (o_404 A P) L L) L)) (N (o_161 A P) (N (o_229 A P) (N (o_369 A P) L L) L) (N (o_299 A P) (N (o_436 A P) L L) L))) (N (o_104 A P) (N (o_142 A P) (N (o_211 A P) (N (o_350 A P) L L) L) (N (o_283 A P) (N (o_420 A P) L L) L)) (N (o_177 A P) (N (o_248 A P) (N (o_385 A P) L L) L) (N (o_318 A P) L L)))))) (N (boot_o_5 P) (N (boot_o_9 P) (N (o_53 A P) (N (o_69 A P) (N (o_110 A P) (N (o_183 A P) (N (o_324 A P) L L) L) (N (o_254 A P) (N (o_391 A P) L L) L)) (N (o_151 A P) (N (o_219 A P) (N (o_359 A P) L L) L) (N (o_289 A P) (N (o_426 A P) L L) L))) (N (o_91 A P) (N (o_129 A P) (N (o_201 A P) (N (o_340 A P) L L) L) (N (o_273 A P) (N (o_410 A P) L L) L)) (N (o_167 A P) (N (o_238 A P) (N (o_375 A P) L L) L) (N (o_305 A P) L L)))) (N (o_61 A P) (N (o_80 A P) (N (o_121 A P) (N (o_193 A P) (N (o_332 A P) L L) L) (N (o_262 A P) (N (o_402 A P) L L) L)) (N (o_159 A P) (N (o_399 A P) (N (o_367 A P) L L) L) (N (o_297 A P) (N (o_434 A P) L L) L))) (N (o_99 A P) (N (o_140 A P) (N (o_209 A P) (N (o_348 A P) L L) L) (N (o_281 A P) (N (o_418 A P) L L) L)) (N (o_175 A P) (N (o_246 A P) (N (o_383 A P) L L) L) (N (o_316 A P) L L))))) (N (o_45 A P) (N (o_57 A P) (N (o_76 A P) (N (o_114 A P) (N (o_187 A P) (N (o_328 A P) L L) L) (N (o_258 A P) (N (o_395 A P) L L) L)) (N (o_155 A P) (N (o_223 A P) (N (o_363 A P) L L) L) (N (o_293 A P) (N (o_430 A P) L L) L))) (N (o_95 A P) (N (o_136 A P) (N (o_205 A P) (N (o_344 A P) L L) L) (N (o_277 A P) (N (o_414 A P) L L) L)) (N (o_171 A P) (N (o_242 A P) (N (o_379 A P) L L) L) (N (o_309 A P) L L)))) (N (o_65 A P) (N (o_84 A P) (N (o_125 A P) (N (o_197 A P) (N (o_336 A P) L L) L) (N (o_266 A P) (N (o_406 A P) L L) L)) (N (o_163 A P) (N (o_231 A P) (N (o_371 A P) L L) L) (N (o_301 A P) (N (o_438 A P) L L) L))) (N (o_106 A P) (N (o_144 A P) (N (o_213 A P) (N (o_352 A P) L L) L) (N (o_285 A P) (N (o_422 A P) L L) L)) (N (o_179 A P) (N (o_250 A P) (N (o_387 A P) L L) L) (N (o_320 A P) L L))))))) (N (boot_o_2 P) (N (boot_o_4 P) (N (boot_o_8 P) (N (o_52 A P) (N (o_68 A P) (N (o_109 A P) (N (o_182 A P) (N (o_323 A P) L L) L) (N (o_253 A P) (N (o_390 A P) L L) L)) (N (o_150 A P) (N (o_218 A P) (N (o_358 A P) L L) L) (N (o_288 A P) (N (o_425 A P) L L) L))) (N (o_90 A P) (N (o_128 A P) (N (o_200 A P) (N (o_339 A P) L L) L) (N (o_272 A P) (N (o_409 A P) L L) L)) (N (o_166 A P) (N (o_237 A P) (N (o_374 A P) L L) L) (N (o_304 A P) L L)))) (N (o_60 A P) (N (o_79 A P) (N (o_120 A P) (N (o_192 A P) (N (o_331 A P) L L) L) (N (o_261 A P) (N (o_401 A P) L L) L)) (N (o_158 A P) (N (o_226 A P) (N (o_366 A P) L L) L) (N (o_296 A P) (N (o_433 A P) L L) L))) (N (o_98 A P) (N (o_139 A P) (N (o_208 A P) (N (o_347 A P) L L) L) (N (o_280 A P) (N (o_417 A P) L L) L)) (N (o_174 A P) (N (o_245 A P) (N (o_382 A P) L L) L) (N (o_315 A P) L L))))) (N (o_398 A P) (N (o_56 A P) (N (o_75 A P) (N (o_113 A P) (N (o_186 A P) (N (o_327 A P) L L) L) (N (o_257 A P) (N (o_394 A P) L L) L)) (N (o_154 A P) (N (o_222 A P) (N (o_362 A P) L L) L) (N (o_292 A P) (N (o_429 A P) L L) L))) (N (o_94 A P) (N (o_135 A P) (N (o_204 A P) (N (o_343 A P) L L) L) (N (o_276 A P) (N (o_413 A P) L L) L)) (N (o_170 A P) (N (o_241 A P) (N (o_378 A P) L L) L) (N (o_308 A P) L L)))) (N (o_64 A P) (N (o_83 A P) (N (o_124 A P) (N (o_196 A P) (N (o_335 A P) L L) L) (N (o_265 A P) (N (o_405 A P) L L) L)) (N (o_162 A P) (N (o_230 A P) (N (o_370 A P) L L) L) (N (o_300 A P) (N (o_437 A P) L L) L))) (N (o_105 A P) (N (o_143 A P) (N (o_212 A P) (N (o_351 A P) L L) L) (N (o_284 A P) (N (o_421 A P) L L) L)) (N (o_178 A P) (N (o_249 A P) (N (o_386 A P) L L) L) (N (o_319 A P) L L)))))) (N (boot_o_6 P) (N (boot_o_10 P) (N (o_54 A P) (N (o_70 A P) (N (o_111 A P) (N (o_184 A P) (N (o_325 A P) L L) L) (N (o_255 A P) (N (o_392 A P) L L) L)) (N (o_152 A P) (N (o_220 A P) (N (o_360 A P) L L) L) (N (o_290 A P) (N (o_427 A P) L L) L))) (N (o_92 A P) (N (o_130 A P) (N (o_202 A P) (N (o_341 A P) L L) L) (N (o_274 A P) (N (o_411 A P) L L) L)) (N (o_168 A P) (N (o_239 A P) (N (o_376 A P) L L) L) (N (o_306 A P) L L)))) (N (o_62 A P) (N (o_81 A P) (N (o_122 A P) (N (o_194 A P) (N (o_333 A P) L L) L) (N (o_263 A P) (N (o_403 A P) L L) L)) (N (o_160 A P) (N (o_228 A P) (N (o_368 A P) L L) L) (N (o_298 A P) (N (o_435 A P) L L) L))) (N (o_100 A P) (N (o_141 A P) (N (o_210 A P) (N (o_349 A P) L L) L) (N (o_282 A P) (N (o_419 A P) L L) L)) (N (o_176 A P) (N (o_247 A P) (N (o_384 A P) L L) L) (N (o_317 A P) L L))))) (N (o_46 A P) (N (o_58 A P) (N (o_77 A P) (N (o_115 A P) (N (o_190 A P) (N (o_329 A P) L L) L) (N (o_259 A P) (N (o_396 A P) L L) L)) (N (o_156 A P) (N (o_224 A P) (N (o_364 A P) L L) L) (N (o_294 A P) (N (o_431 A P) L L) L))) (N (o_96 A P) (N (o_137 A P) (N (o_206 A P) (N (o_345 A P) L L) L) (N (o_278 A P) (N (o_415 A P) L L) L)) (N (o_172 A P) (N (o_243 A P) (N (o_380 A P) L L) L) (N (o_310 A P) L L)))) (N (o_66 A P) (N (o_85 A P) (N (o_126 A P) (N (o_198 A P) (N (o_337 A P) L L) L) (N (o_267 A P) (N (o_407 A P) L L) L)) (N (o_164 A P) (N (o_235 A P) (N (o_372 A P) L L) L) (N (o_302 A P) (N (o_439 A P) L L) L))) (N (o_107 A P) (N (o_145 A P) (N (o_214 A P) (N (o_353 A P) L L) L) (N (o_286 A P) (N (o_423 A P) L L) L)) (N (o_180 A P) (N (o_251 A P) (N (o_388 A P) L L) L) (N (o_321 A P) L L)))))))))
end
theorem trig : (PySem.Challenge.pw_bellsaway_k07_fits_made.main.body.length == 0) = (PySem.Challenge.pw_bellsaway_k07_fits_made.main.body.length == 0) := rfl
theorem trig2 : (!(PySem.Challenge.pw_bellsaway_k07_fits_made.main.body.length == 0)) = true := by k_qdec
def a0 : List Str := [Str.ofString "_law_fit", Str.ofString "_law_found", Str.ofString "weight_bits", Str.ofString "Either.weight_bits", Str.ofString "/claim/cut.py", Str.ofString "__name__", Str.ofString "bellsaway.happenings", Str.ofString "__doc__", Str.ofString "__package__", Str.ofString "__loader__", Str.ofString "__spec__", Str.ofString "__annotations__", Str.ofString "__builtins__", Str.ofString "__file__", Str.ofString "__cached__", Str.ofString "_wall", Str.ofString "BellError", Str.ofString "NoClock", Str.ofString "NoHappening", Str.ofString "NoFit", Str.ofString "NoWish", Str.ofString "NoRow", Str.ofString "NoText", Str.ofString "is_whole", Str.ofString "is_whole_from", Str.ofString "LETTERS", Str.ofString "abcdefghijklmnopqrstuvwxyz", Str.ofString "MOST_LETTERS", Str.ofString "is_name", Str.ofString "note_turns", Str.ofString "Least.note_turns", Str.ofString "__module__", Str.ofString "bellsaway.errors", Str.ofString "__firstlineno__", Str.ofString "__static_attributes__", Str.ofString "self", Str.ofString "kind", Str.ofString "place", Str.ofString "weight", Str.ofString "fits_it", Str.ofString "Not.fits_it", Str.ofString "bellsaway.fits", Str.ofString "Any.note_turns", Str.ofString "_law_several", Str.ofString "__qualname__", Str.ofString "check_fits", Str.ofString "Not", Str.ofString "Any", Str.ofString "__init__", Str.ofString "law_bellsaway_k07_fits_made", Str.ofString "_law_begin", Str.ofString "Least.fits_it", Str.ofString "Happening", Str.ofString "are_unlike_names", Str.ofString "Fit", Str.ofString "Kind", Str.ofString "_law_is_kind", Str.ofString "_law_odd", Str.ofString "Least.__init__", Str.ofString "_law_made", Str.ofString "Both.fits_it", Str.ofString "Kind.note_turns", Str.ofString "thing", Str.ofString "least", Str.ofString "Least", Str.ofString "Place", Str.ofString "Either", Str.ofString "_law_cell", Str.ofString "_law_state", Str.ofString "_law_base", Str.ofString "_law_number", Str.ofString "kinds", Str.ofString "places", Str.ofString "weights", Str.ofString "Place.note_turns", Str.ofString "Both.weight_bits", Str.ofString "__main__", Str.ofString "line", Str.ofString "Happening.__init__", Str.ofString "_law_next", Str.ofString "law", Str.ofString "_law_named", Str.ofString "Not.__init__", Str.ofString "Both.__init__", Str.ofString "__dict__", Str.ofString "__weakref__", Str.ofString "Least.weight_bits", Str.ofString "Place.fits_it", Str.ofString "Any.weight_bits", Str.ofString "Place.__init__", Str.ofString "Both.note_turns", Str.ofString "_law_at", Str.ofString "_law_names_here", Str.ofString "_law_handed", Str.ofString "_law_most", Str.ofString "_law_k", Str.ofString "_law_name_here", Str.ofString "_law_cell_at", Str.ofString "from_weight", Str.ofString "Either.fits_it", Str.ofString "Either.note_turns", Str.ofString "Both", Str.ofString "check_names", Str.ofString "check_fit", Str.ofString "_law_name", Str.ofString "_law_names", Str.ofString "_law_kinds", Str.ofString "_law_refused", Str.ofString "Kind.fits_it", Str.ofString "_law_thing", Str.ofString "e", Str.ofString "_law_other", Str.ofString "Not.weight_bits", Str.ofString "fit", Str.ofString "bellsaway.wholes", Str.ofString "Kind.__init__", Str.ofString "names", Str.ofString "Place.weight_bits", Str.ofString "fits", Str.ofString "Not.note_turns", Str.ofString "<module>", Str.ofString "happening", Str.ofString "Kind.weight_bits", Str.ofString "NoText.__init__", Str.ofString "Either.__init__", Str.ofString "Any.fits_it", Str.ofString "bellsaway.words", Str.ofString "k", Str.ofString "_law_script"]
def a1 : List Str := [⟨⟨[95, 108, 97, 119, 95, 102, 105, 116]⟩⟩, ⟨⟨[95, 108, 97, 119, 95, 102, 111, 117, 110, 100]⟩⟩, ⟨⟨[119, 101, 105, 103, 104, 116, 95, 98, 105, 116, 115]⟩⟩, ⟨⟨[69, 105, 116, 104, 101, 114, 46, 119, 101, 105, 103, 104, 116, 95, 98, 105, 116, 115]⟩⟩, ⟨⟨[47, 99, 108, 97, 105, 109, 47, 99, 117, 116, 46, 112, 121]⟩⟩, ⟨⟨[95, 95, 110, 97, 109, 101, 95, 95]⟩⟩, ⟨⟨[98, 101, 108, 108, 115, 97, 119, 97, 121, 46, 104, 97, 112, 112, 101, 110, 105, 110, 103, 115]⟩⟩, ⟨⟨[95, 95, 100, 111, 99, 95, 95]⟩⟩, ⟨⟨[95, 95, 112, 97, 99, 107, 97, 103, 101, 95, 95]⟩⟩, ⟨⟨[95, 95, 108, 111, 97, 100, 101, 114, 95, 95]⟩⟩, ⟨⟨[95, 95, 115, 112, 101, 99, 95, 95]⟩⟩, ⟨⟨[95, 95, 97, 110, 110, 111, 116, 97, 116, 105, 111, 110, 115, 95, 95]⟩⟩, ⟨⟨[95, 95, 98, 117, 105, 108, 116, 105, 110, 115, 95, 95]⟩⟩, ⟨⟨[95, 95, 102, 105, 108, 101, 95, 95]⟩⟩, ⟨⟨[95, 95, 99, 97, 99, 104, 101, 100, 95, 95]⟩⟩, ⟨⟨[95, 119, 97, 108, 108]⟩⟩, ⟨⟨[66, 101, 108, 108, 69, 114, 114, 111, 114]⟩⟩, ⟨⟨[78, 111, 67, 108, 111, 99, 107]⟩⟩, ⟨⟨[78, 111, 72, 97, 112, 112, 101, 110, 105, 110, 103]⟩⟩, ⟨⟨[78, 111, 70, 105, 116]⟩⟩, ⟨⟨[78, 111, 87, 105, 115, 104]⟩⟩, ⟨⟨[78, 111, 82, 111, 119]⟩⟩, ⟨⟨[78, 111, 84, 101, 120, 116]⟩⟩, ⟨⟨[105, 115, 95, 119, 104, 111, 108, 101]⟩⟩, ⟨⟨[105, 115, 95, 119, 104, 111, 108, 101, 95, 102, 114, 111, 109]⟩⟩, ⟨⟨[76, 69, 84, 84, 69, 82, 83]⟩⟩, ⟨⟨[97, 98, 99, 100, 101, 102, 103, 104, 105, 106, 107, 108, 109, 110, 111, 112, 113, 114, 115, 116, 117, 118, 119, 120, 121, 122]⟩⟩, ⟨⟨[77, 79, 83, 84, 95, 76, 69, 84, 84, 69, 82, 83]⟩⟩, ⟨⟨[105, 115, 95, 110, 97, 109, 101]⟩⟩, ⟨⟨[110, 111, 116, 101, 95, 116, 117, 114, 110, 115]⟩⟩, ⟨⟨[76, 101, 97, 115, 116, 46, 110, 111, 116, 101, 95, 116, 117, 114, 110, 115]⟩⟩, ⟨⟨[95, 95, 109, 111, 100, 117, 108, 101, 95, 95]⟩⟩, ⟨⟨[98, 101, 108, 108, 115, 97, 119, 97, 121, 46, 101, 114, 114, 111, 114, 115]⟩⟩, ⟨⟨[95, 95, 102, 105, 114, 115, 116, 108, 105, 110, 101, 110, 111, 95, 95]⟩⟩, ⟨⟨[95, 95, 115, 116, 97, 116, 105, 99, 95, 97, 116, 116, 114, 105, 98, 117, 116, 101, 115, 95, 95]⟩⟩, ⟨⟨[115, 101, 108, 102]⟩⟩, ⟨⟨[107, 105, 110, 100]⟩⟩, ⟨⟨[112, 108, 97, 99, 101]⟩⟩, ⟨⟨[119, 101, 105, 103, 104, 116]⟩⟩, ⟨⟨[102, 105, 116, 115, 95, 105, 116]⟩⟩, ⟨⟨[78, 111, 116, 46, 102, 105, 116, 115, 95, 105, 116]⟩⟩, ⟨⟨[98, 101, 108, 108, 115, 97, 119, 97, 121, 46, 102, 105, 116, 115]⟩⟩, ⟨⟨[65, 110, 121, 46, 110, 111, 116, 101, 95, 116, 117, 114, 110, 115]⟩⟩, ⟨⟨[95, 108, 97, 119, 95, 115, 101, 118, 101, 114, 97, 108]⟩⟩, ⟨⟨[95, 95, 113, 117, 97, 108, 110, 97, 109, 101, 95, 95]⟩⟩, ⟨⟨[99, 104, 101, 99, 107, 95, 102, 105, 116, 115]⟩⟩, ⟨⟨[78, 111, 116]⟩⟩, ⟨⟨[65, 110, 121]⟩⟩, ⟨⟨[95, 95, 105, 110, 105, 116, 95, 95]⟩⟩, ⟨⟨[108, 97, 119, 95, 98, 101, 108, 108, 115, 97, 119, 97, 121, 95, 107, 48, 55, 95, 102, 105, 116, 115, 95, 109, 97, 100, 101]⟩⟩, ⟨⟨[95, 108, 97, 119, 95, 98, 101, 103, 105, 110]⟩⟩, ⟨⟨[76, 101, 97, 115, 116, 46, 102, 105, 116, 115, 95, 105, 116]⟩⟩, ⟨⟨[72, 97, 112, 112, 101, 110, 105, 110, 103]⟩⟩, ⟨⟨[97, 114, 101, 95, 117, 110, 108, 105, 107, 101, 95, 110, 97, 109, 101, 115]⟩⟩, ⟨⟨[70, 105, 116]⟩⟩, ⟨⟨[75, 105, 110, 100]⟩⟩, ⟨⟨[95, 108, 97, 119, 95, 105, 115, 95, 107, 105, 110, 100]⟩⟩, ⟨⟨[95, 108, 97, 119, 95, 111, 100, 100]⟩⟩, ⟨⟨[76, 101, 97, 115, 116, 46, 95, 95, 105, 110, 105, 116, 95, 95]⟩⟩, ⟨⟨[95, 108, 97, 119, 95, 109, 97, 100, 101]⟩⟩, ⟨⟨[66, 111, 116, 104, 46, 102, 105, 116, 115, 95, 105, 116]⟩⟩, ⟨⟨[75, 105, 110, 100, 46, 110, 111, 116, 101, 95, 116, 117, 114, 110, 115]⟩⟩, ⟨⟨[116, 104, 105, 110, 103]⟩⟩, ⟨⟨[108, 101, 97, 115, 116]⟩⟩, ⟨⟨[76, 101, 97, 115, 116]⟩⟩, ⟨⟨[80, 108, 97, 99, 101]⟩⟩, ⟨⟨[69, 105, 116, 104, 101, 114]⟩⟩, ⟨⟨[95, 108, 97, 119, 95, 99, 101, 108, 108]⟩⟩, ⟨⟨[95, 108, 97, 119, 95, 115, 116, 97, 116, 101]⟩⟩, ⟨⟨[95, 108, 97, 119, 95, 98, 97, 115, 101]⟩⟩, ⟨⟨[95, 108, 97, 119, 95, 110, 117, 109, 98, 101, 114]⟩⟩, ⟨⟨[107, 105, 110, 100, 115]⟩⟩, ⟨⟨[112, 108, 97, 99, 101, 115]⟩⟩, ⟨⟨[119, 101, 105, 103, 104, 116, 115]⟩⟩, ⟨⟨[80, 108, 97, 99, 101, 46, 110, 111, 116, 101, 95, 116, 117, 114, 110, 115]⟩⟩, ⟨⟨[66, 111, 116, 104, 46, 119, 101, 105, 103, 104, 116, 95, 98, 105, 116, 115]⟩⟩, ⟨⟨[95, 95, 109, 97, 105, 110, 95, 95]⟩⟩, ⟨⟨[108, 105, 110, 101]⟩⟩, ⟨⟨[72, 97, 112, 112, 101, 110, 105, 110, 103, 46, 95, 95, 105, 110, 105, 116, 95, 95]⟩⟩, ⟨⟨[95, 108, 97, 119, 95, 110, 101, 120, 116]⟩⟩, ⟨⟨[108, 97, 119]⟩⟩, ⟨⟨[95, 108, 97, 119, 95, 110, 97, 109, 101, 100]⟩⟩, ⟨⟨[78, 111, 116, 46, 95, 95, 105, 110, 105, 116, 95, 95]⟩⟩, ⟨⟨[66, 111, 116, 104, 46, 95, 95, 105, 110, 105, 116, 95, 95]⟩⟩, ⟨⟨[95, 95, 100, 105, 99, 116, 95, 95]⟩⟩, ⟨⟨[95, 95, 119, 101, 97, 107, 114, 101, 102, 95, 95]⟩⟩, ⟨⟨[76, 101, 97, 115, 116, 46, 119, 101, 105, 103, 104, 116, 95, 98, 105, 116, 115]⟩⟩, ⟨⟨[80, 108, 97, 99, 101, 46, 102, 105, 116, 115, 95, 105, 116]⟩⟩, ⟨⟨[65, 110, 121, 46, 119, 101, 105, 103, 104, 116, 95, 98, 105, 116, 115]⟩⟩, ⟨⟨[80, 108, 97, 99, 101, 46, 95, 95, 105, 110, 105, 116, 95, 95]⟩⟩, ⟨⟨[66, 111, 116, 104, 46, 110, 111, 116, 101, 95, 116, 117, 114, 110, 115]⟩⟩, ⟨⟨[95, 108, 97, 119, 95, 97, 116]⟩⟩, ⟨⟨[95, 108, 97, 119, 95, 110, 97, 109, 101, 115, 95, 104, 101, 114, 101]⟩⟩, ⟨⟨[95, 108, 97, 119, 95, 104, 97, 110, 100, 101, 100]⟩⟩, ⟨⟨[95, 108, 97, 119, 95, 109, 111, 115, 116]⟩⟩, ⟨⟨[95, 108, 97, 119, 95, 107]⟩⟩, ⟨⟨[95, 108, 97, 119, 95, 110, 97, 109, 101, 95, 104, 101, 114, 101]⟩⟩, ⟨⟨[95, 108, 97, 119, 95, 99, 101, 108, 108, 95, 97, 116]⟩⟩, ⟨⟨[102, 114, 111, 109, 95, 119, 101, 105, 103, 104, 116]⟩⟩, ⟨⟨[69, 105, 116, 104, 101, 114, 46, 102, 105, 116, 115, 95, 105, 116]⟩⟩, ⟨⟨[69, 105, 116, 104, 101, 114, 46, 110, 111, 116, 101, 95, 116, 117, 114, 110, 115]⟩⟩, ⟨⟨[66, 111, 116, 104]⟩⟩, ⟨⟨[99, 104, 101, 99, 107, 95, 110, 97, 109, 101, 115]⟩⟩, ⟨⟨[99, 104, 101, 99, 107, 95, 102, 105, 116]⟩⟩, ⟨⟨[95, 108, 97, 119, 95, 110, 97, 109, 101]⟩⟩, ⟨⟨[95, 108, 97, 119, 95, 110, 97, 109, 101, 115]⟩⟩, ⟨⟨[95, 108, 97, 119, 95, 107, 105, 110, 100, 115]⟩⟩, ⟨⟨[95, 108, 97, 119, 95, 114, 101, 102, 117, 115, 101, 100]⟩⟩, ⟨⟨[75, 105, 110, 100, 46, 102, 105, 116, 115, 95, 105, 116]⟩⟩, ⟨⟨[95, 108, 97, 119, 95, 116, 104, 105, 110, 103]⟩⟩, ⟨⟨[101]⟩⟩, ⟨⟨[95, 108, 97, 119, 95, 111, 116, 104, 101, 114]⟩⟩, ⟨⟨[78, 111, 116, 46, 119, 101, 105, 103, 104, 116, 95, 98, 105, 116, 115]⟩⟩, ⟨⟨[102, 105, 116]⟩⟩, ⟨⟨[98, 101, 108, 108, 115, 97, 119, 97, 121, 46, 119, 104, 111, 108, 101, 115]⟩⟩, ⟨⟨[75, 105, 110, 100, 46, 95, 95, 105, 110, 105, 116, 95, 95]⟩⟩, ⟨⟨[110, 97, 109, 101, 115]⟩⟩, ⟨⟨[80, 108, 97, 99, 101, 46, 119, 101, 105, 103, 104, 116, 95, 98, 105, 116, 115]⟩⟩, ⟨⟨[102, 105, 116, 115]⟩⟩, ⟨⟨[78, 111, 116, 46, 110, 111, 116, 101, 95, 116, 117, 114, 110, 115]⟩⟩, ⟨⟨[60, 109, 111, 100, 117, 108, 101, 62]⟩⟩, ⟨⟨[104, 97, 112, 112, 101, 110, 105, 110, 103]⟩⟩, ⟨⟨[75, 105, 110, 100, 46, 119, 101, 105, 103, 104, 116, 95, 98, 105, 116, 115]⟩⟩, ⟨⟨[78, 111, 84, 101, 120, 116, 46, 95, 95, 105, 110, 105, 116, 95, 95]⟩⟩, ⟨⟨[69, 105, 116, 104, 101, 114, 46, 95, 95, 105, 110, 105, 116, 95, 95]⟩⟩, ⟨⟨[65, 110, 121, 46, 102, 105, 116, 115, 95, 105, 116]⟩⟩, ⟨⟨[98, 101, 108, 108, 115, 97, 119, 97, 121, 46, 119, 111, 114, 100, 115]⟩⟩, ⟨⟨[107]⟩⟩, ⟨⟨[95, 108, 97, 119, 95, 115, 99, 114, 105, 112, 116]⟩⟩]
def t0 : List String := ["tuple", "code", "dict", "__main__.__loader__#opaque", "type", "ValueError", "Exception", "BaseException", "object", "ValueError.__new__", "super", "function", "object.__new__", "builtin_function_or_method", "object.__init_subclass__", "frame", "type.__prepare__", "getset_descriptor", "function.__dict__", "function.__dict__#set", "ExceptionGroup.__weakref__"]
noncomputable def t1 : List String := [PySem.W.SL.s2766695959194262286x5, PySem.W.SL.s5856160107412720595x4, PySem.W.SL.s14018661285674007319x4, PySem.W.SL.s7097527257260152453x26, PySem.W.SL.s17162191345867700912x4, PySem.W.SL.s6070975301684473832x10, PySem.W.SL.s5946037652744460706x9, PySem.W.SL.s4278001404047624695x13, PySem.W.SL.s2742458400755230247x6, PySem.W.SL.s4209523147560561109x18, PySem.W.SL.s4290257624100764138x5, PySem.W.SL.s7174869446012820540x8, PySem.W.SL.s11443829558043349243x14, PySem.W.SL.s11030030927630378310x26, PySem.W.SL.s4860613602091757760x24, PySem.W.SL.s658472552662922059x5, PySem.W.SL.s10062305145149207511x16, PySem.W.SL.s14755015743595814543x17, PySem.W.SL.s6511155373996960695x17, PySem.W.SL.s12411053484034534018x21, PySem.W.SL.s10220274742760427390x26]
theorem cc {α : Type} {x y : α} {l m : List α} (h : x = y) (k : l = m) : x :: l = y :: m := by rw [h, k]
theorem ea : a0 = a1 := (cc (by kernel_rfl) (cc (by kernel_rfl) (cc (by kernel_rfl) (cc (by kernel_rfl) (cc (by kernel_rfl) (cc (by kernel_rfl) (cc (by kernel_rfl) (cc (by kernel_rfl) (cc (by kernel_rfl) (cc (by kernel_rfl) (cc (by kernel_rfl) (cc (by kernel_rfl) (cc (by kernel_rfl) (cc (by kernel_rfl) (cc (by kernel_rfl) (cc (by kernel_rfl) (cc (by kernel_rfl) (cc (by kernel_rfl) (cc (by kernel_rfl) (cc (by kernel_rfl) (cc (by kernel_rfl) (cc (by kernel_rfl) (cc (by kernel_rfl) (cc (by kernel_rfl) (cc (by kernel_rfl) (cc (by kernel_rfl) (cc (by kernel_rfl) (cc (by kernel_rfl) (cc (by kernel_rfl) (cc (by kernel_rfl) (cc (by kernel_rfl) (cc (by kernel_rfl) (cc (by kernel_rfl) (cc (by kernel_rfl) (cc (by kernel_rfl) (cc (by kernel_rfl) (cc (by kernel_rfl) (cc (by kernel_rfl) (cc (by kernel_rfl) (cc (by kernel_rfl) (cc (by kernel_rfl) (cc (by kernel_rfl) (cc (by kernel_rfl) (cc (by kernel_rfl) (cc (by kernel_rfl) (cc (by kernel_rfl) (cc (by kernel_rfl) (cc (by kernel_rfl) (cc (by kernel_rfl) (cc (by kernel_rfl) (cc (by kernel_rfl) (cc (by kernel_rfl) (cc (by kernel_rfl) (cc (by kernel_rfl) (cc (by kernel_rfl) (cc (by kernel_rfl) (cc (by kernel_rfl) (cc (by kernel_rfl) (cc (by kernel_rfl) (cc (by kernel_rfl) (cc (by kernel_rfl) (cc (by kernel_rfl) (cc (by kernel_rfl) (cc (by kernel_rfl) (cc (by kernel_rfl) (cc (by kernel_rfl) (cc (by kernel_rfl) (cc (by kernel_rfl) (cc (by kernel_rfl) (cc (by kernel_rfl) (cc (by kernel_rfl) (cc (by kernel_rfl) (cc (by kernel_rfl) (cc (by kernel_rfl) (cc (by kernel_rfl) (cc (by kernel_rfl) (cc (by kernel_rfl) (cc (by kernel_rfl) (cc (by kernel_rfl) (cc (by kernel_rfl) (cc (by kernel_rfl) (cc (by kernel_rfl) (cc (by kernel_rfl) (cc (by kernel_rfl) (cc (by kernel_rfl) (cc (by kernel_rfl) (cc (by kernel_rfl) (cc (by kernel_rfl) (cc (by kernel_rfl) (cc (by kernel_rfl) (cc (by kernel_rfl) (cc (by kernel_rfl) (cc (by kernel_rfl) (cc (by kernel_rfl) (cc (by kernel_rfl) (cc (by kernel_rfl) (cc (by kernel_rfl) (cc (by kernel_rfl) (cc (by kernel_rfl) (cc (by kernel_rfl) (cc (by kernel_rfl) (cc (by kernel_rfl) (cc (by kernel_rfl) (cc (by kernel_rfl) (cc (by kernel_rfl) (cc (by kernel_rfl) (cc (by kernel_rfl) (cc (by kernel_rfl) (cc (by kernel_rfl) (cc (by kernel_rfl) (cc (by kernel_rfl) (cc (by kernel_rfl) (cc (by kernel_rfl) (cc (by kernel_rfl) (cc (by kernel_rfl) (cc (by kernel_rfl) (cc (by kernel_rfl) (cc (by kernel_rfl) (cc (by kernel_rfl) (cc (by kernel_rfl) (cc (by kernel_rfl) (cc (by kernel_rfl) (cc (by kernel_rfl) (cc (by kernel_rfl) (cc (by kernel_rfl) (cc (by kernel_rfl) (cc (by kernel_rfl) (cc (by kernel_rfl) (cc (by kernel_rfl) rfl)))))))))))))))))))))))))))))))))))))))))))))))))))))))))))))))))))))))))))))))))))))))))))))))))))))))))))))))))))))))))))))))))
theorem et : t0 = t1 := (cc PySem.W.SL.e2766695959194262286x5 (cc PySem.W.SL.e5856160107412720595x4 (cc PySem.W.SL.e14018661285674007319x4 (cc PySem.W.SL.e7097527257260152453x26 (cc PySem.W.SL.e17162191345867700912x4 (cc PySem.W.SL.e6070975301684473832x10 (cc PySem.W.SL.e5946037652744460706x9 (cc PySem.W.SL.e4278001404047624695x13 (cc PySem.W.SL.e2742458400755230247x6 (cc PySem.W.SL.e4209523147560561109x18 (cc PySem.W.SL.e4290257624100764138x5 (cc PySem.W.SL.e7174869446012820540x8 (cc PySem.W.SL.e11443829558043349243x14 (cc PySem.W.SL.e11030030927630378310x26 (cc PySem.W.SL.e4860613602091757760x24 (cc PySem.W.SL.e658472552662922059x5 (cc PySem.W.SL.e10062305145149207511x16 (cc PySem.W.SL.e14755015743595814543x17 (cc PySem.W.SL.e6511155373996960695x17 (cc PySem.W.SL.e12411053484034534018x21 (cc PySem.W.SL.e10220274742760427390x26 rfl)))))))))))))))))))))
noncomputable def A0 : AT := ⟨PySem.Challenge.pw_bellsaway_k07_fits_made, a0, t0⟩
noncomputable def B0 : AT := ⟨PySem.W.Fast.tw798628423071911851, a1, t1⟩
theorem ab : A0 = B0 := by
  unfold A0 B0
  rw [ea, et, PySem.W.Fast.te798628423071911851]
end Hd
noncomputable def PySem.W.Fast.tw2799898127450728417 : PySem.Params → PySem.W.BT := Hd.tree_631 Hd.B0
theorem PySem.W.Fast.te2799898127450728417 : Hd.tree_631 Hd.A0 = PySem.W.Fast.tw2799898127450728417 := congrArg Hd.tree_631 Hd.ab
noncomputable def PySem.W.Fast.tw1219905249920679362 : PySem.Params → PySem.W.BT := Hd.tree_100 Hd.B0
theorem PySem.W.Fast.te1219905249920679362 : Hd.tree_100 Hd.A0 = PySem.W.Fast.tw1219905249920679362 := congrArg Hd.tree_100 Hd.ab
noncomputable def PySem.W.Fast.tw12876404283320688226 : PySem.Params → PySem.Heap := Hd.heap_632 Hd.B0
theorem PySem.W.Fast.te12876404283320688226 : Hd.heap_632 Hd.A0 = PySem.W.Fast.tw12876404283320688226 := congrArg Hd.heap_632 Hd.ab
noncomputable def PySem.W.Fast.tw4412355146610296514 : PySem.Params → PySem.W.BT := Hd.tree_215 Hd.B0
theorem PySem.W.Fast.te4412355146610296514 : Hd.tree_215 Hd.A0 = PySem.W.Fast.tw4412355146610296514 := congrArg Hd.tree_215 Hd.ab
noncomputable def PySem.W.Fast.tw17088939047592776137 : PySem.Params → PySem.W.BT := Hd.tree_396 Hd.B0
theorem PySem.W.Fast.te17088939047592776137 : Hd.tree_396 Hd.A0 = PySem.W.Fast.tw17088939047592776137 := congrArg Hd.tree_396 Hd.ab
noncomputable def PySem.W.Fast.tw5839410034471991977 : PySem.Params → PySem.W.BT := Hd.tree_532 Hd.B0
theorem PySem.W.Fast.te5839410034471991977 : Hd.tree_532 Hd.A0 = PySem.W.Fast.tw5839410034471991977 := congrArg Hd.tree_532 Hd.ab
noncomputable def PySem.W.Fast.tw148714966180699661 : PySem.Params → PySem.W.BT := Hd.tree_353 Hd.B0
theorem PySem.W.Fast.te148714966180699661 : Hd.tree_353 Hd.A0 = PySem.W.Fast.tw148714966180699661 := congrArg Hd.tree_353 Hd.ab
noncomputable def PySem.W.Fast.tw12324438103576696304 : PySem.Params → PySem.Heap := Hd.heap_46 Hd.B0
theorem PySem.W.Fast.te12324438103576696304 : Hd.heap_46 Hd.A0 = PySem.W.Fast.tw12324438103576696304 := congrArg Hd.heap_46 Hd.ab
noncomputable def PySem.W.Fast.tw17013169562515242545 : PySem.Params → PySem.W.BT := Hd.tree_85 Hd.B0
theorem PySem.W.Fast.te17013169562515242545 : Hd.tree_85 Hd.A0 = PySem.W.Fast.tw17013169562515242545 := congrArg Hd.tree_85 Hd.ab
noncomputable def PySem.W.Fast.tw1317400253929464402 : PySem.Params → PySem.W.BT := Hd.tree_47 Hd.B0
theorem PySem.W.Fast.te1317400253929464402 : Hd.tree_47 Hd.A0 = PySem.W.Fast.tw1317400253929464402 := congrArg Hd.tree_47 Hd.ab
noncomputable def PySem.W.Fast.tw15887579245703412755 : PySem.Params → PySem.W.BT := Hd.tree_231 Hd.B0
theorem PySem.W.Fast.te15887579245703412755 : Hd.tree_231 Hd.A0 = PySem.W.Fast.tw15887579245703412755 := congrArg Hd.tree_231 Hd.ab
noncomputable def PySem.W.Fast.tw3500278983097439283 : PySem.Params → PySem.W.BT := Hd.tree_619 Hd.B0
theorem PySem.W.Fast.te3500278983097439283 : Hd.tree_619 Hd.A0 = PySem.W.Fast.tw3500278983097439283 := congrArg Hd.tree_619 Hd.ab
noncomputable def PySem.W.Fast.tw13773907730627416564 : PySem.Params → PySem.W.BT := Hd.tree_310 Hd.B0
theorem PySem.W.Fast.te13773907730627416564 : Hd.tree_310 Hd.A0 = PySem.W.Fast.tw13773907730627416564 := congrArg Hd.tree_310 Hd.ab
noncomputable def PySem.W.Fast.tw8641663333346641524 : PySem.Params → PySem.W.BT := Hd.tree_187 Hd.B0
theorem PySem.W.Fast.te8641663333346641524 : Hd.tree_187 Hd.A0 = PySem.W.Fast.tw8641663333346641524 := congrArg Hd.tree_187 Hd.ab
noncomputable def PySem.W.Fast.tw3269060733815673752 : PySem.Params → PySem.W.BT := Hd.tree_130 Hd.B0
theorem PySem.W.Fast.te3269060733815673752 : Hd.tree_130 Hd.A0 = PySem.W.Fast.tw3269060733815673752 := congrArg Hd.tree_130 Hd.ab
noncomputable def PySem.W.Fast.tw7044144604537453657 : PySem.Params → PySem.W.BT := Hd.tree_115 Hd.B0
theorem PySem.W.Fast.te7044144604537453657 : Hd.tree_115 Hd.A0 = PySem.W.Fast.tw7044144604537453657 := congrArg Hd.tree_115 Hd.ab
noncomputable def PySem.W.Fast.tw16382169758464934235 : PySem.Params → PySem.W.BT := Hd.tree_267 Hd.B0
theorem PySem.W.Fast.te16382169758464934235 : Hd.tree_267 Hd.A0 = PySem.W.Fast.tw16382169758464934235 := congrArg Hd.tree_267 Hd.ab
noncomputable def PySem.W.Fast.tw6535084645620440380 : PySem.Params → PySem.W.BT := Hd.tree_70 Hd.B0
theorem PySem.W.Fast.te6535084645620440380 : Hd.tree_70 Hd.A0 = PySem.W.Fast.tw6535084645620440380 := congrArg Hd.tree_70 Hd.ab
noncomputable def PySem.W.Fast.tw3571485161667384924 : PySem.Params → PySem.W.BT := Hd.tree_482 Hd.B0
theorem PySem.W.Fast.te3571485161667384924 : Hd.tree_482 Hd.A0 = PySem.W.Fast.tw3571485161667384924 := congrArg Hd.tree_482 Hd.ab
noncomputable def PySem.W.Fast.tw10364982220955940573 : PySem.Params → PySem.W.BT := Hd.tree_145 Hd.B0
theorem PySem.W.Fast.te10364982220955940573 : Hd.tree_145 Hd.A0 = PySem.W.Fast.tw10364982220955940573 := congrArg Hd.tree_145 Hd.ab
noncomputable def PySem.W.Fast.tw4848661813048885534 : PySem.Params → PySem.W.BT := Hd.tree_439 Hd.B0
theorem PySem.W.Fast.te4848661813048885534 : Hd.tree_439 Hd.A0 = PySem.W.Fast.tw4848661813048885534 := congrArg Hd.tree_439 Hd.ab
set_option Elab.async false
set_option linter.all false
set_option maxRecDepth 100000
set_option maxHeartbeats 8000000
namespace Bw
open PySem L2
theorem all_mk {l : PySem.W.OpenLaw} {w : World} {K : PySem.W.Frag} {h : Heap} {mg : Str → Option Value} {fa f0 f1 f2 f3 f4 f5 f6 f7 f8 f9 f10 f11 f12 f13 f14 f15 f16 f17 f18 f19 f20 f21 f22 f23 f24 f25 cBellError cNoClock cNoHappening cNoFit cNoWish cNoRow cNoText cHappening cFit cAny cKind cPlace cLeast cNot cBoth cEither : Addr} {t0 t1 : Tok} (X : K.In h) (G : h.Ns mainGlobals mg) (hfa : mg "law" = some (.ref fa))
    {od0 an0 : Option Addr} {sl0 : Array (Option Value)} {oc0 kV0 dc0 pm0 cd0 ct0 : Value}
    (a0 : PySem.W.nsIn K mainGlobals "is_whole" = some (some (.ref f0)))
    (l0 : K.lookup f0 = some ⟨oc0, od0, .func (PySem.W.fnOf "is_whole" "is_whole" (defArgs s_is_whole) (defBody s_is_whole) (defScope s_is_whole) .none kV0 dc0 pm0 an0 cd0 ct0), sl0⟩)
    (c0 : PySem.W.codeIn K cd0 "is_whole" = true)
    (k0 : PySem.W.keepIn K (.ref f0) = true)
    {od1 an1 : Option Addr} {sl1 : Array (Option Value)} {oc1 kV1 dc1 pm1 cd1 ct1 : Value}
    (a1 : PySem.W.nsIn K mainGlobals "is_whole_from" = some (some (.ref f1)))
    (l1 : K.lookup f1 = some ⟨oc1, od1, .func (PySem.W.fnOf "is_whole_from" "is_whole_from" (defArgs s_is_whole_from) (defBody s_is_whole_from) (defScope s_is_whole_from) .none kV1 dc1 pm1 an1 cd1 ct1), sl1⟩)
    (c1 : PySem.W.codeIn K cd1 "is_whole_from" = true)
    (k1 : PySem.W.keepIn K (.ref f1) = true)
    {od2 an2 : Option Addr} {sl2 : Array (Option Value)} {oc2 kV2 dc2 pm2 cd2 ct2 : Value}
    (a2 : PySem.W.nsIn K mainGlobals "is_name" = some (some (.ref f2)))
    (l2 : K.lookup f2 = some ⟨oc2, od2, .func (PySem.W.fnOf "is_name" "is_name" (defArgs s_is_name) (defBody s_is_name) (defScope s_is_name) .none kV2 dc2 pm2 an2 cd2 ct2), sl2⟩)
    (c2 : PySem.W.codeIn K cd2 "is_name" = true)
    (k2 : PySem.W.keepIn K (.ref f2) = true)
    {od3 an3 : Option Addr} {sl3 : Array (Option Value)} {oc3 kV3 dc3 pm3 cd3 ct3 : Value}
    (a3 : PySem.W.findIn K (.ref cHappening) "__init__" = some (some (.ref f3)))
    (i3 : PySem.W.isFn K (.ref f3) = true)
    (l3 : K.lookup f3 = some ⟨oc3, od3, .func (PySem.W.fnOf "__init__" "Happening.__init__" (defArgs s_Happening___init__) (defBody s_Happening___init__) (defScope s_Happening___init__) .none kV3 dc3 pm3 an3 cd3 ct3), sl3⟩)
    (c3 : PySem.W.codeIn K cd3 "Happening.__init__" = true)
    (k3 : PySem.W.keepIn K (.ref f3) = true)
    {od4 an4 : Option Addr} {sl4 : Array (Option Value)} {oc4 kV4 dc4 pm4 cd4 ct4 : Value}
    (a4 : PySem.W.nsIn K mainGlobals "are_unlike_names" = some (some (.ref f4)))
    (l4 : K.lookup f4 = some ⟨oc4, od4, .func (PySem.W.fnOf "are_unlike_names" "are_unlike_names" (defArgs s_are_unlike_names) (defBody s_are_unlike_names) (defScope s_are_unlike_names) .none kV4 dc4 pm4 an4 cd4 ct4), sl4⟩)
    (c4 : PySem.W.codeIn K cd4 "are_unlike_names" = true)
    (k4 : PySem.W.keepIn K (.ref f4) = true)
    {od5 an5 : Option Addr} {sl5 : Array (Option Value)} {oc5 kV5 dc5 pm5 cd5 ct5 : Value}
    (a5 : PySem.W.findIn K (.ref cKind) "__init__" = some (some (.ref f5)))
    (i5 : PySem.W.isFn K (.ref f5) = true)
    (l5 : K.lookup f5 = some ⟨oc5, od5, .func (PySem.W.fnOf "__init__" "Kind.__init__" (defArgs s_Kind___init__) (defBody s_Kind___init__) (defScope s_Kind___init__) .none kV5 dc5 pm5 an5 cd5 ct5), sl5⟩)
    (c5 : PySem.W.codeIn K cd5 "Kind.__init__" = true)
    (k5 : PySem.W.keepIn K (.ref f5) = true)
    {od6 an6 : Option Addr} {sl6 : Array (Option Value)} {oc6 kV6 dc6 pm6 cd6 ct6 : Value}
    (a6 : PySem.W.findIn K (.ref cPlace) "__init__" = some (some (.ref f6)))
    (i6 : PySem.W.isFn K (.ref f6) = true)
    (l6 : K.lookup f6 = some ⟨oc6, od6, .func (PySem.W.fnOf "__init__" "Place.__init__" (defArgs s_Place___init__) (defBody s_Place___init__) (defScope s_Place___init__) .none kV6 dc6 pm6 an6 cd6 ct6), sl6⟩)
    (c6 : PySem.W.codeIn K cd6 "Place.__init__" = true)
    (k6 : PySem.W.keepIn K (.ref f6) = true)
    {od7 an7 : Option Addr} {sl7 : Array (Option Value)} {oc7 kV7 dc7 pm7 cd7 ct7 : Value}
    (a7 : PySem.W.findIn K (.ref cLeast) "__init__" = some (some (.ref f7)))
    (i7 : PySem.W.isFn K (.ref f7) = true)
    (l7 : K.lookup f7 = some ⟨oc7, od7, .func (PySem.W.fnOf "__init__" "Least.__init__" (defArgs s_Least___init__) (defBody s_Least___init__) (defScope s_Least___init__) .none kV7 dc7 pm7 an7 cd7 ct7), sl7⟩)
    (c7 : PySem.W.codeIn K cd7 "Least.__init__" = true)
    (k7 : PySem.W.keepIn K (.ref f7) = true)
    {od8 an8 : Option Addr} {sl8 : Array (Option Value)} {oc8 kV8 dc8 pm8 cd8 ct8 : Value}
    (a8 : PySem.W.findIn K (.ref cNot) "__init__" = some (some (.ref f8)))
    (i8 : PySem.W.isFn K (.ref f8) = true)
    (l8 : K.lookup f8 = some ⟨oc8, od8, .func (PySem.W.fnOf "__init__" "Not.__init__" (defArgs s_Not___init__) (defBody s_Not___init__) (defScope s_Not___init__) .none kV8 dc8 pm8 an8 cd8 ct8), sl8⟩)
    (c8 : PySem.W.codeIn K cd8 "Not.__init__" = true)
    (k8 : PySem.W.keepIn K (.ref f8) = true)
    {od9 an9 : Option Addr} {sl9 : Array (Option Value)} {oc9 kV9 dc9 pm9 cd9 ct9 : Value}
    (a9 : PySem.W.findIn K (.ref cBoth) "__init__" = some (some (.ref f9)))
    (i9 : PySem.W.isFn K (.ref f9) = true)
    (l9 : K.lookup f9 = some ⟨oc9, od9, .func (PySem.W.fnOf "__init__" "Both.__init__" (defArgs s_Both___init__) (defBody s_Both___init__) (defScope s_Both___init__) .none kV9 dc9 pm9 an9 cd9 ct9), sl9⟩)
    (c9 : PySem.W.codeIn K cd9 "Both.__init__" = true)
    (k9 : PySem.W.keepIn K (.ref f9) = true)
    {od10 an10 : Option Addr} {sl10 : Array (Option Value)} {oc10 kV10 dc10 pm10 cd10 ct10 : Value}
    (a10 : PySem.W.findIn K (.ref cEither) "__init__" = some (some (.ref f10)))
    (i10 : PySem.W.isFn K (.ref f10) = true)
    (l10 : K.lookup f10 = some ⟨oc10, od10, .func (PySem.W.fnOf "__init__" "Either.__init__" (defArgs s_Either___init__) (defBody s_Either___init__) (defScope s_Either___init__) .none kV10 dc10 pm10 an10 cd10 ct10), sl10⟩)
    (c10 : PySem.W.codeIn K cd10 "Either.__init__" = true)
    (k10 : PySem.W.keepIn K (.ref f10) = true)
    {od11 an11 : Option Addr} {sl11 : Array (Option Value)} {oc11 kV11 dc11 pm11 cd11 ct11 : Value}
    (a11 : PySem.W.nsIn K mainGlobals "check_names" = some (some (.ref f11)))
    (l11 : K.lookup f11 = some ⟨oc11, od11, .func (PySem.W.fnOf "check_names" "check_names" (defArgs s_check_names) (defBody s_check_names) (defScope s_check_names) .none kV11 dc11 pm11 an11 cd11 ct11), sl11⟩)
    (c11 : PySem.W.codeIn K cd11 "check_names" = true)
    (k11 : PySem.W.keepIn K (.ref f11) = true)
    {od12 an12 : Option Addr} {sl12 : Array (Option Value)} {oc12 kV12 dc12 pm12 cd12 ct12 : Value}
    (a12 : PySem.W.nsIn K mainGlobals "check_fit" = some (some (.ref f12)))
    (l12 : K.lookup f12 = some ⟨oc12, od12, .func (PySem.W.fnOf "check_fit" "check_fit" (defArgs s_check_fit) (defBody s_check_fit) (defScope s_check_fit) .none kV12 dc12 pm12 an12 cd12 ct12), sl12⟩)
    (c12 : PySem.W.codeIn K cd12 "check_fit" = true)
    (k12 : PySem.W.keepIn K (.ref f12) = true)
    {od13 an13 : Option Addr} {sl13 : Array (Option Value)} {oc13 kV13 dc13 pm13 cd13 ct13 : Value}
    (a13 : PySem.W.nsIn K mainGlobals "check_fits" = some (some (.ref f13)))
    (l13 : K.lookup f13 = some ⟨oc13, od13, .func (PySem.W.fnOf "check_fits" "check_fits" (defArgs s_check_fits) (defBody s_check_fits) (defScope s_check_fits) .none kV13 dc13 pm13 an13 cd13 ct13), sl13⟩)
    (c13 : PySem.W.codeIn K cd13 "check_fits" = true)
    (k13 : PySem.W.keepIn K (.ref f13) = true)
    {od14 an14 : Option Addr} {sl14 : Array (Option Value)} {oc14 kV14 dc14 pm14 cd14 ct14 : Value}
    (a14 : PySem.W.nsIn K mainGlobals "_law_begin" = some (some (.ref f14)))
    (l14 : K.lookup f14 = some ⟨oc14, od14, .func (PySem.W.fnOf "_law_begin" "_law_begin" (defArgs s_law_begin) (defBody s_law_begin) (defScope s_law_begin) .none kV14 dc14 pm14 an14 cd14 ct14), sl14⟩)
    (c14 : PySem.W.codeIn K cd14 "_law_begin" = true)
    (k14 : PySem.W.keepIn K (.ref f14) = true)
    {od15 an15 : Option Addr} {sl15 : Array (Option Value)} {oc15 kV15 dc15 pm15 cd15 ct15 : Value}
    (a15 : PySem.W.nsIn K mainGlobals "_law_next" = some (some (.ref f15)))
    (l15 : K.lookup f15 = some ⟨oc15, od15, .func (PySem.W.fnOf "_law_next" "_law_next" (defArgs s_law_next) (defBody s_law_next) (defScope s_law_next) .none kV15 dc15 pm15 an15 cd15 ct15), sl15⟩)
    (c15 : PySem.W.codeIn K cd15 "_law_next" = true)
    (k15 : PySem.W.keepIn K (.ref f15) = true)
    {od16 an16 : Option Addr} {sl16 : Array (Option Value)} {oc16 kV16 dc16 pm16 cd16 ct16 : Value}
    (a16 : PySem.W.nsIn K mainGlobals "_law_name" = some (some (.ref f16)))
    (l16 : K.lookup f16 = some ⟨oc16, od16, .func (PySem.W.fnOf "_law_name" "_law_name" (defArgs s_law_name) (defBody s_law_name) (defScope s_law_name) .none kV16 dc16 pm16 an16 cd16 ct16), sl16⟩)
    (c16 : PySem.W.codeIn K cd16 "_law_name" = true)
    (k16 : PySem.W.keepIn K (.ref f16) = true)
    {od17 an17 : Option Addr} {sl17 : Array (Option Value)} {oc17 kV17 dc17 pm17 cd17 ct17 : Value}
    (a17 : PySem.W.nsIn K mainGlobals "_law_names" = some (some (.ref f17)))
    (l17 : K.lookup f17 = some ⟨oc17, od17, .func (PySem.W.fnOf "_law_names" "_law_names" (defArgs s_law_names) (defBody s_law_names) (defScope s_law_names) .none kV17 dc17 pm17 an17 cd17 ct17), sl17⟩)
    (c17 : PySem.W.codeIn K cd17 "_law_names" = true)
    (k17 : PySem.W.keepIn K (.ref f17) = true)
    {od18 an18 : Option Addr} {sl18 : Array (Option Value)} {oc18 kV18 dc18 pm18 cd18 ct18 : Value}
    (a18 : PySem.W.nsIn K mainGlobals "_law_kinds" = some (some (.ref f18)))
    (l18 : K.lookup f18 = some ⟨oc18, od18, .func (PySem.W.fnOf "_law_kinds" "_law_kinds" (defArgs s_law_kinds) (defBody s_law_kinds) (defScope s_law_kinds) .none kV18 dc18 pm18 an18 cd18 ct18), sl18⟩)
    (c18 : PySem.W.codeIn K cd18 "_law_kinds" = true)
    (k18 : PySem.W.keepIn K (.ref f18) = true)
    {od19 an19 : Option Addr} {sl19 : Array (Option Value)} {oc19 kV19 dc19 pm19 cd19 ct19 : Value}
    (a19 : PySem.W.nsIn K mainGlobals "_law_is_kind" = some (some (.ref f19)))
    (l19 : K.lookup f19 = some ⟨oc19, od19, .func (PySem.W.fnOf "_law_is_kind" "_law_is_kind" (defArgs s_law_is_kind) (defBody s_law_is_kind) (defScope s_law_is_kind) .none kV19 dc19 pm19 an19 cd19 ct19), sl19⟩)
    (c19 : PySem.W.codeIn K cd19 "_law_is_kind" = true)
    (k19 : PySem.W.keepIn K (.ref f19) = true)
    {od20 an20 : Option Addr} {sl20 : Array (Option Value)} {oc20 kV20 dc20 pm20 cd20 ct20 : Value}
    (a20 : PySem.W.nsIn K mainGlobals "_law_made" = some (some (.ref f20)))
    (l20 : K.lookup f20 = some ⟨oc20, od20, .func (PySem.W.fnOf "_law_made" "_law_made" (defArgs s_law_made) (defBody s_law_made) (defScope s_law_made) .none kV20 dc20 pm20 an20 cd20 ct20), sl20⟩)
    (c20 : PySem.W.codeIn K cd20 "_law_made" = true)
    (k20 : PySem.W.keepIn K (.ref f20) = true)
    {od21 an21 : Option Addr} {sl21 : Array (Option Value)} {oc21 kV21 dc21 pm21 cd21 ct21 : Value}
    (a21 : PySem.W.nsIn K mainGlobals "_law_refused" = some (some (.ref f21)))
    (l21 : K.lookup f21 = some ⟨oc21, od21, .func (PySem.W.fnOf "_law_refused" "_law_refused" (defArgs s_law_refused) (defBody s_law_refused) (defScope s_law_refused) .none kV21 dc21 pm21 an21 cd21 ct21), sl21⟩)
    (c21 : PySem.W.codeIn K cd21 "_law_refused" = true)
    (k21 : PySem.W.keepIn K (.ref f21) = true)
    {od22 an22 : Option Addr} {sl22 : Array (Option Value)} {oc22 kV22 dc22 pm22 cd22 ct22 : Value}
    (a22 : PySem.W.nsIn K mainGlobals "_law_odd" = some (some (.ref f22)))
    (l22 : K.lookup f22 = some ⟨oc22, od22, .func (PySem.W.fnOf "_law_odd" "_law_odd" (defArgs s_law_odd) (defBody s_law_odd) (defScope s_law_odd) .none kV22 dc22 pm22 an22 cd22 ct22), sl22⟩)
    (c22 : PySem.W.codeIn K cd22 "_law_odd" = true)
    (k22 : PySem.W.keepIn K (.ref f22) = true)
    {od23 an23 : Option Addr} {sl23 : Array (Option Value)} {oc23 kV23 dc23 pm23 cd23 ct23 : Value}
    (a23 : PySem.W.nsIn K mainGlobals "_law_named" = some (some (.ref f23)))
    (l23 : K.lookup f23 = some ⟨oc23, od23, .func (PySem.W.fnOf "_law_named" "_law_named" (defArgs s_law_named) (defBody s_law_named) (defScope s_law_named) .none kV23 dc23 pm23 an23 cd23 ct23), sl23⟩)
    (c23 : PySem.W.codeIn K cd23 "_law_named" = true)
    (k23 : PySem.W.keepIn K (.ref f23) = true)
    {od24 an24 : Option Addr} {sl24 : Array (Option Value)} {oc24 kV24 dc24 pm24 cd24 ct24 : Value}
    (a24 : PySem.W.nsIn K mainGlobals "_law_several" = some (some (.ref f24)))
    (l24 : K.lookup f24 = some ⟨oc24, od24, .func (PySem.W.fnOf "_law_several" "_law_several" (defArgs s_law_several) (defBody s_law_several) (defScope s_law_several) .none kV24 dc24 pm24 an24 cd24 ct24), sl24⟩)
    (c24 : PySem.W.codeIn K cd24 "_law_several" = true)
    (k24 : PySem.W.keepIn K (.ref f24) = true)
    {od25 an25 : Option Addr} {sl25 : Array (Option Value)} {oc25 kV25 dc25 pm25 cd25 ct25 : Value}
    (a25 : PySem.W.nsIn K mainGlobals "law" = some (some (.ref f25)))
    (l25 : K.lookup f25 = some ⟨oc25, od25, .func (PySem.W.fnOf "law" "law" (defArgs s_law) (defBody s_law) (defScope s_law) .none kV25 dc25 pm25 an25 cd25 ct25), sl25⟩)
    (c25 : PySem.W.codeIn K cd25 "law" = true)
    (k25 : PySem.W.keepIn K (.ref f25) = true)
    (y0 : PySem.W.nsIn K mainGlobals "len" = some none)
    (y1 : PySem.W.nsIn K mainGlobals "int" = some none)
    (y2 : PySem.W.nsIn K mainGlobals "bool" = some none)
    (y3 : PySem.W.nsIn K mainGlobals "str" = some none)
    (y4 : PySem.W.nsIn K mainGlobals "tuple" = some none)
    (y5 : PySem.W.nsIn K mainGlobals "list" = some none)
    (y6 : PySem.W.nsIn K mainGlobals "all" = some none)
    (y7 : PySem.W.nsIn K mainGlobals "isinstance" = some none)
    (y8 : PySem.W.nsIn K mainGlobals "range" = some none)
    (y9 : PySem.W.nsIn K mainGlobals "set" = some none)
    (y10 : PySem.W.nsIn K mainGlobals "ValueError" = some none)
    (y11 : PySem.W.nsIn K mainGlobals "LETTERS" = some (some (.str "abcdefghijklmnopqrstuvwxyz" t0)))
    (y12 : PySem.W.nsIn K mainGlobals "MOST_LETTERS" = some (some (.int 8 t1)))
    (y13 : PySem.W.nsIn K mainGlobals "BellError" = some (some (.ref cBellError)))
    (y14 : PySem.W.nsIn K mainGlobals "NoClock" = some (some (.ref cNoClock)))
    (y15 : PySem.W.nsIn K mainGlobals "NoHappening" = some (some (.ref cNoHappening)))
    (y16 : PySem.W.nsIn K mainGlobals "NoFit" = some (some (.ref cNoFit)))
    (y17 : PySem.W.nsIn K mainGlobals "NoWish" = some (some (.ref cNoWish)))
    (y18 : PySem.W.nsIn K mainGlobals "NoRow" = some (some (.ref cNoRow)))
    (y19 : PySem.W.nsIn K mainGlobals "NoText" = some (some (.ref cNoText)))
    (y20 : PySem.W.nsIn K mainGlobals "Happening" = some (some (.ref cHappening)))
    (y21 : PySem.W.nsIn K mainGlobals "Fit" = some (some (.ref cFit)))
    (y22 : PySem.W.nsIn K mainGlobals "Any" = some (some (.ref cAny)))
    (y23 : PySem.W.nsIn K mainGlobals "Kind" = some (some (.ref cKind)))
    (y24 : PySem.W.nsIn K mainGlobals "Place" = some (some (.ref cPlace)))
    (y25 : PySem.W.nsIn K mainGlobals "Least" = some (some (.ref cLeast)))
    (y26 : PySem.W.nsIn K mainGlobals "Not" = some (some (.ref cNot)))
    (y27 : PySem.W.nsIn K mainGlobals "Both" = some (some (.ref cBoth)))
    (y28 : PySem.W.nsIn K mainGlobals "Either" = some (some (.ref cEither)))
    (y29 : PySem.W.excIn K cNoFit vbm "ValueError.__new__" = true)
    (y30_0 : PySem.W.findIn K (.ref cNoFit) "__getattribute__" = some (some (.builtin "BaseException.__getattribute__")))
    (y30_1 : PySem.W.findIn K (.ref cNoFit) "__getattr__" = some none)
    (y30_2 : PySem.W.findIn K (.ref cNoFit) "__class__" = some (some (.builtin "object.__class__")))
    (y30_3 : PySem.W.mroIn K cNoFit (.type "BaseException") = some true)
    (y30_4 : PySem.W.mroIn K cNoFit (.type "object") = some true)
    (y30_5 : PySem.W.isClsIn K cNoFit = true)
    (y31 : PySem.W.exmOne K (.ref cNoFit) (.ref cBellError) = some true)
    (y32 : PySem.W.kitAny K (.ref cNoFit) ([.ref cNoClock, .ref cNoHappening, .ref cNoRow, .ref cNoText, .ref cNoWish] : List Value) = some false)
    (y33 : PySem.W.kitOne K (.ref cNoFit) (.type "ValueError") = some true)
    (y34 : PySem.W.kitOne K (.ref cNoFit) (.ref cNoFit) = some true)
    (y35_0 : PySem.W.plainGet K cHappening Str.empty = true)
    (y35_1 : PySem.W.hasDictIn K cHappening = true)
    (y35_2 : PySem.W.plainOver K cHappening = true)
    (y35_3 : PySem.W.findIn K (.ref cHappening) "__setattr__" = some (some (.builtin "object.__setattr__")))
    (y35_4 : PySem.W.findIn K (.ref cHappening) "__class__" = some (some (.builtin "object.__class__")))
    (y35_5 : PySem.W.specialIn K (.builtin "object.__class__") "__get__" = some (some (.builtin "getset_descriptor.__get__")))
    (y35_6 : PySem.W.takesIn K (.builtin "object.__class__") = some true)
    (y35_7 : PySem.W.mroIn K cHappening (.type "object") = some true)
    (y36 : PySem.W.findIn K (.ref cHappening) "kind" = some none)
    (y37 : PySem.W.findIn K (.ref cHappening) "place" = some none)
    (y38 : PySem.W.findIn K (.ref cHappening) "weight" = some none)
    (y39_0 : PySem.W.plainGet K cAny Str.empty = true)
    (y39_1 : PySem.W.hasDictIn K cAny = true)
    (y39_2 : PySem.W.plainOver K cAny = true)
    (y39_3 : PySem.W.findIn K (.ref cAny) "__setattr__" = some (some (.builtin "object.__setattr__")))
    (y39_4 : PySem.W.findIn K (.ref cAny) "__class__" = some (some (.builtin "object.__class__")))
    (y39_5 : PySem.W.specialIn K (.builtin "object.__class__") "__get__" = some (some (.builtin "getset_descriptor.__get__")))
    (y39_6 : PySem.W.takesIn K (.builtin "object.__class__") = some true)
    (y39_7 : PySem.W.mroIn K cAny (.type "object") = some true)
    (y40_0 : PySem.W.plainGet K cKind Str.empty = true)
    (y40_1 : PySem.W.hasDictIn K cKind = true)
    (y40_2 : PySem.W.plainOver K cKind = true)
    (y40_3 : PySem.W.findIn K (.ref cKind) "__setattr__" = some (some (.builtin "object.__setattr__")))
    (y40_4 : PySem.W.findIn K (.ref cKind) "__class__" = some (some (.builtin "object.__class__")))
    (y40_5 : PySem.W.specialIn K (.builtin "object.__class__") "__get__" = some (some (.builtin "getset_descriptor.__get__")))
    (y40_6 : PySem.W.takesIn K (.builtin "object.__class__") = some true)
    (y40_7 : PySem.W.mroIn K cKind (.type "object") = some true)
    (y41 : PySem.W.findIn K (.ref cKind) "names" = some none)
    (y42_0 : PySem.W.plainGet K cPlace Str.empty = true)
    (y42_1 : PySem.W.hasDictIn K cPlace = true)
    (y42_2 : PySem.W.plainOver K cPlace = true)
    (y42_3 : PySem.W.findIn K (.ref cPlace) "__setattr__" = some (some (.builtin "object.__setattr__")))
    (y42_4 : PySem.W.findIn K (.ref cPlace) "__class__" = some (some (.builtin "object.__class__")))
    (y42_5 : PySem.W.specialIn K (.builtin "object.__class__") "__get__" = some (some (.builtin "getset_descriptor.__get__")))
    (y42_6 : PySem.W.takesIn K (.builtin "object.__class__") = some true)
    (y42_7 : PySem.W.mroIn K cPlace (.type "object") = some true)
    (y43 : PySem.W.findIn K (.ref cPlace) "names" = some none)
    (y44_0 : PySem.W.plainGet K cLeast Str.empty = true)
    (y44_1 : PySem.W.hasDictIn K cLeast = true)
    (y44_2 : PySem.W.plainOver K cLeast = true)
    (y44_3 : PySem.W.findIn K (.ref cLeast) "__setattr__" = some (some (.builtin "object.__setattr__")))
    (y44_4 : PySem.W.findIn K (.ref cLeast) "__class__" = some (some (.builtin "object.__class__")))
    (y44_5 : PySem.W.specialIn K (.builtin "object.__class__") "__get__" = some (some (.builtin "getset_descriptor.__get__")))
    (y44_6 : PySem.W.takesIn K (.builtin "object.__class__") = some true)
    (y44_7 : PySem.W.mroIn K cLeast (.type "object") = some true)
    (y45 : PySem.W.findIn K (.ref cLeast) "weight" = some none)
    (y46_0 : PySem.W.plainGet K cNot Str.empty = true)
    (y46_1 : PySem.W.hasDictIn K cNot = true)
    (y46_2 : PySem.W.plainOver K cNot = true)
    (y46_3 : PySem.W.findIn K (.ref cNot) "__setattr__" = some (some (.builtin "object.__setattr__")))
    (y46_4 : PySem.W.findIn K (.ref cNot) "__class__" = some (some (.builtin "object.__class__")))
    (y46_5 : PySem.W.specialIn K (.builtin "object.__class__") "__get__" = some (some (.builtin "getset_descriptor.__get__")))
    (y46_6 : PySem.W.takesIn K (.builtin "object.__class__") = some true)
    (y46_7 : PySem.W.mroIn K cNot (.type "object") = some true)
    (y47 : PySem.W.findIn K (.ref cNot) "fit" = some none)
    (y48_0 : PySem.W.plainGet K cBoth Str.empty = true)
    (y48_1 : PySem.W.hasDictIn K cBoth = true)
    (y48_2 : PySem.W.plainOver K cBoth = true)
    (y48_3 : PySem.W.findIn K (.ref cBoth) "__setattr__" = some (some (.builtin "object.__setattr__")))
    (y48_4 : PySem.W.findIn K (.ref cBoth) "__class__" = some (some (.builtin "object.__class__")))
    (y48_5 : PySem.W.specialIn K (.builtin "object.__class__") "__get__" = some (some (.builtin "getset_descriptor.__get__")))
    (y48_6 : PySem.W.takesIn K (.builtin "object.__class__") = some true)
    (y48_7 : PySem.W.mroIn K cBoth (.type "object") = some true)
    (y49 : PySem.W.findIn K (.ref cBoth) "fits" = some none)
    (y50_0 : PySem.W.plainGet K cEither Str.empty = true)
    (y50_1 : PySem.W.hasDictIn K cEither = true)
    (y50_2 : PySem.W.plainOver K cEither = true)
    (y50_3 : PySem.W.findIn K (.ref cEither) "__setattr__" = some (some (.builtin "object.__setattr__")))
    (y50_4 : PySem.W.findIn K (.ref cEither) "__class__" = some (some (.builtin "object.__class__")))
    (y50_5 : PySem.W.specialIn K (.builtin "object.__class__") "__get__" = some (some (.builtin "getset_descriptor.__get__")))
    (y50_6 : PySem.W.takesIn K (.builtin "object.__class__") = some true)
    (y50_7 : PySem.W.mroIn K cEither (.type "object") = some true)
    (y51 : PySem.W.findIn K (.ref cEither) "fits" = some none)
    (y52 : PySem.W.kitOne K (.ref cAny) (.ref cAny) = some true)
    (y53 : PySem.W.kitOne K (.ref cAny) (.ref cKind) = some false)
    (y54 : PySem.W.kitOne K (.ref cAny) (.ref cPlace) = some false)
    (y55 : PySem.W.kitOne K (.ref cAny) (.ref cLeast) = some false)
    (y56 : PySem.W.kitOne K (.ref cAny) (.ref cNot) = some false)
    (y57 : PySem.W.kitOne K (.ref cAny) (.ref cBoth) = some false)
    (y58 : PySem.W.kitOne K (.ref cAny) (.ref cEither) = some false)
    (y59 : PySem.W.kitOne K (.ref cAny) (.ref cFit) = some true)
    (y60 : PySem.W.kitOne K (.ref cKind) (.ref cAny) = some false)
    (y61 : PySem.W.kitOne K (.ref cKind) (.ref cKind) = some true)
    (y62 : PySem.W.kitOne K (.ref cKind) (.ref cPlace) = some false)
    (y63 : PySem.W.kitOne K (.ref cKind) (.ref cLeast) = some false)
    (y64 : PySem.W.kitOne K (.ref cKind) (.ref cNot) = some false)
    (y65 : PySem.W.kitOne K (.ref cKind) (.ref cBoth) = some false)
    (y66 : PySem.W.kitOne K (.ref cKind) (.ref cEither) = some false)
    (y67 : PySem.W.kitOne K (.ref cKind) (.ref cFit) = some true)
    (y68 : PySem.W.kitOne K (.ref cPlace) (.ref cAny) = some false)
    (y69 : PySem.W.kitOne K (.ref cPlace) (.ref cKind) = some false)
    (y70 : PySem.W.kitOne K (.ref cPlace) (.ref cPlace) = some true)
    (y71 : PySem.W.kitOne K (.ref cPlace) (.ref cLeast) = some false)
    (y72 : PySem.W.kitOne K (.ref cPlace) (.ref cNot) = some false)
    (y73 : PySem.W.kitOne K (.ref cPlace) (.ref cBoth) = some false)
    (y74 : PySem.W.kitOne K (.ref cPlace) (.ref cEither) = some false)
    (y75 : PySem.W.kitOne K (.ref cPlace) (.ref cFit) = some true)
    (y76 : PySem.W.kitOne K (.ref cLeast) (.ref cAny) = some false)
    (y77 : PySem.W.kitOne K (.ref cLeast) (.ref cKind) = some false)
    (y78 : PySem.W.kitOne K (.ref cLeast) (.ref cPlace) = some false)
    (y79 : PySem.W.kitOne K (.ref cLeast) (.ref cLeast) = some true)
    (y80 : PySem.W.kitOne K (.ref cLeast) (.ref cNot) = some false)
    (y81 : PySem.W.kitOne K (.ref cLeast) (.ref cBoth) = some false)
    (y82 : PySem.W.kitOne K (.ref cLeast) (.ref cEither) = some false)
    (y83 : PySem.W.kitOne K (.ref cLeast) (.ref cFit) = some true)
    (y84 : PySem.W.kitOne K (.ref cNot) (.ref cAny) = some false)
    (y85 : PySem.W.kitOne K (.ref cNot) (.ref cKind) = some false)
    (y86 : PySem.W.kitOne K (.ref cNot) (.ref cPlace) = some false)
    (y87 : PySem.W.kitOne K (.ref cNot) (.ref cLeast) = some false)
    (y88 : PySem.W.kitOne K (.ref cNot) (.ref cNot) = some true)
    (y89 : PySem.W.kitOne K (.ref cNot) (.ref cBoth) = some false)
    (y90 : PySem.W.kitOne K (.ref cNot) (.ref cEither) = some false)
    (y91 : PySem.W.kitOne K (.ref cNot) (.ref cFit) = some true)
    (y92 : PySem.W.kitOne K (.ref cBoth) (.ref cAny) = some false)
    (y93 : PySem.W.kitOne K (.ref cBoth) (.ref cKind) = some false)
    (y94 : PySem.W.kitOne K (.ref cBoth) (.ref cPlace) = some false)
    (y95 : PySem.W.kitOne K (.ref cBoth) (.ref cLeast) = some false)
    (y96 : PySem.W.kitOne K (.ref cBoth) (.ref cNot) = some false)
    (y97 : PySem.W.kitOne K (.ref cBoth) (.ref cBoth) = some true)
    (y98 : PySem.W.kitOne K (.ref cBoth) (.ref cEither) = some false)
    (y99 : PySem.W.kitOne K (.ref cBoth) (.ref cFit) = some true)
    (y100 : PySem.W.kitOne K (.ref cEither) (.ref cAny) = some false)
    (y101 : PySem.W.kitOne K (.ref cEither) (.ref cKind) = some false)
    (y102 : PySem.W.kitOne K (.ref cEither) (.ref cPlace) = some false)
    (y103 : PySem.W.kitOne K (.ref cEither) (.ref cLeast) = some false)
    (y104 : PySem.W.kitOne K (.ref cEither) (.ref cNot) = some false)
    (y105 : PySem.W.kitOne K (.ref cEither) (.ref cBoth) = some false)
    (y106 : PySem.W.kitOne K (.ref cEither) (.ref cEither) = some true)
    (y107 : PySem.W.kitOne K (.ref cEither) (.ref cFit) = some true)
    (y108 : PySem.W.kitOne K (.ref cNot) (.type "int") = some false)
    (y109 : PySem.W.kitOne K (.ref cNot) (.type "bool") = some false)
    (y110 : PySem.W.kitOne K (.ref cNot) (.type "list") = some false)
    (y111 : PySem.W.kitOne K (.ref cHappening) (.type "int") = some false)
    (y112 : PySem.W.kitOne K (.ref cHappening) (.type "bool") = some false)
    (y113 : PySem.W.kitOne K (.ref cHappening) (.type "list") = some false)
    (y114 : PySem.W.kitOne K (.ref cHappening) (.ref cFit) = some false)
    (y115 : PySem.W.kitOne K (.type "NoneType") (.ref cFit) = some false)
    (y116 : PySem.W.kitOne K (.type "bool") (.ref cFit) = some false)
    (y117 : PySem.W.kitOne K (.type "int") (.ref cFit) = some false)
    (y118 : PySem.W.kitOne K (.type "str") (.ref cFit) = some false)
    (y119 : PySem.W.kitOne K (.type "list") (.ref cFit) = some false)
    (y120 : PySem.W.kitOne K (.type "tuple") (.ref cFit) = some false)
    (y121 : PySem.W.kitOne K (.type "dict") (.ref cFit) = some false)
    (y122_0 : PySem.W.makesIn K cAny = true)
    (y122_1 : PySem.W.findIn K (.ref cAny) "__init__" = some (some (.builtin "object.__init__")))
    (y122_2 : PySem.W.keepIn K (.ref cAny) = true)
    (mkHappening : PySem.W.makesIn K cHappening = true)
    (kcHappening : PySem.W.keepIn K (.ref cHappening) = true)
    (mkKind : PySem.W.makesIn K cKind = true)
    (kcKind : PySem.W.keepIn K (.ref cKind) = true)
    (mkPlace : PySem.W.makesIn K cPlace = true)
    (kcPlace : PySem.W.keepIn K (.ref cPlace) = true)
    (mkLeast : PySem.W.makesIn K cLeast = true)
    (kcLeast : PySem.W.keepIn K (.ref cLeast) = true)
    (mkNot : PySem.W.makesIn K cNot = true)
    (kcNot : PySem.W.keepIn K (.ref cNot) = true)
    (mkBoth : PySem.W.makesIn K cBoth = true)
    (kcBoth : PySem.W.keepIn K (.ref cBoth) = true)
    (mkEither : PySem.W.makesIn K cEither = true)
    (kcEither : PySem.W.keepIn K (.ref cEither) = true) :
    ∃ (a : Ad) (fd : FuncData), (∀ (s : Shared) (v : Value), BindsTo s fd ⟨[v], []⟩ [("_law_script", v)]) ∧ ∀ base : Heap, K.In base → base.Ns mainGlobals mg → FnOk l.prog w K mg base CX0 8 fa fd ["_law_script"] (sp_law K a) := by
  have e := hfa.symm.trans (PySem.W.mg_of X G a25)
  cases e
  have B : Bt K mg ⟨cBellError, cNoClock, cNoHappening, cNoFit, cNoWish, cNoRow, cNoText, cHappening, cFit, cAny, cKind, cPlace, cLeast, cNot, cBoth, cEither, t0, t1⟩ := ⟨PySem.W.mg_none_of X G y0, PySem.W.mg_none_of X G y1, PySem.W.mg_none_of X G y2, PySem.W.mg_none_of X G y3, PySem.W.mg_none_of X G y4, PySem.W.mg_none_of X G y5, PySem.W.mg_none_of X G y6, PySem.W.mg_none_of X G y7, PySem.W.mg_none_of X G y8, PySem.W.mg_none_of X G y9, PySem.W.mg_none_of X G y10, PySem.W.mg_of X G y11, PySem.W.mg_of X G y12, PySem.W.mg_of X G y13, PySem.W.mg_of X G y14, PySem.W.mg_of X G y15, PySem.W.mg_of X G y16, PySem.W.mg_of X G y17, PySem.W.mg_of X G y18, PySem.W.mg_of X G y19, PySem.W.mg_of X G y20, PySem.W.mg_of X G y21, PySem.W.mg_of X G y22, PySem.W.mg_of X G y23, PySem.W.mg_of X G y24, PySem.W.mg_of X G y25, PySem.W.mg_of X G y26, PySem.W.mg_of X G y27, PySem.W.mg_of X G y28, y29, ⟨y30_0, y30_1, y30_2, y30_3, y30_4, y30_5⟩, y31, y32, y33, y34, ⟨⟨y35_0, y35_1, y35_2, y35_3⟩, y35_4, y35_5, y35_6, y35_7⟩, y36, y37, y38, ⟨⟨y39_0, y39_1, y39_2, y39_3⟩, y39_4, y39_5, y39_6, y39_7⟩, ⟨⟨y40_0, y40_1, y40_2, y40_3⟩, y40_4, y40_5, y40_6, y40_7⟩, y41, ⟨⟨y42_0, y42_1, y42_2, y42_3⟩, y42_4, y42_5, y42_6, y42_7⟩, y43, ⟨⟨y44_0, y44_1, y44_2, y44_3⟩, y44_4, y44_5, y44_6, y44_7⟩, y45, ⟨⟨y46_0, y46_1, y46_2, y46_3⟩, y46_4, y46_5, y46_6, y46_7⟩, y47, ⟨⟨y48_0, y48_1, y48_2, y48_3⟩, y48_4, y48_5, y48_6, y48_7⟩, y49, ⟨⟨y50_0, y50_1, y50_2, y50_3⟩, y50_4, y50_5, y50_6, y50_7⟩, y51, y52, y53, y54, y55, y56, y57, y58, y59, y60, y61, y62, y63, y64, y65, y66, y67, y68, y69, y70, y71, y72, y73, y74, y75, y76, y77, y78, y79, y80, y81, y82, y83, y84, y85, y86, y87, y88, y89, y90, y91, y92, y93, y94, y95, y96, y97, y98, y99, y100, y101, y102, y103, y104, y105, y106, y107, y108, y109, y110, y111, y112, y113, y114, y115, y116, y117, y118, y119, y120, y121, ⟨y122_0, y122_1, y122_2⟩⟩
  have F0 := fun_mk (st := s_is_whole) l0 c0 k0
  have b0 := F0.binds (ps := ["thing"]) fun _ _ _ _ _ _ us hl => match us, hl with | [_], _ => rfl
  have F1 := fun_mk (st := s_is_whole_from) l1 c1 k1
  have b1 := F1.binds (ps := ["thing", "least"]) fun _ _ _ _ _ _ us hl => match us, hl with | [_, _], _ => rfl
  have F2 := fun_mk (st := s_is_name) l2 c2 k2
  have b2 := F2.binds (ps := ["thing"]) fun _ _ _ _ _ _ us hl => match us, hl with | [_], _ => rfl
  have F3 := fun_mk (st := s_Happening___init__) l3 c3 k3
  have b3 := F3.binds (ps := ["self", "kind", "place", "weight"]) fun _ _ _ _ _ _ us hl => match us, hl with | [_, _, _, _], _ => rfl
  have F4 := fun_mk (st := s_are_unlike_names) l4 c4 k4
  have b4 := F4.binds (ps := ["thing"]) fun _ _ _ _ _ _ us hl => match us, hl with | [_], _ => rfl
  have F5 := fun_mk (st := s_Kind___init__) l5 c5 k5
  have b5 := F5.binds (ps := ["self", "names"]) fun _ _ _ _ _ _ us hl => match us, hl with | [_, _], _ => rfl
  have F6 := fun_mk (st := s_Place___init__) l6 c6 k6
  have b6 := F6.binds (ps := ["self", "names"]) fun _ _ _ _ _ _ us hl => match us, hl with | [_, _], _ => rfl
  have F7 := fun_mk (st := s_Least___init__) l7 c7 k7
  have b7 := F7.binds (ps := ["self", "weight"]) fun _ _ _ _ _ _ us hl => match us, hl with | [_, _], _ => rfl
  have F8 := fun_mk (st := s_Not___init__) l8 c8 k8
  have b8 := F8.binds (ps := ["self", "fit"]) fun _ _ _ _ _ _ us hl => match us, hl with | [_, _], _ => rfl
  have F9 := fun_mk (st := s_Both___init__) l9 c9 k9
  have b9 := F9.binds (ps := ["self", "fits"]) fun _ _ _ _ _ _ us hl => match us, hl with | [_, _], _ => rfl
  have F10 := fun_mk (st := s_Either___init__) l10 c10 k10
  have b10 := F10.binds (ps := ["self", "fits"]) fun _ _ _ _ _ _ us hl => match us, hl with | [_, _], _ => rfl
  have F11 := fun_mk (st := s_check_names) l11 c11 k11
  have b11 := F11.binds (ps := ["names"]) fun _ _ _ _ _ _ us hl => match us, hl with | [_], _ => rfl
  have F12 := fun_mk (st := s_check_fit) l12 c12 k12
  have b12 := F12.binds (ps := ["fit"]) fun _ _ _ _ _ _ us hl => match us, hl with | [_], _ => rfl
  have F13 := fun_mk (st := s_check_fits) l13 c13 k13
  have b13 := F13.binds (ps := ["fits"]) fun _ _ _ _ _ _ us hl => match us, hl with | [_], _ => rfl
  have F14 := fun_mk (st := s_law_begin) l14 c14 k14
  have b14 := F14.binds (ps := ["_law_cell"]) fun _ _ _ _ _ _ us hl => match us, hl with | [_], _ => rfl
  have F15 := fun_mk (st := s_law_next) l15 c15 k15
  have b15 := F15.binds (ps := ["_law_state", "_law_base"]) fun _ _ _ _ _ _ us hl => match us, hl with | [_, _], _ => rfl
  have F16 := fun_mk (st := s_law_name) l16 c16 k16
  have b16 := F16.binds (ps := ["_law_state"]) fun _ _ _ _ _ _ us hl => match us, hl with | [_], _ => rfl
  have F17 := fun_mk (st := s_law_names) l17 c17 k17
  have b17 := F17.binds (ps := ["_law_state", "_law_most"]) fun _ _ _ _ _ _ us hl => match us, hl with | [_, _], _ => rfl
  have F18 := fun_mk (st := s_law_kinds) l18 c18 k18
  have b18 := F18.binds (ps := ["_law_fit"]) fun _ _ _ _ _ _ us hl => match us, hl with | [_], _ => rfl
  have F19 := fun_mk (st := s_law_is_kind) l19 c19 k19
  have b19 := F19.binds (ps := ["_law_fit", "_law_at"]) fun _ _ _ _ _ _ us hl => match us, hl with | [_, _], _ => rfl
  have F20 := fun_mk (st := s_law_made) l20 c20 k20
  have b20 := F20.binds (ps := ["_law_at", "_law_thing"]) fun _ _ _ _ _ _ us hl => match us, hl with | [_, _], _ => rfl
  have F21 := fun_mk (st := s_law_refused) l21 c21 k21
  have b21 := F21.binds (ps := ["_law_at", "_law_thing"]) fun _ _ _ _ _ _ us hl => match us, hl with | [_, _], _ => rfl
  have F22 := fun_mk (st := s_law_odd) l22 c22 k22
  have b22 := F22.binds (ps := ["_law_at", "_law_names_here", "_law_weight", "_law_fit"]) fun _ _ _ _ _ _ us hl => match us, hl with | [_, _, _, _], _ => rfl
  have F23 := fun_mk (st := s_law_named) l23 c23 k23
  have b23 := F23.binds (ps := ["_law_at", "_law_names_here"]) fun _ _ _ _ _ _ us hl => match us, hl with | [_, _], _ => rfl
  have F24 := fun_mk (st := s_law_several) l24 c24 k24
  have b24 := F24.binds (ps := ["_law_at", "_law_weights"]) fun _ _ _ _ _ _ us hl => match us, hl with | [_, _], _ => rfl
  have F25 := fun_mk (st := s_law) l25 c25 k25
  have b25 := F25.binds (ps := ["_law_script"]) fun _ _ _ _ _ _ us hl => match us, hl with | [_], _ => rfl
  refine ⟨(⟨cBellError, cNoClock, cNoHappening, cNoFit, cNoWish, cNoRow, cNoText, cHappening, cFit, cAny, cKind, cPlace, cLeast, cNot, cBoth, cEither, t0, t1⟩ : Ad), PySem.W.fnOf "law" "law" (defArgs s_law) (defBody s_law) (defScope s_law) .none kV25 dc25 pm25 an25 cd25 ct25, fun s v => .of_eq rfl, fun base _ _ => ?_⟩
  have G_is_whole : FnOk l.prog w K mg base (CXF l.prog w) 1 f0 _ ["thing"] (sp_is_whole K (⟨cBellError, cNoClock, cNoHappening, cNoFit, cNoWish, cNoRow, cNoText, cHappening, cFit, cAny, cKind, cPlace, cLeast, cNot, cBoth, cEither, t0, t1⟩ : Ad)) := FnOk.up (ok_is_whole (P := l.prog) (w := w) (base := base) B  F0)
  have C_is_whole : CalX l.prog w K mg base "is_whole" ["thing"] 1 (sp_is_whole K (⟨cBellError, cNoClock, cNoHappening, cNoFit, cNoWish, cNoRow, cNoText, cHappening, cFit, cAny, cKind, cPlace, cLeast, cNot, cBoth, cEither, t0, t1⟩ : Ad)) := ⟨_, _, G_is_whole, b0, k0, PySem.W.mg_of X G a0⟩
  have G_is_name : FnOk l.prog w K mg base (CXF l.prog w) 1 f2 _ ["thing"] (sp_is_name K (⟨cBellError, cNoClock, cNoHappening, cNoFit, cNoWish, cNoRow, cNoText, cHappening, cFit, cAny, cKind, cPlace, cLeast, cNot, cBoth, cEither, t0, t1⟩ : Ad)) := FnOk.up (ok_is_name (P := l.prog) (w := w) (base := base) B  F2)
  have C_is_name : CalX l.prog w K mg base "is_name" ["thing"] 1 (sp_is_name K (⟨cBellError, cNoClock, cNoHappening, cNoFit, cNoWish, cNoRow, cNoText, cHappening, cFit, cAny, cKind, cPlace, cLeast, cNot, cBoth, cEither, t0, t1⟩ : Ad)) := ⟨_, _, G_is_name, b2, k2, PySem.W.mg_of X G a2⟩
  have G_check_fit : FnOk l.prog w K mg base (CXF l.prog w) 1 f12 _ ["fit"] (sp_check_fit K (⟨cBellError, cNoClock, cNoHappening, cNoFit, cNoWish, cNoRow, cNoText, cHappening, cFit, cAny, cKind, cPlace, cLeast, cNot, cBoth, cEither, t0, t1⟩ : Ad)) := ok_check_fit (P := l.prog) (w := w) (base := base) B  F12
  have C_check_fit : CalX l.prog w K mg base "check_fit" ["fit"] 1 (sp_check_fit K (⟨cBellError, cNoClock, cNoHappening, cNoFit, cNoWish, cNoRow, cNoText, cHappening, cFit, cAny, cKind, cPlace, cLeast, cNot, cBoth, cEither, t0, t1⟩ : Ad)) := ⟨_, _, G_check_fit, b12, k12, PySem.W.mg_of X G a12⟩
  have G_law_begin : FnOk l.prog w K mg base (CXF l.prog w) 1 f14 _ ["_law_cell"] (sp_law_begin K (⟨cBellError, cNoClock, cNoHappening, cNoFit, cNoWish, cNoRow, cNoText, cHappening, cFit, cAny, cKind, cPlace, cLeast, cNot, cBoth, cEither, t0, t1⟩ : Ad)) := FnOk.up (ok_law_begin (P := l.prog) (w := w) (base := base) B  F14)
  have C_law_begin : CalX l.prog w K mg base "_law_begin" ["_law_cell"] 1 (sp_law_begin K (⟨cBellError, cNoClock, cNoHappening, cNoFit, cNoWish, cNoRow, cNoText, cHappening, cFit, cAny, cKind, cPlace, cLeast, cNot, cBoth, cEither, t0, t1⟩ : Ad)) := ⟨_, _, G_law_begin, b14, k14, PySem.W.mg_of X G a14⟩
  have G_law_next : FnOk l.prog w K mg base (CXF l.prog w) 1 f15 _ ["_law_state", "_law_base"] (sp_law_next K (⟨cBellError, cNoClock, cNoHappening, cNoFit, cNoWish, cNoRow, cNoText, cHappening, cFit, cAny, cKind, cPlace, cLeast, cNot, cBoth, cEither, t0, t1⟩ : Ad)) := FnOk.up (ok_law_next (P := l.prog) (w := w) (base := base) B  F15)
  have C_law_next : CalX l.prog w K mg base "_law_next" ["_law_state", "_law_base"] 1 (sp_law_next K (⟨cBellError, cNoClock, cNoHappening, cNoFit, cNoWish, cNoRow, cNoText, cHappening, cFit, cAny, cKind, cPlace, cLeast, cNot, cBoth, cEither, t0, t1⟩ : Ad)) := ⟨_, _, G_law_next, b15, k15, PySem.W.mg_of X G a15⟩
  have G_law_kinds : FnOk l.prog w K mg base (CXF l.prog w) 1 f18 _ ["_law_fit"] (sp_law_kinds K (⟨cBellError, cNoClock, cNoHappening, cNoFit, cNoWish, cNoRow, cNoText, cHappening, cFit, cAny, cKind, cPlace, cLeast, cNot, cBoth, cEither, t0, t1⟩ : Ad)) := FnOk.up (ok_law_kinds (P := l.prog) (w := w) (base := base) B  F18)
  have C_law_kinds : CalX l.prog w K mg base "_law_kinds" ["_law_fit"] 1 (sp_law_kinds K (⟨cBellError, cNoClock, cNoHappening, cNoFit, cNoWish, cNoRow, cNoText, cHappening, cFit, cAny, cKind, cPlace, cLeast, cNot, cBoth, cEither, t0, t1⟩ : Ad)) := ⟨_, _, G_law_kinds, b18, k18, PySem.W.mg_of X G a18⟩
  have G_is_whole_from : FnOk l.prog w K mg base (CXF l.prog w) 2 f1 _ ["thing", "least"] (sp_is_whole_from K (⟨cBellError, cNoClock, cNoHappening, cNoFit, cNoWish, cNoRow, cNoText, cHappening, cFit, cAny, cKind, cPlace, cLeast, cNot, cBoth, cEither, t0, t1⟩ : Ad)) := FnOk.up (ok_is_whole_from (P := l.prog) (w := w) (base := base) B C_is_whole F1)
  have C_is_whole_from : CalX l.prog w K mg base "is_whole_from" ["thing", "least"] 2 (sp_is_whole_from K (⟨cBellError, cNoClock, cNoHappening, cNoFit, cNoWish, cNoRow, cNoText, cHappening, cFit, cAny, cKind, cPlace, cLeast, cNot, cBoth, cEither, t0, t1⟩ : Ad)) := ⟨_, _, G_is_whole_from, b1, k1, PySem.W.mg_of X G a1⟩
  have G_are_unlike_names : FnOk l.prog w K mg base (CXF l.prog w) 2 f4 _ ["thing"] (sp_are_unlike_names K (⟨cBellError, cNoClock, cNoHappening, cNoFit, cNoWish, cNoRow, cNoText, cHappening, cFit, cAny, cKind, cPlace, cLeast, cNot, cBoth, cEither, t0, t1⟩ : Ad)) := FnOk.up (ok_are_unlike_names (P := l.prog) (w := w) (base := base) B C_is_name F4)
  have C_are_unlike_names : CalX l.prog w K mg base "are_unlike_names" ["thing"] 2 (sp_are_unlike_names K (⟨cBellError, cNoClock, cNoHappening, cNoFit, cNoWish, cNoRow, cNoText, cHappening, cFit, cAny, cKind, cPlace, cLeast, cNot, cBoth, cEither, t0, t1⟩ : Ad)) := ⟨_, _, G_are_unlike_names, b4, k4, PySem.W.mg_of X G a4⟩
  have G_Not___init__ : FnOk l.prog w K mg base (CXF l.prog w) 2 f8 _ ["self", "fit"] (sp_Not___init__ K (⟨cBellError, cNoClock, cNoHappening, cNoFit, cNoWish, cNoRow, cNoText, cHappening, cFit, cAny, cKind, cPlace, cLeast, cNot, cBoth, cEither, t0, t1⟩ : Ad)) := ok_Not___init__ (P := l.prog) (w := w) (base := base) B C_check_fit F8
  have CC_Not : CalC l.prog w K mg base "Not" cNot ["self", "fit"] 2 (sp_Not___init__ K (⟨cBellError, cNoClock, cNoHappening, cNoFit, cNoWish, cNoRow, cNoText, cHappening, cFit, cAny, cKind, cPlace, cLeast, cNot, cBoth, cEither, t0, t1⟩ : Ad)) := ⟨_, _, G_Not___init__, b8, ⟨mkNot, a8, i8, kcNot⟩, B.Not⟩
  have G_check_fits : FnOk l.prog w K mg base (CXF l.prog w) 2 f13 _ ["fits"] (sp_check_fits K (⟨cBellError, cNoClock, cNoHappening, cNoFit, cNoWish, cNoRow, cNoText, cHappening, cFit, cAny, cKind, cPlace, cLeast, cNot, cBoth, cEither, t0, t1⟩ : Ad)) := ok_check_fits (P := l.prog) (w := w) (base := base) B C_check_fit F13
  have C_check_fits : CalX l.prog w K mg base "check_fits" ["fits"] 2 (sp_check_fits K (⟨cBellError, cNoClock, cNoHappening, cNoFit, cNoWish, cNoRow, cNoText, cHappening, cFit, cAny, cKind, cPlace, cLeast, cNot, cBoth, cEither, t0, t1⟩ : Ad)) := ⟨_, _, G_check_fits, b13, k13, PySem.W.mg_of X G a13⟩
  have G_law_name : FnOk l.prog w K mg base (CXF l.prog w) 2 f16 _ ["_law_state"] (sp_law_name K (⟨cBellError, cNoClock, cNoHappening, cNoFit, cNoWish, cNoRow, cNoText, cHappening, cFit, cAny, cKind, cPlace, cLeast, cNot, cBoth, cEither, t0, t1⟩ : Ad)) := FnOk.up (ok_law_name (P := l.prog) (w := w) (base := base) B C_law_next F16)
  have C_law_name : CalX l.prog w K mg base "_law_name" ["_law_state"] 2 (sp_law_name K (⟨cBellError, cNoClock, cNoHappening, cNoFit, cNoWish, cNoRow, cNoText, cHappening, cFit, cAny, cKind, cPlace, cLeast, cNot, cBoth, cEither, t0, t1⟩ : Ad)) := ⟨_, _, G_law_name, b16, k16, PySem.W.mg_of X G a16⟩
  have G_law_is_kind : FnOk l.prog w K mg base (CXF l.prog w) 2 f19 _ ["_law_fit", "_law_at"] (sp_law_is_kind K (⟨cBellError, cNoClock, cNoHappening, cNoFit, cNoWish, cNoRow, cNoText, cHappening, cFit, cAny, cKind, cPlace, cLeast, cNot, cBoth, cEither, t0, t1⟩ : Ad)) := FnOk.up (ok_law_is_kind (P := l.prog) (w := w) (base := base) B C_law_kinds F19)
  have C_law_is_kind : CalX l.prog w K mg base "_law_is_kind" ["_law_fit", "_law_at"] 2 (sp_law_is_kind K (⟨cBellError, cNoClock, cNoHappening, cNoFit, cNoWish, cNoRow, cNoText, cHappening, cFit, cAny, cKind, cPlace, cLeast, cNot, cBoth, cEither, t0, t1⟩ : Ad)) := ⟨_, _, G_law_is_kind, b19, k19, PySem.W.mg_of X G a19⟩
  have G_Happening___init__ : FnOk l.prog w K mg base (CXF l.prog w) 3 f3 _ ["self", "kind", "place", "weight"] (sp_Happening___init__ K (⟨cBellError, cNoClock, cNoHappening, cNoFit, cNoWish, cNoRow, cNoText, cHappening, cFit, cAny, cKind, cPlace, cLeast, cNot, cBoth, cEither, t0, t1⟩ : Ad)) := FnOk.up (ok_Happening___init__ (P := l.prog) (w := w) (base := base) B C_is_whole_from C_is_name F3)
  have CC_Happening : CalC l.prog w K mg base "Happening" cHappening ["self", "kind", "place", "weight"] 3 (sp_Happening___init__ K (⟨cBellError, cNoClock, cNoHappening, cNoFit, cNoWish, cNoRow, cNoText, cHappening, cFit, cAny, cKind, cPlace, cLeast, cNot, cBoth, cEither, t0, t1⟩ : Ad)) := ⟨_, _, G_Happening___init__, b3, ⟨mkHappening, a3, i3, kcHappening⟩, B.Happening⟩
  have G_Least___init__ : FnOk l.prog w K mg base (CXF l.prog w) 3 f7 _ ["self", "weight"] (sp_Least___init__ K (⟨cBellError, cNoClock, cNoHappening, cNoFit, cNoWish, cNoRow, cNoText, cHappening, cFit, cAny, cKind, cPlace, cLeast, cNot, cBoth, cEither, t0, t1⟩ : Ad)) := ok_Least___init__ (P := l.prog) (w := w) (base := base) B C_is_whole_from F7
  have CC_Least : CalC l.prog w K mg base "Least" cLeast ["self", "weight"] 3 (sp_Least___init__ K (⟨cBellError, cNoClock, cNoHappening, cNoFit, cNoWish, cNoRow, cNoText, cHappening, cFit, cAny, cKind, cPlace, cLeast, cNot, cBoth, cEither, t0, t1⟩ : Ad)) := ⟨_, _, G_Least___init__, b7, ⟨mkLeast, a7, i7, kcLeast⟩, B.Least⟩
  have G_Both___init__ : FnOk l.prog w K mg base (CXF l.prog w) 3 f9 _ ["self", "fits"] (sp_Both___init__ K (⟨cBellError, cNoClock, cNoHappening, cNoFit, cNoWish, cNoRow, cNoText, cHappening, cFit, cAny, cKind, cPlace, cLeast, cNot, cBoth, cEither, t0, t1⟩ : Ad)) := ok_Both___init__ (P := l.prog) (w := w) (base := base) B C_check_fits F9
  have CC_Both : CalC l.prog w K mg base "Both" cBoth ["self", "fits"] 3 (sp_Both___init__ K (⟨cBellError, cNoClock, cNoHappening, cNoFit, cNoWish, cNoRow, cNoText, cHappening, cFit, cAny, cKind, cPlace, cLeast, cNot, cBoth, cEither, t0, t1⟩ : Ad)) := ⟨_, _, G_Both___init__, b9, ⟨mkBoth, a9, i9, kcBoth⟩, B.Both⟩
  have G_Either___init__ : FnOk l.prog w K mg base (CXF l.prog w) 3 f10 _ ["self", "fits"] (sp_Either___init__ K (⟨cBellError, cNoClock, cNoHappening, cNoFit, cNoWish, cNoRow, cNoText, cHappening, cFit, cAny, cKind, cPlace, cLeast, cNot, cBoth, cEither, t0, t1⟩ : Ad)) := ok_Either___init__ (P := l.prog) (w := w) (base := base) B C_check_fits F10
  have CC_Either : CalC l.prog w K mg base "Either" cEither ["self", "fits"] 3 (sp_Either___init__ K (⟨cBellError, cNoClock, cNoHappening, cNoFit, cNoWish, cNoRow, cNoText, cHappening, cFit, cAny, cKind, cPlace, cLeast, cNot, cBoth, cEither, t0, t1⟩ : Ad)) := ⟨_, _, G_Either___init__, b10, ⟨mkEither, a10, i10, kcEither⟩, B.Either⟩
  have G_check_names : FnOk l.prog w K mg base (CXF l.prog w) 3 f11 _ ["names"] (sp_check_names K (⟨cBellError, cNoClock, cNoHappening, cNoFit, cNoWish, cNoRow, cNoText, cHappening, cFit, cAny, cKind, cPlace, cLeast, cNot, cBoth, cEither, t0, t1⟩ : Ad)) := ok_check_names (P := l.prog) (w := w) (base := base) B C_are_unlike_names F11
  have C_check_names : CalX l.prog w K mg base "check_names" ["names"] 3 (sp_check_names K (⟨cBellError, cNoClock, cNoHappening, cNoFit, cNoWish, cNoRow, cNoText, cHappening, cFit, cAny, cKind, cPlace, cLeast, cNot, cBoth, cEither, t0, t1⟩ : Ad)) := ⟨_, _, G_check_names, b11, k11, PySem.W.mg_of X G a11⟩
  have G_law_names : FnOk l.prog w K mg base (CXF l.prog w) 3 f17 _ ["_law_state", "_law_most"] (sp_law_names K (⟨cBellError, cNoClock, cNoHappening, cNoFit, cNoWish, cNoRow, cNoText, cHappening, cFit, cAny, cKind, cPlace, cLeast, cNot, cBoth, cEither, t0, t1⟩ : Ad)) := FnOk.up (ok_law_names (P := l.prog) (w := w) (base := base) B C_law_name C_law_next F17)
  have C_law_names : CalX l.prog w K mg base "_law_names" ["_law_state", "_law_most"] 3 (sp_law_names K (⟨cBellError, cNoClock, cNoHappening, cNoFit, cNoWish, cNoRow, cNoText, cHappening, cFit, cAny, cKind, cPlace, cLeast, cNot, cBoth, cEither, t0, t1⟩ : Ad)) := ⟨_, _, G_law_names, b17, k17, PySem.W.mg_of X G a17⟩
  have G_Kind___init__ : FnOk l.prog w K mg base (CXF l.prog w) 4 f5 _ ["self", "names"] (sp_Kind___init__ K (⟨cBellError, cNoClock, cNoHappening, cNoFit, cNoWish, cNoRow, cNoText, cHappening, cFit, cAny, cKind, cPlace, cLeast, cNot, cBoth, cEither, t0, t1⟩ : Ad)) := ok_Kind___init__ (P := l.prog) (w := w) (base := base) B C_check_names F5
  have CC_Kind : CalC l.prog w K mg base "Kind" cKind ["self", "names"] 4 (sp_Kind___init__ K (⟨cBellError, cNoClock, cNoHappening, cNoFit, cNoWish, cNoRow, cNoText, cHappening, cFit, cAny, cKind, cPlace, cLeast, cNot, cBoth, cEither, t0, t1⟩ : Ad)) := ⟨_, _, G_Kind___init__, b5, ⟨mkKind, a5, i5, kcKind⟩, B.Kind⟩
  have G_Place___init__ : FnOk l.prog w K mg base (CXF l.prog w) 4 f6 _ ["self", "names"] (sp_Place___init__ K (⟨cBellError, cNoClock, cNoHappening, cNoFit, cNoWish, cNoRow, cNoText, cHappening, cFit, cAny, cKind, cPlace, cLeast, cNot, cBoth, cEither, t0, t1⟩ : Ad)) := ok_Place___init__ (P := l.prog) (w := w) (base := base) B C_check_names F6
  have CC_Place : CalC l.prog w K mg base "Place" cPlace ["self", "names"] 4 (sp_Place___init__ K (⟨cBellError, cNoClock, cNoHappening, cNoFit, cNoWish, cNoRow, cNoText, cHappening, cFit, cAny, cKind, cPlace, cLeast, cNot, cBoth, cEither, t0, t1⟩ : Ad)) := ⟨_, _, G_Place___init__, b6, ⟨mkPlace, a6, i6, kcPlace⟩, B.Place⟩
  have G_law_odd : FnOk l.prog w K mg base (CXF l.prog w) 5 f22 _ ["_law_at", "_law_names_here", "_law_weight", "_law_fit"] (sp_law_odd K (⟨cBellError, cNoClock, cNoHappening, cNoFit, cNoWish, cNoRow, cNoText, cHappening, cFit, cAny, cKind, cPlace, cLeast, cNot, cBoth, cEither, t0, t1⟩ : Ad)) := FnOk.up (ok_law_odd (P := l.prog) (w := w) (base := base) B CC_Happening F22)
  have C_law_odd : CalX l.prog w K mg base "_law_odd" ["_law_at", "_law_names_here", "_law_weight", "_law_fit"] 5 (sp_law_odd K (⟨cBellError, cNoClock, cNoHappening, cNoFit, cNoWish, cNoRow, cNoText, cHappening, cFit, cAny, cKind, cPlace, cLeast, cNot, cBoth, cEither, t0, t1⟩ : Ad)) := ⟨_, _, G_law_odd, b22, k22, PySem.W.mg_of X G a22⟩
  have G_law_made : FnOk l.prog w K mg base (CXF l.prog w) 6 f20 _ ["_law_at", "_law_thing"] (sp_law_made K (⟨cBellError, cNoClock, cNoHappening, cNoFit, cNoWish, cNoRow, cNoText, cHappening, cFit, cAny, cKind, cPlace, cLeast, cNot, cBoth, cEither, t0, t1⟩ : Ad)) := ok_law_made (P := l.prog) (w := w) (base := base) B CC_Either CC_Kind CC_Place CC_Least CC_Not CC_Both F20
  have C_law_made : CalX l.prog w K mg base "_law_made" ["_law_at", "_law_thing"] 6 (sp_law_made K (⟨cBellError, cNoClock, cNoHappening, cNoFit, cNoWish, cNoRow, cNoText, cHappening, cFit, cAny, cKind, cPlace, cLeast, cNot, cBoth, cEither, t0, t1⟩ : Ad)) := ⟨_, _, G_law_made, b20, k20, PySem.W.mg_of X G a20⟩
  have G_law_refused : FnOk l.prog w K mg base (CXF l.prog w) 7 f21 _ ["_law_at", "_law_thing"] (sp_law_refused K (⟨cBellError, cNoClock, cNoHappening, cNoFit, cNoWish, cNoRow, cNoText, cHappening, cFit, cAny, cKind, cPlace, cLeast, cNot, cBoth, cEither, t0, t1⟩ : Ad)) := FnOk.up (ok_law_refused (P := l.prog) (w := w) (base := base) B C_law_made F21)
  have C_law_refused : CalX l.prog w K mg base "_law_refused" ["_law_at", "_law_thing"] 7 (sp_law_refused K (⟨cBellError, cNoClock, cNoHappening, cNoFit, cNoWish, cNoRow, cNoText, cHappening, cFit, cAny, cKind, cPlace, cLeast, cNot, cBoth, cEither, t0, t1⟩ : Ad)) := ⟨_, _, G_law_refused, b21, k21, PySem.W.mg_of X G a21⟩
  have G_law_named : FnOk l.prog w K mg base (CXF l.prog w) 7 f23 _ ["_law_at", "_law_names_here"] (sp_law_named K (⟨cBellError, cNoClock, cNoHappening, cNoFit, cNoWish, cNoRow, cNoText, cHappening, cFit, cAny, cKind, cPlace, cLeast, cNot, cBoth, cEither, t0, t1⟩ : Ad)) := FnOk.up (ok_law_named (P := l.prog) (w := w) (base := base) B C_law_made C_law_is_kind F23)
  have C_law_named : CalX l.prog w K mg base "_law_named" ["_law_at", "_law_names_here"] 7 (sp_law_named K (⟨cBellError, cNoClock, cNoHappening, cNoFit, cNoWish, cNoRow, cNoText, cHappening, cFit, cAny, cKind, cPlace, cLeast, cNot, cBoth, cEither, t0, t1⟩ : Ad)) := ⟨_, _, G_law_named, b23, k23, PySem.W.mg_of X G a23⟩
  have G_law_several : FnOk l.prog w K mg base (CXF l.prog w) 7 f24 _ ["_law_at", "_law_weights"] (sp_law_several K (⟨cBellError, cNoClock, cNoHappening, cNoFit, cNoWish, cNoRow, cNoText, cHappening, cFit, cAny, cKind, cPlace, cLeast, cNot, cBoth, cEither, t0, t1⟩ : Ad)) := FnOk.up (ok_law_several (P := l.prog) (w := w) (base := base) B C_law_made CC_Least C_law_is_kind F24)
  have C_law_several : CalX l.prog w K mg base "_law_several" ["_law_at", "_law_weights"] 7 (sp_law_several K (⟨cBellError, cNoClock, cNoHappening, cNoFit, cNoWish, cNoRow, cNoText, cHappening, cFit, cAny, cKind, cPlace, cLeast, cNot, cBoth, cEither, t0, t1⟩ : Ad)) := ⟨_, _, G_law_several, b24, k24, PySem.W.mg_of X G a24⟩
  exact ok_law (P := l.prog) (w := w) (base := base) B C_law_begin C_law_names C_law_next CC_Least CC_Not C_law_odd C_law_is_kind C_law_named C_law_several C_law_refused F25
theorem walk {l : PySem.W.OpenLaw} {q : Program} {loose : List Str} {XP : (Str → Option Value) → Heap → Prop} {YP : World → Heap → Prop} {d : DefRec} {K : Params → PySem.W.Frag} (hn : l.most = some 63) (hdf : d.params.defaults = [])
    (hY : ∀ (w : World) (h : Heap), YP w h → (K w.params).In h)
    (F : ∀ (w : World) (mg : Str → Option Value) (fa : Addr) (h : Heap), (K w.params).In h → h.Ns mainGlobals mg → mg d.name = some (.ref fa) →
      ∃ fd : FuncData, (∀ (s : Shared) (u : Value), BindsTo s fd ⟨[u], []⟩ [("_law_script", u)]) ∧ ∀ base : Heap, (K w.params).In base → base.Ns mainGlobals mg → FnOk l.prog w (K w.params) mg base CX0 8 fa fd ["_law_script"] (spL (K w.params))) :
    PySem.W.WalkO q loose XP YP l.row.toRowW d [] (fun f vs => PySem.call f vs) :=
  L2.walk_of (n := 63) (k := 8) (x := "_law_script") (CX := fun _ => CX0) (sp := fun w => spL (K w.params)) hn (by decide) hdf ⟨rfl, by decide, by decide⟩ hY F (fun _ _ a ns hl _ hS => ⟨a, ns, rfl, hS, hl, fun _ => rfl⟩) fun _ _ _ _ _ z => z
theorem all_mk2 {P : Program} {w : World} {K : PySem.W.Frag} {mg : Str → Option Value} {fa : Addr} (h : ∃ (a : Ad) (fd : FuncData), (∀ (s : Shared) (v : Value), BindsTo s fd ⟨[v], []⟩ [("_law_script", v)]) ∧ ∀ base : Heap, K.In base → base.Ns mainGlobals mg → FnOk P w K mg base CX0 8 fa fd ["_law_script"] (sp_law K a)) :
    ∃ fd : FuncData, (∀ (s : Shared) (v : Value), BindsTo s fd ⟨[v], []⟩ [("_law_script", v)]) ∧ ∀ base : Heap, K.In base → base.Ns mainGlobals mg → FnOk P w K mg base CX0 8 fa fd ["_law_script"] (spL K) := by
  obtain ⟨a, fd, b, q⟩ := h
  exact ⟨fd, b, fun base x y => q base x y⟩
end Bw
open PySem PySem.W PyProof.Rows
set_option maxRecDepth 100000 in
set_option maxHeartbeats 0 in
theorem PySem.Challenge.cw_bellsaway_k07_fits_made_holds : PySem.Challenge.rw_bellsaway_k07_fits_made.Holds := by
  w_on; o_law; k_head; (case hw => w_witness2)
  k_fill
  refine Bw.walk (l := PySem.Challenge.rw_bellsaway_k07_fits_made) rfl rfl (fun w h Y => PySem.W.kIn_of Y) ?F
  case F =>
    intro w mg fa h KX G hmg
    refine Bw.all_mk2 ?Z
    refine' Bw.all_mk KX G hmg ?a0 ?l0 ?c0 ?k0 ?a1 ?l1 ?c1 ?k1 ?a2 ?l2 ?c2 ?k2 ?a3 ?i3 ?l3 ?c3 ?k3 ?a4 ?l4 ?c4 ?k4 ?a5 ?i5 ?l5 ?c5 ?k5 ?a6 ?i6 ?l6 ?c6 ?k6 ?a7 ?i7 ?l7 ?c7 ?k7 ?a8 ?i8 ?l8 ?c8 ?k8 ?a9 ?i9 ?l9 ?c9 ?k9 ?a10 ?i10 ?l10 ?c10 ?k10 ?a11 ?l11 ?c11 ?k11 ?a12 ?l12 ?c12 ?k12 ?a13 ?l13 ?c13 ?k13 ?a14 ?l14 ?c14 ?k14 ?a15 ?l15 ?c15 ?k15 ?a16 ?l16 ?c16 ?k16 ?a17 ?l17 ?c17 ?k17 ?a18 ?l18 ?c18 ?k18 ?a19 ?l19 ?c19 ?k19 ?a20 ?l20 ?c20 ?k20 ?a21 ?l21 ?c21 ?k21 ?a22 ?l22 ?c22 ?k22 ?a23 ?l23 ?c23 ?k23 ?a24 ?l24 ?c24 ?k24 ?a25 ?l25 ?c25 ?k25 ?y0 ?y1 ?y2 ?y3 ?y4 ?y5 ?y6 ?y7 ?y8 ?y9 ?y10 ?y11 ?y12 ?y13 ?y14 ?y15 ?y16 ?y17 ?y18 ?y19 ?y20 ?y21 ?y22 ?y23 ?y24 ?y25 ?y26 ?y27 ?y28 ?y29 ?y30_0 ?y30_1 ?y30_2 ?y30_3 ?y30_4 ?y30_5 ?y31 ?y32 ?y33 ?y34 ?y35_0 ?y35_1 ?y35_2 ?y35_3 ?y35_4 ?y35_5 ?y35_6 ?y35_7 ?y36 ?y37 ?y38 ?y39_0 ?y39_1 ?y39_2 ?y39_3 ?y39_4 ?y39_5 ?y39_6 ?y39_7 ?y40_0 ?y40_1 ?y40_2 ?y40_3 ?y40_4 ?y40_5 ?y40_6 ?y40_7 ?y41 ?y42_0 ?y42_1 ?y42_2 ?y42_3 ?y42_4 ?y42_5 ?y42_6 ?y42_7 ?y43 ?y44_0 ?y44_1 ?y44_2 ?y44_3 ?y44_4 ?y44_5 ?y44_6 ?y44_7 ?y45 ?y46_0 ?y46_1 ?y46_2 ?y46_3 ?y46_4 ?y46_5 ?y46_6 ?y46_7 ?y47 ?y48_0 ?y48_1 ?y48_2 ?y48_3 ?y48_4 ?y48_5 ?y48_6 ?y48_7 ?y49 ?y50_0 ?y50_1 ?y50_2 ?y50_3 ?y50_4 ?y50_5 ?y50_6 ?y50_7 ?y51 ?y52 ?y53 ?y54 ?y55 ?y56 ?y57 ?y58 ?y59 ?y60 ?y61 ?y62 ?y63 ?y64 ?y65 ?y66 ?y67 ?y68 ?y69 ?y70 ?y71 ?y72 ?y73 ?y74 ?y75 ?y76 ?y77 ?y78 ?y79 ?y80 ?y81 ?y82 ?y83 ?y84 ?y85 ?y86 ?y87 ?y88 ?y89 ?y90 ?y91 ?y92 ?y93 ?y94 ?y95 ?y96 ?y97 ?y98 ?y99 ?y100 ?y101 ?y102 ?y103 ?y104 ?y105 ?y106 ?y107 ?y108 ?y109 ?y110 ?y111 ?y112 ?y113 ?y114 ?y115 ?y116 ?y117 ?y118 ?y119 ?y120 ?y121 ?y122_0 ?y122_1 ?y122_2 ?mkHappening ?kcHappening ?mkKind ?kcKind ?mkPlace ?kcPlace ?mkLeast ?kcLeast ?mkNot ?kcNot ?mkBoth ?kcBoth ?mkEither ?kcEither
    (case y0 => k_is)
    (case y1 => k_is)
    (case y2 => k_is)
    (case y3 => k_is)
    (case y4 => k_is)
    (case y5 => k_is)
    (case y6 => k_is)
    (case y7 => k_is)
    (case y8 => k_is)
    (case y9 => k_is)
    (case y10 => k_is)
    (case y11 => k_is)
    (case y12 => k_is)
    (case y13 => k_is)
    (case y14 => k_is)
    (case y15 => k_is)
    (case y16 => k_is)
    (case y17 => k_is)
    (case y18 => k_is)
    (case y19 => k_is)
    (case y20 => k_is)
    (case y21 => k_is)
    (case y22 => k_is)
    (case y23 => k_is)
    (case y24 => k_is)
    (case y25 => k_is)
    (case y26 => k_is)
    (case y27 => k_is)
    (case y28 => k_is)
    (case a0 => k_is)
    (case l0 => k_is)
    (case c0 => k_is)
    (case k0 => k_is)
    (case a1 => k_is)
    (case l1 => k_is)
    (case c1 => k_is)
    (case k1 => k_is)
    (case a2 => k_is)
    (case l2 => k_is)
    (case c2 => k_is)
    (case k2 => k_is)
    (case a3 => k_is)
    (case i3 => k_is)
    (case l3 => k_is)
    (case c3 => k_is)
    (case k3 => k_is)
    (case a4 => k_is)
    (case l4 => k_is)
    (case c4 => k_is)
    (case k4 => k_is)
    (case a5 => k_is)
    (case i5 => k_is)
    (case l5 => k_is)
    (case c5 => k_is)
    (case k5 => k_is)
    (case a6 => k_is)
    (case i6 => k_is)
    (case l6 => k_is)
    (case c6 => k_is)
    (case k6 => k_is)
    (case a7 => k_is)
    (case i7 => k_is)
    (case l7 => k_is)
    (case c7 => k_is)
    (case k7 => k_is)
    (case a8 => k_is)
    (case i8 => k_is)
    (case l8 => k_is)
    (case c8 => k_is)
    (case k8 => k_is)
    (case a9 => k_is)
    (case i9 => k_is)
    (case l9 => k_is)
    (case c9 => k_is)
    (case k9 => k_is)
    (case a10 => k_is)
    (case i10 => k_is)
    (case l10 => k_is)
    (case c10 => k_is)
    (case k10 => k_is)
    (case a11 => k_is)
    (case l11 => k_is)
    (case c11 => k_is)
    (case k11 => k_is)
    (case a12 => k_is)
    (case l12 => k_is)
    (case c12 => k_is)
    (case k12 => k_is)
    (case a13 => k_is)
    (case l13 => k_is)
    (case c13 => k_is)
    (case k13 => k_is)
    (case a14 => k_is)
    (case l14 => k_is)
    (case c14 => k_is)
    (case k14 => k_is)
    (case a15 => k_is)
    (case l15 => k_is)
    (case c15 => k_is)
    (case k15 => k_is)
    (case a16 => k_is)
    (case l16 => k_is)
    (case c16 => k_is)
    (case k16 => k_is)
    (case a17 => k_is)
    (case l17 => k_is)
    (case c17 => k_is)
    (case k17 => k_is)
    (case a18 => k_is)
    (case l18 => k_is)
    (case c18 => k_is)
    (case k18 => k_is)
    (case a19 => k_is)
    (case l19 => k_is)
    (case c19 => k_is)
    (case k19 => k_is)
    (case a20 => k_is)
    (case l20 => k_is)
    (case c20 => k_is)
    (case k20 => k_is)
    (case a21 => k_is)
    (case l21 => k_is)
    (case c21 => k_is)
    (case k21 => k_is)
    (case a22 => k_is)
    (case l22 => k_is)
    (case c22 => k_is)
    (case k22 => k_is)
    (case a23 => k_is)
    (case l23 => k_is)
    (case c23 => k_is)
    (case k23 => k_is)
    (case a24 => k_is)
    (case l24 => k_is)
    (case c24 => k_is)
    (case k24 => k_is)
    (case a25 => k_is)
    (case l25 => k_is)
    (case c25 => k_is)
    (case k25 => k_is)
    (case y29 => k_exc)
    (case y30_0 => k_is)
    (case y30_1 => k_is)
    (case y30_2 => k_is)
    (case y30_3 => k_is)
    (case y30_4 => k_is)
    (case y30_5 => k_is)
    (case y31 => kts_exm)
    (case y32 => kit_is)
    (case y33 => kit_is)
    (case y34 => kit_is)
    (case y35_0 => k_is)
    (case y35_1 => k_is)
    (case y35_2 => k_is)
    (case y35_3 => k_is)
    (case y35_4 => k_is)
    (case y35_5 => k_is)
    (case y35_6 => k_is)
    (case y35_7 => k_is)
    (case y36 => k_is)
    (case y37 => k_is)
    (case y38 => k_is)
    (case y39_0 => k_is)
    (case y39_1 => k_is)
    (case y39_2 => k_is)
    (case y39_3 => k_is)
    (case y39_4 => k_is)
    (case y39_5 => k_is)
    (case y39_6 => k_is)
    (case y39_7 => k_is)
    (case y40_0 => k_is)
    (case y40_1 => k_is)
    (case y40_2 => k_is)
    (case y40_3 => k_is)
    (case y40_4 => k_is)
    (case y40_5 => k_is)
    (case y40_6 => k_is)
    (case y40_7 => k_is)
    (case y41 => k_is)
    (case y42_0 => k_is)
    (case y42_1 => k_is)
    (case y42_2 => k_is)
    (case y42_3 => k_is)
    (case y42_4 => k_is)
    (case y42_5 => k_is)
    (case y42_6 => k_is)
    (case y42_7 => k_is)
    (case y43 => k_is)
    (case y44_0 => k_is)
    (case y44_1 => k_is)
    (case y44_2 => k_is)
    (case y44_3 => k_is)
    (case y44_4 => k_is)
    (case y44_5 => k_is)
    (case y44_6 => k_is)
    (case y44_7 => k_is)
    (case y45 => k_is)
    (case y46_0 => k_is)
    (case y46_1 => k_is)
    (case y46_2 => k_is)
    (case y46_3 => k_is)
    (case y46_4 => k_is)
    (case y46_5 => k_is)
    (case y46_6 => k_is)
    (case y46_7 => k_is)
    (case y47 => k_is)
    (case y48_0 => k_is)
    (case y48_1 => k_is)
    (case y48_2 => k_is)
    (case y48_3 => k_is)
    (case y48_4 => k_is)
    (case y48_5 => k_is)
    (case y48_6 => k_is)
    (case y48_7 => k_is)
    (case y49 => k_is)
    (case y50_0 => k_is)
    (case y50_1 => k_is)
    (case y50_2 => k_is)
    (case y50_3 => k_is)
    (case y50_4 => k_is)
    (case y50_5 => k_is)
    (case y50_6 => k_is)
    (case y50_7 => k_is)
    (case y51 => k_is)
    (case y52 => kit_is)
    (case y53 => kit_is)
    (case y54 => kit_is)
    (case y55 => kit_is)
    (case y56 => kit_is)
    (case y57 => kit_is)
    (case y58 => kit_is)
    (case y59 => kit_is)
    (case y60 => kit_is)
    (case y61 => kit_is)
    (case y62 => kit_is)
    (case y63 => kit_is)
    (case y64 => kit_is)
    (case y65 => kit_is)
    (case y66 => kit_is)
    (case y67 => kit_is)
    (case y68 => kit_is)
    (case y69 => kit_is)
    (case y70 => kit_is)
    (case y71 => kit_is)
    (case y72 => kit_is)
    (case y73 => kit_is)
    (case y74 => kit_is)
    (case y75 => kit_is)
    (case y76 => kit_is)
    (case y77 => kit_is)
    (case y78 => kit_is)
    (case y79 => kit_is)
    (case y80 => kit_is)
    (case y81 => kit_is)
    (case y82 => kit_is)
    (case y83 => kit_is)
    (case y84 => kit_is)
    (case y85 => kit_is)
    (case y86 => kit_is)
    (case y87 => kit_is)
    (case y88 => kit_is)
    (case y89 => kit_is)
    (case y90 => kit_is)
    (case y91 => kit_is)
    (case y92 => kit_is)
    (case y93 => kit_is)
    (case y94 => kit_is)
    (case y95 => kit_is)
    (case y96 => kit_is)
    (case y97 => kit_is)
    (case y98 => kit_is)
    (case y99 => kit_is)
    (case y100 => kit_is)
    (case y101 => kit_is)
    (case y102 => kit_is)
    (case y103 => kit_is)
    (case y104 => kit_is)
    (case y105 => kit_is)
    (case y106 => kit_is)
    (case y107 => kit_is)
    (case y108 => kit_is)
    (case y109 => kit_is)
    (case y110 => kit_is)
    (case y111 => kit_is)
    (case y112 => kit_is)
    (case y113 => kit_is)
    (case y114 => kit_is)
    (case y115 => kit_is)
    (case y116 => kit_is)
    (case y117 => kit_is)
    (case y118 => kit_is)
    (case y119 => kit_is)
    (case y120 => kit_is)
    (case y121 => kit_is)
    (case y122_0 => k_is)
    (case y122_1 => k_is)
    (case y122_2 => k_is)
    (case mkHappening => k_is)
    (case kcHappening => k_is)
    (case mkKind => k_is)
    (case kcKind => k_is)
    (case mkPlace => k_is)
    (case kcPlace => k_is)
    (case mkLeast => k_is)
    (case kcLeast => k_is)
    (case mkNot => k_is)
    (case kcNot => k_is)
    (case mkBoth => k_is)
    (case kcBoth => k_is)
    (case mkEither => k_is)
    (case kcEither => k_is)
