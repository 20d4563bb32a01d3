import PyProof.Rows.All
import Wide.All
import OpenK.AllK
import Wide.FinOn
import Lean
import PyProof.EqAt
import PyProof.EqKinds
import PyProof.TupleCall
import PySem.Challenge.RW_bellsaway_k31_roads_made
set_option Elab.async false
set_option linter.all false
set_option maxRecDepth 100000
namespace L2
open PySem PySem.Spec PyProof.Rows
abbrev Key := Sum Int Str
def keyIs : Key → Value → Bool
  | .inl k, v => Value.isInt k v
  | .inr x, v => Value.isStrOf x v
def keyH (w : World) : Key → Int
  | .inl k => hashInt k
  | .inr x => hashStr w x
theorem keyIs_shape : ∀ {k : Key} {v : Value}, keyIs k v = true → (∃ i t, k = Sum.inl i ∧ v = Value.int i t) ∨ (∃ x t, k = Sum.inr x ∧ v = Value.str x t)
  | .inl i, v, h => by
    obtain ⟨t, e⟩ := Value.isInt_shape (k := i) (v := v) h
    exact .inl ⟨i, t, rfl, e⟩
  | .inr x, v, h => by
    obtain ⟨t, e⟩ := Value.isStrOf_shape (x := x) (v := v) h
    exact .inr ⟨x, t, rfl, e⟩
theorem key_ll (a b : Int) : decide ((Sum.inl a : Key) = Sum.inl b) = (a == b) := by
  by_cases e : a = b
  · subst e; simp
  · have h : ¬ (Sum.inl a : Key) = Sum.inl b := fun q => e (Sum.inl.inj q)
    rw [decide_eq_false h]
    exact (beq_eq_false_iff_ne.mpr e).symm
theorem key_rr (a b : Str) : decide ((Sum.inr a : Key) = Sum.inr b) = decide (a = b) := by
  by_cases e : a = b
  · subst e; simp
  · have h : ¬ (Sum.inr a : Key) = Sum.inr b := fun q => e (Sum.inr.inj q)
    rw [decide_eq_false h, decide_eq_false e]
theorem key_lr (a : Int) (b : Str) : decide ((Sum.inl a : Key) = Sum.inr b) = false := decide_eq_false (fun q => nomatch q)
theorem key_rl (a : Str) (b : Int) : decide ((Sum.inr a : Key) = Sum.inl b) = false := decide_eq_false (fun q => nomatch q)
def mixKind (prog : Program) (w : World) : PySem.KeyKind prog w Key where
  is := keyIs
  hash := keyH w
  inj := fun v a b ha hb => by
    rcases keyIs_shape ha with ⟨i, t, rfl, rfl⟩ | ⟨x, t, rfl, rfl⟩
    · rcases keyIs_shape hb with ⟨j, u, rfl, e⟩ | ⟨y, u, rfl, e⟩
      · injection e with e1 _; rw [e1]
      · exact nomatch e
    · rcases keyIs_shape hb with ⟨j, u, rfl, e⟩ | ⟨y, u, rfl, e⟩
      · exact nomatch e
      · injection e with e1 _; rw [e1]
  byValue := fun k v h => by
    rcases keyIs_shape h with ⟨i, t, rfl, rfl⟩ | ⟨x, t, rfl, rfl⟩ <;> rfl
  pyHash := fun hv h => by
    rcases keyIs_shape hv with ⟨i, t, rfl, rfl⟩ | ⟨x, t, rfl, rfl⟩
    · exact wpAny_pyHash_int h
    · exact wpAny_pyHash_str h
  eqBool := fun hu hv h => by
    rcases keyIs_shape hu with ⟨i, t, rfl, rfl⟩ | ⟨x, t, rfl, rfl⟩
    · rcases keyIs_shape hv with ⟨j, u, rfl, rfl⟩ | ⟨y, u, rfl, rfl⟩
      · rw [key_ll] at h; exact wpAny_eqBool_int h
      · rw [key_lr] at h; exact SeqAt.EqAt.int_str i t y u _ _ _ _ h
    · rcases keyIs_shape hv with ⟨j, u, rfl, rfl⟩ | ⟨y, u, rfl, rfl⟩
      · rw [key_rl] at h; exact SeqAt.EqAt.str_int x t j u _ _ _ _ h
      · rw [key_rr] at h; exact wpAny_eqBool_str h
  «strs» := fun k x t v h => by
    rcases keyIs_shape h with ⟨i, u, rfl, e⟩ | ⟨y, u, rfl, e⟩
    · exact nomatch e
    · injection e with e1 _
      subst e1
      cases v <;> rfl
end L2
namespace L2
open PySem PySem.Spec PyProof.Rows
inductive V where
  | non | bl (b : Bool) | int (i : Int) | str (x : Str) | byt (b : Array UInt8) | flt (b : UInt64) | ref (a : Addr) | ty (n : String)
  deriving DecidableEq
def RelV : V → Value → Prop
  | .non, u => u = Value.none
  | .bl b, u => u = Value.bool b
  | .int i, u => ∃ t, u = Value.int i t
  | .str x, u => ∃ t, u = Value.str x t
  | .byt b, u => ∃ t, u = Value.bytes b t
  | .flt b, u => ∃ t, u = Value.float b t
  | .ref a, u => u = Value.ref a
  | .ty n, u => u = Value.type n
abbrev Vals : List V → List Value → Prop := Paired RelV
theorem Vals.length {xs : List V} {us : List Value} (r : Vals xs us) : xs.length = us.length := Paired.length r
theorem Vals.get : ∀ {xs : List V} {us : List Value} {i : Nat} {x : V}, Vals xs us → xs[i]? = some x → ∃ u, us[i]? = some u ∧ RelV x u
  | _, _, _, _, .nil, e => by simp at e
  | _, _, 0, _, .cons r _, e => by simp at e; subst e; exact ⟨_, rfl, r⟩
  | _, _, i + 1, x, .cons _ t, e => by
    obtain ⟨u, h1, h2⟩ := Vals.get (i := i) (x := x) t (by simpa using e)
    exact ⟨u, by simpa using h1, h2⟩
theorem Vals.set {x : V} {u : Value} (r : RelV x u) : ∀ {xs : List V} {us : List Value} (i : Nat), Vals xs us → Vals (xs.set i x) (us.set i u)
  | _, _, _, .nil => .nil
  | _, _, 0, .cons _ t => .cons r t
  | _, _, i + 1, .cons q t => .cons q (Vals.set r i t)
theorem Vals.append : ∀ {xs ys : List V} {us ws : List Value}, Vals xs us → Vals ys ws → Vals (xs ++ ys) (us ++ ws)
  | _, _, _, _, .nil, s => s
  | _, _, _, _, .cons r t, s => .cons r (Vals.append t s)
theorem Vals.take : ∀ {xs : List V} {us : List Value} (n : Nat), Vals xs us → Vals (xs.take n) (us.take n)
  | _, _, 0, _ => .nil
  | _, _, _ + 1, .nil => .nil
  | _, _, n + 1, .cons r t => .cons r (Vals.take n t)
theorem Vals.drop : ∀ {xs : List V} {us : List Value} (n : Nat), Vals xs us → Vals (xs.drop n) (us.drop n)
  | _, _, 0, r => r
  | _, _, _ + 1, .nil => .nil
  | _, _, n + 1, .cons _ t => Vals.drop n t
def RelO : Option V → Option Value → Prop
  | some v, some u => RelV v u
  | none, none => True
  | _, _ => False
def KV {κ : Type} : List (κ × V) → List (κ × Value) → Prop := Paired fun (p : κ × V) (q : κ × Value) => p.1 = q.1 ∧ RelV p.2 q.2
def kV : Key → V
  | .inl i => .int i
  | .inr x => .str x
inductive HO where
    | lst (xs : List V)
    | tup (xs : List V)
    | dK (kvs : List (Key × V)) | dT (kvs : List (List Key × V))
    | set (S : Int → Bool) (n : Nat)
    | ins (C dx : Addr) (fs : List (Str × V))
    | own (x : Addr)
    | xd (fs : List (Str × V))
    | met (f x : Addr)
    | rng (lo hi : Int)
    | frz (o : Obj) (u : HO)
    | tbl (ps : Array Value)
    | ext (φ : Heap → Prop)
abbrev Hp := Addr → Option HO
def upd (H : Hp) (a : Addr) (o : HO) : Hp := fun b => if b = a then some o else H b
theorem upd_same {H : Hp} {a : Addr} {o : HO} : upd H a o a = some o := by unfold upd; rw [if_pos rfl]
theorem upd_ne {H : Hp} {a b : Addr} {o : HO} (h : b ≠ a) : upd H a o b = H b := by unfold upd; rw [if_neg h]
theorem ne_of {H : Hp} {a b : Addr} {o u : HO} (h : H a = some o) (h' : H b = some u) (d : o ≠ u) : a ≠ b := by
  intro e; subst e; rw [h] at h'; exact d (Option.some.inj h')
theorem ne_of_none {H : Hp} {a b : Addr} {o : HO} (h : H a = some o) (h' : H b = none) : a ≠ b := by
  intro e; subst e; rw [h] at h'; cases h'
section
variable (P : Program) (w : World)
def ObjOk (H : Hp) (h : Heap) (a : Addr) : HO → Prop
  | .lst xs => xs.length ≤ sizeLine ∧ ∃ (its : List Value) (n : Nat), Vals xs its ∧ h.get? a = some { cls := .type "list", data := .seq its.toArray n }
  | .tup xs => xs.length ≤ sizeLine ∧ ∃ its : List Value, Vals xs its ∧ IsTup h a its.toArray
  | .dK kvs => kvs.length ≤ sizeLine ∧ (a == sysModules) = false ∧ ∃ vs, KV kvs vs ∧ h.DictOf (mixKind P w) a vs
  | .dT kvs => kvs.length ≤ sizeLine ∧ (a == sysModules) = false ∧ ∃ xs : List (List Key × Addr × Value),
      Paired (fun (p : List Key × V) (q : List Key × Addr × Value) => p.1 = q.1 ∧ H q.2.1 = some (.tup (p.1.map kV)) ∧ RelV p.2 q.2.2) kvs xs ∧
      ∃ o es ep, h.get? a = some o ∧ o.ExactDict ∧ o.data = .dict es ep ∧ es.toList = xs.map (entryOfKey (tupleKind (mixKind P w))) ∧ (xs.map (·.1)).Nodup
  | .set S n => h.SetOf (intKind P w) a S n
  | .ins C dx fs => H dx = some (.own a) ∧ fs.length ≤ 1000 ∧ dx ≠ a ∧ h.get? a = some (PySem.W.instObj C dx) ∧
      ∃ mA, h.Ns1 dx mA ∧ (∀ f, RelO (fs.lookup f) (mA f)) ∧ PySem.Within mA (fs.map (·.1))
  | .own _ => ∃ o, h.get? a = some o
  | .xd fs => ∃ mA, h.Ns1 a mA ∧ ∀ f, RelO (fs.lookup f) (mA f)
  | .rng lo hi => ∃ t u v, h.get? a = some { cls := .type "range", data := .fields #[.int lo t, .int hi u, .int 1 v] }
  | .frz o u => h.get? a = some o ∧ ObjOk H h a u
  | .tbl ps => h.get? a = some { cls := .none, data := .fields ps }
  | .met f x => h.get? a = some (PySem.W.methodObj (.ref f) (.ref x))
  | .ext φ => φ h ∧ (∃ o, h.get? a = some o) ∧ ∀ h1 h2 : Heap, φ h1 → (∀ o, h1.get? a = some o → h2.get? a = some o) → φ h2
def HOk (H : Hp) (h : Heap) : Prop := ∀ a o, H a = some o → ObjOk P w H h a o
end
section
variable {P : Program} {w : World} {H H' : Hp} {h h' : Heap} {a : Addr} {o : HO}
theorem ObjOk.lt (x : ObjOk P w H h a o) : a < h.objs.size := by
  cases o with
  | lst xs => obtain ⟨_, _, _, _, e⟩ := x; exact Heap.lt_size e
  | tup xs => obtain ⟨_, _, _, p⟩ := x; exact p.lt
  | dK kvs => obtain ⟨_, _, _, _, o, _, _, e, _⟩ := x; exact Heap.lt_size e
  | dT kvs => obtain ⟨_, _, _, _, o, _, _, e, _⟩ := x; exact Heap.lt_size e
  | set S n => obtain ⟨o, _, _, _, e, _⟩ := x; exact Heap.lt_size e
  | ins C dx fs => obtain ⟨_, _, _, e, _⟩ := x; exact Heap.lt_size e
  | own y => obtain ⟨_, e⟩ := x; exact Heap.lt_size e
  | xd fs => obtain ⟨_, ⟨_, _, _, e, _⟩, _⟩ := x; exact Heap.lt_size e
  | rng lo hi => obtain ⟨_, _, _, e⟩ := x; exact Heap.lt_size e
  | frz ob u => obtain ⟨e, _⟩ := x; exact Heap.lt_size e
  | tbl ps => exact Heap.lt_size (show h.get? a = some _ from x)
  | met f y => exact Heap.lt_size (show h.get? a = some _ from x)
  | ext φ => obtain ⟨_, ⟨_, e⟩, _⟩ := x; exact Heap.lt_size e
theorem Paired.mapP {α β : Type} {F G : α → β → Prop} : ∀ {l₁ : List α} {l₂ : List β}, Paired F l₁ l₂ → (∀ a b, F a b → G a b) → Paired G l₁ l₂
  | _, _, .nil, _ => .nil
  | _, _, .cons r t, f => .cons (f _ _ r) (Paired.mapP t f)
theorem ObjOk.stay (x : ObjOk P w H h a o) (k : ∀ b u, (b = a ∨ H b = some (.own a)) → h.get? b = some u → h'.get? b = some u)
    (ho : ∀ b, H b = some (.own a) → H' b = some (.own a)) (ht : ∀ b xs, H b = some (.tup xs) → H' b = some (.tup xs)) : ObjOk P w H' h' a o := by
  induction o with
  | lst xs => obtain ⟨z, its, n, r, e⟩ := x; exact ⟨z, its, n, r, k _ _ (.inl rfl) e⟩
  | tup xs => obtain ⟨z, its, r, ob, e, c⟩ := x; exact ⟨z, its, r, ob, k _ _ (.inl rfl) e, c⟩
  | dK kvs => obtain ⟨z, y, vs, r, ob, es, ep, e, c⟩ := x; exact ⟨z, y, vs, r, ob, es, ep, k _ _ (.inl rfl) e, c⟩
  | dT kvs =>
    obtain ⟨z, y, xs, r, ob, es, ep, e, c⟩ := x
    exact ⟨z, y, xs, Paired.mapP r fun p q z => ⟨z.1, ht _ _ z.2.1, z.2.2⟩, ob, es, ep, k _ _ (.inl rfl) e, c⟩
  | set S n => obtain ⟨ob, es, ep, t, e, c⟩ := x; exact ⟨ob, es, ep, t, k _ _ (.inl rfl) e, c⟩
  | ins C dx fs =>
    obtain ⟨d, z, ne, e, mA, ⟨od, es, ep, e2, c⟩, r⟩ := x
    exact ⟨ho _ d, z, ne, k _ _ (.inl rfl) e, mA, ⟨od, es, ep, k _ _ (.inr d) e2, c⟩, r⟩
  | own y => obtain ⟨ob, e⟩ := x; exact ⟨ob, k _ _ (.inl rfl) e⟩
  | xd fs => obtain ⟨mA, ⟨od, es, ep, e, c⟩, r⟩ := x; exact ⟨mA, ⟨od, es, ep, k _ _ (.inl rfl) e, c⟩, r⟩
  | rng lo hi => obtain ⟨t, u, v, e⟩ := x; exact ⟨t, u, v, k _ _ (.inl rfl) e⟩
  | frz ob u ih => obtain ⟨e, q⟩ := x; exact ⟨k _ _ (.inl rfl) e, ih q⟩
  | tbl ps =>
    have e : h.get? a = some { cls := .none, data := .fields ps } := x
    show h'.get? a = some { cls := .none, data := .fields ps }
    exact k a _ (.inl rfl) e
  | met f y =>
    have e : h.get? a = some (PySem.W.methodObj (.ref f) (.ref y)) := x
    show h'.get? a = some (PySem.W.methodObj (.ref f) (.ref y))
    exact k a _ (.inl rfl) e
  | ext φ => obtain ⟨p, ⟨o, e⟩, st⟩ := x; exact ⟨st _ _ p fun o q => k _ _ (.inl rfl) q, ⟨o, k _ _ (.inl rfl) e⟩, st⟩
theorem HOk.lt (x : HOk P w H h) (e : H a = some o) : a < h.objs.size := (x a o e).lt
theorem HOk.fresh (x : HOk P w H h) (e : h.objs.size ≤ a) : H a = none := by
  cases q : H a with
  | none => rfl
  | some u => exact absurd (Nat.lt_of_lt_of_le (x.lt q) e) (Nat.lt_irrefl _)
theorem HOk.kept (x : HOk P w H h) (k : ∀ b u, h.get? b = some u → h'.get? b = some u) : HOk P w H h' := fun a o e =>
  (x a o e).stay (fun b u _ q => k b u q) (fun _ q => q) fun _ _ q => q
theorem HOk.laid (x : HOk P w H h) (k : ∀ b u, h.get? b = some u → h'.get? b = some u) (hp : h.objs.size ≤ a) (new : ObjOk P w (upd H a o) h' a o) : HOk P w (upd H a o) h' := fun b u e => by
  have hn := x.fresh hp
  by_cases hb : b = a
  · subst hb; rw [upd_same] at e; cases e; exact new
  · rw [upd_ne hb] at e
    exact (x b u e).stay (fun c v _ q => k c v q) (fun c q => by rw [upd_ne (ne_of_none q hn)]; exact q) fun c xs q => by rw [upd_ne (ne_of_none q hn)]; exact q
end
def Rd (H : Hp) (a : Addr) (u : HO) : Prop := H a = some u ∨ ∃ o, H a = some (.frz o u)
theorem Rd.of {H : Hp} {a : Addr} {u : HO} (h : H a = some u) : Rd H a u := .inl h
theorem Rd.ok {P : Program} {w : World} {H : Hp} {h : Heap} {a : Addr} {u : HO} (r : Rd H a u) (x : HOk P w H h) : ObjOk P w H h a u := by
  rcases r with r | ⟨o, r⟩
  · exact x a u r
  · obtain ⟨_, q⟩ := x a _ r
    exact q
def Mut : Option HO → Prop
  | some (.lst _) => True
  | some (.dK _) => True
  | some (.dT _) => True
  | some (.set _ _) => True
  | some (.ins _ _ _) => True
  | some (.ext _) => True
  | _ => False
section
variable {P : Program} {w : World} {H : Hp} {h h' : Heap} {x e : Addr} {o' : HO}
theorem HOk.write (ok : HOk P w H h) (mu : Mut (H x)) (he : e = x ∨ H e = some (.own x)) (k : ∀ b u, b ≠ e → h.get? b = some u → h'.get? b = some u) (heo : ∃ u, h'.get? e = some u)
    (new : ObjOk P w (upd H x o') h' x o') : HOk P w (upd H x o') h' := fun b u q => by
  have nown : ∀ c y, H c = some (.own y) → c ≠ x := fun c y r z => by subst z; rw [r] at mu; exact mu
  have ntup : ∀ c xs, H c = some (.tup xs) → c ≠ x := fun c xs r z => by subst z; rw [r] at mu; exact mu
  by_cases hb : b = x
  · subst hb; rw [upd_same] at q; cases q; exact new
  · rw [upd_ne hb] at q
    by_cases hbe : b = e
    · have q' : H b = some (.own x) := by
        rcases he with z | z
        · exact absurd (hbe.trans z) hb
        · rw [hbe]; exact z
      rw [q] at q'; cases q'
      obtain ⟨v, hv⟩ := heo
      exact ⟨v, by rw [hbe]; exact hv⟩
    · refine (ok b u q).stay (fun c v hc r => k c v ?_ r) (fun c r => by rw [upd_ne (nown c b r)]; exact r) fun c xs r => by rw [upd_ne (ntup c xs r)]; exact r
      rcases hc with rfl | hc
      · exact hbe
      · rintro rfl
        rcases he with z | z
        · exact nown c b hc z
        · rw [hc] at z; cases z; exact hb rfl
end
structure Un (fs ex : List Addr) (H H' : Hp) (h h' : Heap) : Prop where
  keep : ∀ b o, h.get? b = some o → H b = none → b ∉ fs → b ∉ ex → h'.get? b = some o
  slot : ∀ b o, h.get? b = some o → H b = none → b ∈ fs → b ∉ ex → ∃ sl, h'.get? b = some { o with slots := sl }
  free : ∀ b o, h.get? b = some o → H b = none → b ∉ ex → H' b = none
  there : ∀ b o, h.get? b = some o → b ∉ ex → ∃ o', h'.get? b = some o'
  tups : ∀ b xs, H b = some (.tup xs) → H' b = some (.tup xs)
  frzs : ∀ b o u, H b = some (.frz o u) → H' b = some (.frz o u)
  tbls : ∀ b ps, H b = some (.tbl ps) → ∃ more, H' b = some (.tbl (ps ++ more))
section
variable {fs fs' ex ex' : List Addr} {H H1 H2 : Hp} {h h1 h2 h' : Heap} {a x e : Addr} {o : HO}
theorem Un.any (u : Un fs ex H H1 h h1) {b : Addr} {ob : Obj} (q : h.get? b = some ob) (n : H b = none) (hx : b ∉ ex) : ∃ sl, h1.get? b = some { ob with slots := sl } := by
  by_cases hb : b ∈ fs
  · exact u.slot b ob q n hb hx
  · exact ⟨ob.slots, u.keep b ob q n hb hx⟩
theorem Un.trans (a : Un fs ex H H1 h h1) (b : Un fs ex H1 H2 h1 h2) : Un fs ex H H2 h h2 where
  keep := fun c ob q n hc hx => b.keep c ob (a.keep c ob q n hc hx) (a.free c ob q n hx) hc hx
  slot := fun c ob q n hc hx => by
    obtain ⟨sl, e1⟩ := a.slot c ob q n hc hx
    obtain ⟨sl', e2⟩ := b.slot c _ e1 (a.free c ob q n hx) hc hx
    exact ⟨sl', e2⟩
  free := fun c ob q n hx => by
    obtain ⟨o', e1⟩ := a.there c ob q hx
    exact b.free c o' e1 (a.free c ob q n hx) hx
  there := fun c ob q hx => by
    obtain ⟨o', e1⟩ := a.there c ob q hx
    exact b.there c o' e1 hx
  tups := fun c xs q => b.tups c xs (a.tups c xs q)
  frzs := fun c ob xs q => b.frzs c ob xs (a.frzs c ob xs q)
  tbls := fun c ps q => by
    obtain ⟨m1, e1⟩ := a.tbls c ps q
    obtain ⟨m2, e2⟩ := b.tbls c _ e1
    exact ⟨m1 ++ m2, by rw [e2, Array.append_assoc]⟩
theorem Un.kept (k : ∀ b u, h.get? b = some u → h'.get? b = some u) : Un fs ex H H h h' :=
  ⟨fun b ob q _ _ _ => k b ob q, fun b ob q _ _ _ => ⟨ob.slots, k b ob q⟩, fun _ _ _ n _ => n, fun b ob q _ => ⟨ob, k b ob q⟩, fun _ _ q => q, fun _ _ _ q => q, fun _ ps q => ⟨#[], by rw [q]; simp⟩⟩
theorem Un.refl : Un fs ex H H h h := Un.kept fun _ _ q => q
theorem Un.laid (k : ∀ b u, h.get? b = some u → h'.get? b = some u) (hp : h.objs.size ≤ a) (hn : H a = none) : Un fs ex H (upd H a o) h h' where
  keep := fun b u q _ _ _ => k b u q
  slot := fun b u q _ _ _ => ⟨u.slots, k b u q⟩
  free := fun b u q n _ => by rw [upd_ne (Nat.ne_of_lt (Nat.lt_of_lt_of_le (Heap.lt_size q) hp))]; exact n
  there := fun b u q _ => ⟨u, k b u q⟩
  tups := fun b xs q => by rw [upd_ne (ne_of_none q hn)]; exact q
  frzs := fun b u xs q => by rw [upd_ne (ne_of_none q hn)]; exact q
  tbls := fun b ps q => ⟨#[], by rw [upd_ne (ne_of_none q hn), q]; simp⟩
theorem Un.write (mu : Mut (H x)) (he : e = x ∨ H e = some (.own x)) (k : ∀ b u, b ≠ e → h.get? b = some u → h'.get? b = some u) (heo : ∃ u, h'.get? e = some u) : Un fs ex H (upd H x o) h h' := by
  have hx : ∀ b, H b = none → b ≠ x := fun b n z => by subst z; rw [n] at mu; exact mu
  have hb : ∀ b, H b = none → b ≠ e := fun b n z => by
    subst z
    rcases he with r | r
    · exact hx b n r
    · rw [n] at r; cases r
  have hm : ∀ b u, H b = some u → ¬ Mut (some u) → b ≠ x := fun b u q nm z => by subst z; rw [q] at mu; exact nm mu
  refine ⟨fun b u q n _ _ => k b u (hb b n) q, fun b u q n _ _ => ⟨u.slots, k b u (hb b n) q⟩, fun b u q n _ => by rw [upd_ne (hx b n)]; exact n, fun b u q _ => ?_,
    fun b xs q => by rw [upd_ne (hm b _ q fun z => z)]; exact q, fun b u xs q => by rw [upd_ne (hm b _ q fun z => z)]; exact q, fun b ps q => ⟨#[], by rw [upd_ne (hm b _ q fun z => z), q]; simp⟩⟩
  by_cases hbe : b = e
  · subst hbe; exact heo
  · exact ⟨u, k b u hbe q⟩
theorem Un.mono (u : Un fs ex H H1 h h1) (hs : ∀ b ∈ fs, b ∈ fs') (hx : ∀ b ∈ ex, b ∈ ex') : Un fs' ex' H H1 h h1 :=
  ⟨fun b ob q n hb he => u.keep b ob q n (fun z => hb (hs b z)) fun z => he (hx b z), fun _ _ q n _ he => u.any q n fun z => he (hx _ z), fun b ob q n he => u.free b ob q n fun z => he (hx b z), fun b ob q he => u.there b ob q fun z => he (hx b z), u.tups, u.frzs, u.tbls⟩
end
def trk (h : Heap) (H : Hp) : List Addr := (List.range h.objs.size).filter fun a => (H a).isSome
def hidT (h : Heap) (H : Hp) : Heap := PySem.W.hideAll h (trk h H)
theorem hidT_size (h : Heap) (H : Hp) : (hidT h H).objs.size = h.objs.size := PySem.W.hideAll_size _ _
theorem hidT_get {h : Heap} {H : Hp} {b : Addr} {o : Obj} (e : h.get? b = some o) (n : H b = none) : (hidT h H).get? b = some o :=
  PySem.W.hideAll_get _ e fun hm => by
    have q : (H b).isSome = true := (List.mem_filter.mp hm).2
    rw [n] at q; simp at q
theorem of_hidT {h : Heap} {H : Hp} {b : Addr} {o : Obj} (e : (hidT h H).get? b = some o) : h.get? b = some o ∧ H b = none := by
  have e' : h.get? b = some o := PySem.W.of_hideAll (trk h H) e
  refine ⟨e', ?_⟩
  cases q : H b with
  | none => rfl
  | some x =>
    have hm : b ∈ trk h H := List.mem_filter.mpr ⟨List.mem_range.mpr (Heap.lt_size e'), by simp [q]⟩
    have z : (hidT h H).get? b = none := PySem.W.hideAll_none (trk h H) hm
    rw [z] at e; cases e
def allNews (g h : Heap) (L : Addr) : List (Addr × Obj) := (List.range h.objs.size).filterMap fun a => if a = L ∨ (g.get? a).isSome = true then none else (h.get? a).map fun o => (a, o)
def rest (g h : Heap) (L d : Addr) : List (Addr × Obj) := (allNews g h L).filter fun p => decide (p.1 ≠ d)
end L2
namespace L2
open PySem PySem.Spec PyProof.Rows
structure Mod (K : PySem.W.Frag) (mg : Str → Option Value) (base : Heap) : Prop where
  kin : K.In base
  glob : base.Ns mainGlobals mg
  blt : ∃ mb, base.Ns builtinsNs mb ∧ ∀ x : Str, x ≠ "__name__" → mb x = bootBuiltins x
  nolimit : base.NoLimit
structure Cx where
  prog : Program
  w : World
  K : PySem.W.Frag
  mg : Str → Option Value
  base : Heap
  A : Around
  N : List Str
  s₀ : Shared
  H₀ : Hp
  env : Env
  outer : List Env
  stack : List Env
  ex : List Addr
  fn : Str → Bool
  calm : Bool
  pn : List (Addr × Obj)
  xe : Value → Shared → Prop
def frs (l : List Env) : List Addr := l.filterMap (·.frame)
abbrev Cx.fs (X : Cx) : List Addr := frs X.outer
def Vis (sc : Scope) (x : Str) : Prop := sc.names.lookup x = some .local ∨ sc.names.lookup x = some .cell ∨ sc.names.lookup x = some .free
def Loc (sc : Scope) (x : Str) : Prop := sc.names.lookup x = some .local ∨ sc.names.lookup x = some .cell
def Look (env : Env) (h : Heap) (m : Str → Option Value) (x : Str) (u : Value) : Prop :=
  (env.kindOf x = some .local ∧ m x = some u) ∨ ((env.kindOf x = some .cell ∨ env.kindOf x = some .free) ∧ ∃ c, env.cells.lookup x = some c ∧ h.IsCell c (some u))
structure Cx.Ok (X : Cx) : Prop where
  mod : Mod X.K X.mg X.base
  kind : X.env.scope.kind = .function
  glob : X.env.globals = mainGlobals
  blt : X.env.builtins = builtinsNs
  above : X.s₀.heap.objs.size ≤ X.env.locals
  inj : ∀ x y c, X.env.cells.lookup x = some c → X.env.cells.lookup y = some c → x = y
  has : ∀ x, (X.env.kindOf x = some .cell ∨ X.env.kindOf x = some .free) → ∃ c, X.env.cells.lookup x = some c
  cab : ∀ x c, X.fn x = true → X.env.cells.lookup x = some c → X.s₀.heap.objs.size ≤ c
  hd : X.calm = true → X.A.handled = none
  frames : X.A.frames = some X.stack
  stk : X.stack = X.outer ∨ (X.stack = X.env :: X.outer ∧ X.env.frame = some X.env.locals)
  exf : ∀ b ∈ X.ex, b ≠ X.env.locals ∧ ∀ x c, X.env.cells.lookup x = some c → c ≠ b
  bs : ∀ b o, X.base.get? b = some o → X.s₀.heap.get? b = some o ∧ X.H₀ b = none
  bsz : X.base.objs.size ≤ X.s₀.heap.objs.size
  noex : ∀ b o, X.base.get? b = some o → b ∉ X.ex
  exfs : ∀ b ∈ X.ex, b ∉ X.fs
  funs : X.s₀.heap.FunFrames X.base X.outer
  frf : ∀ b ∈ X.fs, X.H₀ b = none
structure Inv (X : Cx) (pins : List (Addr × Obj)) (σ : List (Option V)) (H : Hp) (s : Shared) : Prop where
  ok : X.Ok
  os : s.os = X.s₀.os
  bare : AllBare s.gens
  base : Un X.fs X.ex X.H₀ H X.s₀.heap s.heap
  loc : ∃ m, s.heap.Ns X.env.locals m ∧ ∀ (i : Nat) (x : Str) (v : V), X.N[i]? = some x → σ[i]? = some (some v) → Vis X.env.scope x → ∃ u, RelV v u ∧ Look X.env s.heap m x u
  cell : ∀ x c, X.env.cells.lookup x = some c → ∃ v, s.heap.IsCell c v
  free : H X.env.locals = none
  freeC : ∀ x c, X.env.cells.lookup x = some c → H c = none
  pin : ∀ p ∈ X.pn ++ pins, s.heap.get? p.1 = some p.2 ∧ H p.1 = none ∧ p.1 ≠ X.env.locals ∧ p.1 ∉ X.fs ∧ ∀ v, p.2.data ≠ .cell v
  hok : HOk X.prog X.w H s.heap
  len : σ.length = X.N.length
section
variable {X : Cx} {pins : List (Addr × Obj)} {σ : List (Option V)} {H H' : Hp} {s : Shared} {h' : Heap}
theorem Cx.Ok.nofr (ok : X.Ok) {b : Addr} {o : Obj} (e : X.base.get? b = some o) : b ∉ X.fs := fun hb => by
  have := (ok.funs.mem hb).1
  rw [e] at this; cases this
theorem Inv.bs (I : Inv X pins σ H s) : ∀ b o, X.base.get? b = some o → s.heap.get? b = some o ∧ H b = none := fun b o e =>
  ⟨I.base.keep b o (I.ok.bs b o e).1 (I.ok.bs b o e).2 (I.ok.nofr e) (I.ok.noex b o e), I.base.free b o (I.ok.bs b o e).1 (I.ok.bs b o e).2 (I.ok.noex b o e)⟩
theorem Inv.bk (I : Inv X pins σ H s) : ∀ b o, X.base.get? b = some o → s.heap.get? b = some o := fun b o e => (I.bs b o e).1
theorem Inv.mod (I : Inv X pins σ H s) : Mod X.K X.mg X.base := I.ok.mod
theorem Inv.kIn (I : Inv X pins σ H s) : X.K.In s.heap := I.ok.mod.kin.keeps I.bk
theorem Inv.nolimit (I : Inv X pins σ H s) : s.heap.NoLimit := I.ok.mod.nolimit.keeps I.bk
theorem Inv.fr (I : Inv X pins σ H s) : ∃ m, Fr X.base X.env.locals s.heap m :=
  let ⟨m, hn, _⟩ := I.loc
  ⟨m, hn, I.bk, Nat.le_trans I.ok.bsz I.ok.above⟩
theorem Inv.lt (I : Inv X pins σ H s) : X.env.locals < s.heap.objs.size := let ⟨_, hn, _⟩ := I.loc; hn.lt
theorem Inv.sz (I : Inv X pins σ H s) : X.s₀.heap.objs.size ≤ s.heap.objs.size := Nat.le_trans I.ok.above (Nat.le_of_lt I.lt)
theorem Inv.nofs (I : Inv X pins σ H s) {a : Addr} (h : s.heap.objs.size ≤ a) : a ∉ X.fs := fun hb => by
  obtain ⟨_, o, ho, _⟩ := I.ok.funs.mem hb
  exact absurd (Nat.lt_of_lt_of_le (Heap.lt_size ho) (Nat.le_trans I.sz h)) (Nat.lt_irrefl _)
theorem Inv.cne (I : Inv X pins σ H s) : ∀ x c, X.env.cells.lookup x = some c → c ≠ X.env.locals := fun x c e z => by
  obtain ⟨v, o, ho, hd⟩ := I.cell x c e
  obtain ⟨m, ⟨o', es, ep, ho', hd', _⟩, _⟩ := I.loc
  rw [z, ho'] at ho; cases ho; rw [hd'] at hd; cases hd
theorem Inv.funs (I : Inv X pins σ H s) : s.heap.FunFrames X.base X.outer := by
  have all : ∀ (l : List Env), (∀ b ∈ frs l, b ∈ X.fs) → X.s₀.heap.FunFrames X.base l → s.heap.FunFrames X.base l := by
    intro l
    induction l with
    | nil => intro _ _; trivial
    | cons env r ih =>
      intro hs hl
      obtain ⟨hk, ⟨L, o, hf, hn, ho, hd⟩, hr⟩ := hl
      have hL : L ∈ X.fs := hs L (by unfold frs; rw [List.filterMap_cons, hf]; exact List.mem_cons_self)
      obtain ⟨sl, e⟩ := I.base.slot L o ho (I.ok.frf L hL) hL fun z => I.ok.exfs L z hL
      exact ⟨hk, ⟨L, _, hf, hn, e, hd⟩, ih (fun b hb => hs b (by unfold frs; rw [List.filterMap_cons, hf]; exact List.mem_cons_of_mem _ hb)) hr⟩
  exact all X.outer (fun _ hb => hb) I.ok.funs
theorem Inv.stack (I : Inv X pins σ H s) : s.heap.FunFrames X.base X.stack := by
  rcases I.ok.stk with e | ⟨e, hf⟩
  · rw [e]; exact I.funs
  · rw [e]
    obtain ⟨m, hn, _⟩ := I.loc
    refine .cons (by rw [I.ok.kind]; decide) hf hn ?_ I.funs
    exact Heap.get?_none_of_le (Nat.le_trans I.ok.bsz I.ok.above)
theorem Inv.stkSub (I : Inv X pins σ H s) : ∀ b ∈ frs X.stack, b ∈ X.env.locals :: X.fs := fun b hb => by
  rcases I.ok.stk with e | ⟨e, hf⟩
  · rw [e] at hb; exact List.mem_cons_of_mem _ hb
  · rw [e] at hb
    unfold frs at hb
    rw [List.filterMap_cons, hf] at hb
    exact hb
theorem Inv.stkFree (I : Inv X pins σ H s) : ∀ b ∈ frs X.stack, H b = none := fun b hb => by
  rcases List.mem_cons.mp (I.stkSub b hb) with e | hb
  · rw [e]; exact I.free
  · obtain ⟨_, o, ho, _⟩ := I.ok.funs.mem hb
    exact I.base.free b o ho (I.ok.frf b hb) fun z => I.ok.exfs b z hb
theorem Inv.step {g' : Array GenState} {t' : Nat} {d' : Drawn} {ch : List Addr} (I : Inv X pins σ H s)
    (hch : ∀ b ∈ ch, (b ∈ X.ex ∨ X.s₀.heap.objs.size ≤ b) ∧ b ≠ X.env.locals ∧ (∀ x c, X.env.cells.lookup x = some c → c ≠ b) ∧ ∀ p ∈ X.pn ++ pins, p.1 ≠ b)
    (keep : ∀ b o, b ≠ X.env.locals → b ∉ X.fs → b ∉ ch → s.heap.get? b = some o → H b = none → h'.get? b = some o)
    (slot : ∀ b o, b ≠ X.env.locals → b ∈ X.fs → b ∉ ch → s.heap.get? b = some o → H b = none → ∃ sl, h'.get? b = some { o with slots := sl }) (free : ∀ b o, b ∉ ch → s.heap.get? b = some o → H b = none → H' b = none)
    (there : ∀ b o, b ∉ ch → s.heap.get? b = some o → ∃ o', h'.get? b = some o')
    (tups : ∀ b xs, H b = some (.tup xs) → H' b = some (.tup xs)) (frzs : ∀ b o u, H b = some (.frz o u) → H' b = some (.frz o u)) (tbls : ∀ b ps, H b = some (.tbl ps) → ∃ more, H' b = some (.tbl (ps ++ more)))
    (ns : ∀ m, s.heap.Ns X.env.locals m → h'.Ns X.env.locals m) (hok : HOk X.prog X.w H' h') (hg : AllBare g') :
    Inv X pins σ H' { s with heap := h', gens := g', drawn := d', toks := t' } := by
  have neL : ∀ b o, X.s₀.heap.get? b = some o → b ≠ X.env.locals := fun b o e => Nat.ne_of_lt (Nat.lt_of_lt_of_le (Heap.lt_size e) I.ok.above)
  have neC : ∀ b o, X.s₀.heap.get? b = some o → b ∉ X.ex → b ∉ ch := fun b o e hx hb => by
    rcases (hch b hb).1 with z | z
    · exact hx z
    · exact absurd (Nat.lt_of_lt_of_le (Heap.lt_size e) z) (Nat.lt_irrefl _)
  have cellK : ∀ x c, X.env.cells.lookup x = some c → ∀ v, s.heap.IsCell c v → h'.IsCell c v := fun x c e v ⟨o, ho, hd⟩ => by
    have nch : c ∉ ch := fun z => (hch c z).2.2.1 x c e rfl
    by_cases hc : c ∈ X.fs
    · obtain ⟨sl, q⟩ := slot c o (I.cne x c e) hc nch ho (I.freeC x c e)
      exact ⟨_, q, hd⟩
    · exact ⟨o, keep c o (I.cne x c e) hc nch ho (I.freeC x c e), hd⟩
  refine ⟨I.ok, I.os, hg, ⟨fun b o e n hb hx => ?_, fun b o e n hb hx => ?_, fun b o e n hx => ?_, fun b o e hx => ?_, fun b xs e => tups b xs (I.base.tups b xs e), fun b o xs e => frzs b o xs (I.base.frzs b o xs e), fun b ps e => ?_⟩, ?_, fun x c e => ?_, ?_, fun x c e => ?_, fun p hp => ?_, hok, I.len⟩
  · exact keep b o (neL b o e) hb (neC b o e hx) (I.base.keep b o e n hb hx) (I.base.free b o e n hx)
  · obtain ⟨sl, e1⟩ := I.base.slot b o e n hb hx
    obtain ⟨sl', e2⟩ := slot b _ (neL b o e) hb (neC b o e hx) e1 (I.base.free b o e n hx)
    exact ⟨sl', e2⟩
  · obtain ⟨o', e1⟩ := I.base.there b o e hx
    exact free b o' (neC b o e hx) e1 (I.base.free b o e n hx)
  · obtain ⟨o', e1⟩ := I.base.there b o e hx
    exact there b o' (neC b o e hx) e1
  · obtain ⟨m1, e1⟩ := I.base.tbls b ps e
    obtain ⟨m2, e2⟩ := tbls b _ e1
    exact ⟨m1 ++ m2, by rw [e2, Array.append_assoc]⟩
  · obtain ⟨m, hn, hl⟩ := I.loc
    refine ⟨m, ns m hn, fun i x v e1 e2 e3 => ?_⟩
    obtain ⟨u, r, l⟩ := hl i x v e1 e2 e3
    refine ⟨u, r, ?_⟩
    rcases l with l | ⟨k, c, e, z⟩
    · exact .inl l
    · exact .inr ⟨k, c, e, cellK x c e _ z⟩
  · obtain ⟨v, z⟩ := I.cell x c e
    exact ⟨v, cellK x c e v z⟩
  · obtain ⟨m, ⟨o, _, _, ho, _⟩, _⟩ := I.loc
    exact free _ o (fun z => (hch _ z).2.1 rfl) ho I.free
  · obtain ⟨v, o, ho, hd⟩ := I.cell x c e
    exact free c o (fun z => (hch c z).2.2.1 x c e rfl) ho (I.freeC x c e)
  · obtain ⟨e, n, ne, nf, d⟩ := I.pin p hp
    have nch : p.1 ∉ ch := fun z => (hch p.1 z).2.2.2 p hp rfl
    exact ⟨keep p.1 p.2 ne nf nch e n, free p.1 p.2 nch e n, ne, nf, d⟩
theorem Inv.un {t' : Nat} (I : Inv X pins σ H s) (u : Un X.fs [] H H' s.heap h') (hok : HOk X.prog X.w H' h') : Inv X pins σ H' { s with heap := h', toks := t' } := by
  obtain ⟨m, ⟨o, es, ep, ho, r⟩, _⟩ := id I.loc
  obtain ⟨sl, hL⟩ := u.any ho I.free (by simp)
  exact I.step (g' := s.gens) (d' := s.drawn) (ch := []) (fun _ z => nomatch z) (fun b o _ hb _ e n => u.keep b o e n hb (by simp)) (fun b o _ hb _ e n => u.slot b o e n hb (by simp)) (fun b o _ e n => u.free b o e n (by simp)) (fun b o _ e => u.there b o e (by simp)) u.tups u.frzs u.tbls (fun m' hm => by
    obtain ⟨o', es', ep', ho', r'⟩ := hm
    rw [ho] at ho'; cases ho'
    exact ⟨_, es', ep', hL, r'⟩) hok I.bare
theorem Inv.call {g' : Array GenState} {t' : Nat} {d' : Drawn} {ch : List Addr} (I : Inv X pins σ H s) (u : Un (frs X.stack) ch H H' s.heap h') (hok : HOk X.prog X.w H' h') (hg : AllBare g')
    (hch : ∀ b ∈ ch, (b ∈ X.ex ∨ X.s₀.heap.objs.size ≤ b) ∧ b ≠ X.env.locals ∧ (∀ x c, X.env.cells.lookup x = some c → c ≠ b) ∧ ∀ p ∈ X.pn ++ pins, p.1 ≠ b) :
    Inv X pins σ H' { s with heap := h', gens := g', drawn := d', toks := t' } := by
  obtain ⟨m, ⟨o, es, ep, ho, r⟩, _⟩ := id I.loc
  obtain ⟨sl, hL⟩ := u.any ho I.free fun z => (hch _ z).2.1 rfl
  exact I.step (ch := ch) hch (fun b o hL hb hc e n => u.keep b o e n (fun z => (List.mem_cons.mp (I.stkSub b z)).elim hL hb) hc) (fun b o _ _ hc e n => u.any e n hc) (fun b o hc e n => u.free b o e n hc) (fun b o hc e => u.there b o e hc) u.tups u.frzs u.tbls (fun m' hm => by
    obtain ⟨o', es', ep', ho', r'⟩ := hm
    rw [ho] at ho'; cases ho'
    exact ⟨_, es', ep', hL, r'⟩) hok hg
theorem Inv.turned {t' : Nat} {it : Addr} (I : Inv X pins σ H s) (k : ∀ b o, b ≠ it → s.heap.get? b = some o → h'.get? b = some o) (hn : H it = none) (hL : it ≠ X.env.locals)
    (h1 : it ∈ X.ex ∨ X.s₀.heap.objs.size ≤ it) (h2 : ∀ x c, X.env.cells.lookup x = some c → c ≠ it) (h3 : ∀ p ∈ X.pn ++ pins, p.1 ≠ it) : Inv X pins σ H { s with heap := h', toks := t' } := by
  have nit : ∀ b u, H b = some u → b ≠ it := fun b u e z => by rw [z, hn] at e; cases e
  refine I.step (g' := s.gens) (d' := s.drawn) (ch := [it]) (fun b hb => ?_) (fun b o _ _ hc e _ => k b o (fun z => hc (by simp [z])) e) (fun b o _ _ hc e _ => ⟨o.slots, k b o (fun z => hc (by simp [z])) e⟩) (fun _ _ _ _ n => n)
    (fun b o hc e => ⟨o, k b o (fun z => hc (by simp [z])) e⟩) (fun _ _ e => e) (fun _ _ _ e => e) (fun b ps e => ⟨#[], by rw [e]; simp⟩) (fun m hm => ?_) (fun b u e => ?_) I.bare
  · have e : b = it := by simpa using hb
    subst e
    exact ⟨h1, hL, h2, h3⟩
  · obtain ⟨o, es, ep, ho, r⟩ := hm
    exact ⟨o, es, ep, k _ o (Ne.symm hL) ho, r⟩
  · refine (I.hok b u e).stay (fun c v hc q => k c v ?_ q) (fun _ q => q) fun _ _ q => q
    rcases hc with z | z
    · rw [z]; exact nit b u e
    · exact nit c _ z
theorem Inv.tok (I : Inv X pins σ H s) (t : Nat) : Inv X pins σ H { s with toks := t } := I.un (h' := s.heap) (t' := t) Un.refl I.hok
theorem Inv.kept {t' : Nat} (I : Inv X pins σ H s) (k : ∀ b u, s.heap.get? b = some u → h'.get? b = some u) : Inv X pins σ H { s with heap := h', toks := t' } := I.un (Un.kept k) (I.hok.kept k)
theorem Inv.laid {a : Addr} {o : HO} {t' : Nat} (I : Inv X pins σ H s) (k : ∀ b u, s.heap.get? b = some u → h'.get? b = some u) (hp : s.heap.objs.size ≤ a) (new : ObjOk X.prog X.w (upd H a o) h' a o) :
    Inv X pins σ (upd H a o) { s with heap := h', toks := t' } := I.un (Un.laid k hp (I.hok.fresh hp)) (I.hok.laid k hp new)
theorem Inv.write {x e : Addr} {o : HO} {t' : Nat} (I : Inv X pins σ H s) (mu : Mut (H x)) (he : e = x ∨ H e = some (.own x)) (k : ∀ b u, b ≠ e → s.heap.get? b = some u → h'.get? b = some u) (heo : ∃ u, h'.get? e = some u)
    (new : ObjOk X.prog X.w (upd H x o) h' x o) : Inv X pins σ (upd H x o) { s with heap := h', toks := t' } := I.un (Un.write mu he k heo) (I.hok.write mu he k heo new)
theorem Inv.pins_of {pins' : List (Addr × Obj)} (I : Inv X pins σ H s) (h : ∀ p ∈ pins', s.heap.get? p.1 = some p.2 ∧ H p.1 = none ∧ p.1 ≠ X.env.locals ∧ p.1 ∉ X.fs ∧ ∀ v, p.2.data ≠ .cell v) : Inv X pins' σ H s :=
  ⟨I.ok, I.os, I.bare, I.base, I.loc, I.cell, I.free, I.freeC, fun p hp => (List.mem_append.mp hp).elim (fun z => I.pin p (List.mem_append_left _ z)) (h p), I.hok, I.len⟩
theorem nodup_ix {N : List Str} (hN : N.Nodup) {i j : Nat} {x : Str} (a : N[i]? = some x) (b : N[j]? = some x) : i = j := by
  obtain ⟨h1, e1⟩ := List.getElem?_eq_some_iff.mp a
  obtain ⟨h2, e2⟩ := List.getElem?_eq_some_iff.mp b
  exact (List.getElem_inj hN).mp (e1.trans e2.symm)
theorem store_ok2 {M : Model} {A : Around} {E : Value → Shared → Prop} {i : Nat} {x : Str} {v : V} {u : Value} {Q : Unit → Shared → Prop} (I : Inv X pins σ H s) (hN : X.N.Nodup) (hi : X.N[i]? = some x) (hx : Loc X.env.scope x) (r : RelV v u)
    (h : ∀ s', Inv X pins (σ.set i (some v)) H s' → (∃ a, Heap.SameBut a s.heap s'.heap ∧ (a = X.env.locals ∨ X.env.cells.lookup x = some a)) → Q () s') (hf : X.fn x = true ∨ X.env.scope.names.lookup x = some .local := by first | exact .inl rfl | exact .inr rfl | assumption) : wpAny M A (storeName X.env x u) Q E s := by
  obtain ⟨m, hn, hl⟩ := id I.loc
  have hcls : (X.env.scope.kind == .class || (X.env.scope.kind == .module && X.env.locals != X.env.globals)) = false := by rw [I.ok.kind]; rfl
  have hiσ : i < σ.length := by rw [I.len]; exact (List.getElem?_eq_some_iff.mp hi).1
  have cne := I.cne
  have tracked : ∀ {a : Addr} {h' : Heap}, (∃ o, s.heap.get? a = some o ∧ H a = none) → Heap.SameBut a s.heap h' → HOk X.prog X.w H h' := fun {a h'} ha hs b ob e => by
    obtain ⟨_, _, hfree⟩ := ha
    refine (I.hok b ob e).stay (fun c w' hc q => (hs.2 c ?_).trans q) (fun _ q => q) fun _ _ q => q
    rintro rfl
    rcases hc with rfl | hc
    · rw [hfree] at e; cases e
    · rw [hfree] at hc; cases hc
  rcases hx with hk | hk
  · refine wpAny_storeName_local hk hn (fun h' hn' hs => ?_) hcls
    obtain ⟨oL, _, _, hoL, _⟩ := id hn
    refine h _ ⟨I.ok, I.os, I.bare, ⟨fun b o e n hb hx => ?_, fun b o e n hb hx => ?_, I.base.free, fun b o e hx => ?_, I.base.tups, I.base.frzs, I.base.tbls⟩, ⟨_, hn', fun j y v' e1 e2 e3 => ?_⟩, fun y c e => ?_, I.free, I.freeC, fun p hp => ?_, tracked ⟨oL, hoL, I.free⟩ hs, by simpa using I.len⟩ ⟨_, hs, .inl rfl⟩
    · exact (hs.2 b (Nat.ne_of_lt (Nat.lt_of_lt_of_le (Heap.lt_size e) I.ok.above))).trans (I.base.keep b o e n hb hx)
    · obtain ⟨sl, e1⟩ := I.base.slot b o e n hb hx
      exact ⟨sl, (hs.2 b (Nat.ne_of_lt (Nat.lt_of_lt_of_le (Heap.lt_size e) I.ok.above))).trans e1⟩
    · obtain ⟨o', e1⟩ := I.base.there b o e hx
      exact ⟨o', (hs.2 b (Nat.ne_of_lt (Nat.lt_of_lt_of_le (Heap.lt_size e) I.ok.above))).trans e1⟩
    · by_cases hj : j = i
      · subst hj
        rw [hi] at e1; cases e1
        rw [List.getElem?_set_self hiσ] at e2
        cases e2
        exact ⟨u, r, .inl ⟨hk, by simp⟩⟩
      · rw [List.getElem?_set_ne (Ne.symm hj)] at e2
        obtain ⟨u', r', q⟩ := hl j y v' e1 e2 e3
        refine ⟨u', r', ?_⟩
        rcases q with ⟨k, e⟩ | ⟨k, c, e, z⟩
        · refine .inl ⟨k, ?_⟩
          have : y ≠ x := fun e => hj (nodup_ix hN e1 (e ▸ hi))
          simp [this, e]
        · exact .inr ⟨k, c, e, z.sameBut hs (cne y c e)⟩
    · obtain ⟨w', z⟩ := I.cell y c e
      exact ⟨w', z.sameBut hs (cne y c e)⟩
    · obtain ⟨e, n, ne, nf, d⟩ := I.pin p hp
      exact ⟨(hs.2 p.1 ne).trans e, n, ne, nf, d⟩
  · have hfn : X.fn x = true := by
      rcases hf with z | z
      · exact z
      · rw [z] at hk; cases hk
    obtain ⟨c, hc⟩ := I.ok.has x (.inl hk)
    obtain ⟨w', z⟩ := I.cell x c hc
    refine wpAny_storeName_cell I.ok.kind hk hc z (fun h' hc' hs => ?_)
    obtain ⟨oc, hoc, hocd⟩ := id z
    refine h { s with heap := h' } ⟨I.ok, I.os, I.bare, ⟨fun b o e n hb hx => ?_, fun b o e n hb hx => ?_, I.base.free, fun b o e hx => ?_, I.base.tups, I.base.frzs, I.base.tbls⟩, ⟨m, hn.sameBut hs (Ne.symm (cne x c hc)), fun j y v' e1 e2 e3 => ?_⟩, fun y c' e => ?_, I.free, I.freeC, fun p hp => ?_, tracked ⟨oc, hoc, I.freeC x c hc⟩ hs, by simpa using I.len⟩ ⟨c, hs, .inr hc⟩
    · exact (hs.2 b (Nat.ne_of_lt (Nat.lt_of_lt_of_le (Heap.lt_size e) (I.ok.cab x c hfn hc)))).trans (I.base.keep b o e n hb hx)
    · obtain ⟨sl, e1⟩ := I.base.slot b o e n hb hx
      exact ⟨sl, (hs.2 b (Nat.ne_of_lt (Nat.lt_of_lt_of_le (Heap.lt_size e) (I.ok.cab x c hfn hc)))).trans e1⟩
    · obtain ⟨o', e1⟩ := I.base.there b o e hx
      exact ⟨o', (hs.2 b (Nat.ne_of_lt (Nat.lt_of_lt_of_le (Heap.lt_size e) (I.ok.cab x c hfn hc)))).trans e1⟩
    · by_cases hj : j = i
      · subst hj
        rw [hi] at e1; cases e1
        rw [List.getElem?_set_self hiσ] at e2
        cases e2
        exact ⟨u, r, .inr ⟨.inl hk, c, hc, hc'⟩⟩
      · rw [List.getElem?_set_ne (Ne.symm hj)] at e2
        obtain ⟨u', r', q⟩ := hl j y v' e1 e2 e3
        refine ⟨u', r', ?_⟩
        rcases q with q | ⟨k, c', e, z'⟩
        · exact .inl q
        · refine .inr ⟨k, c', e, z'.sameBut hs ?_⟩
          rintro rfl
          exact hj (nodup_ix hN e1 (I.ok.inj _ _ _ e hc ▸ hi))
    · by_cases hcc : c' = c
      · subst hcc; exact ⟨_, hc'⟩
      · obtain ⟨w2, z2⟩ := I.cell y c' e
        exact ⟨w2, z2.sameBut hs hcc⟩
    · obtain ⟨e, n, ne, nf, d⟩ := I.pin p hp
      refine ⟨(hs.2 p.1 ?_).trans e, n, ne, nf, d⟩
      intro q
      rw [q, hoc] at e
      have q' : oc = p.2 := Option.some.inj e
      exact d w' (by rw [← q']; exact hocd)
theorem store_ok {M : Model} {A : Around} {E : Value → Shared → Prop} {i : Nat} {x : Str} {v : V} {u : Value} {Q : Unit → Shared → Prop} (I : Inv X pins σ H s) (hN : X.N.Nodup) (hi : X.N[i]? = some x) (hx : Loc X.env.scope x) (r : RelV v u)
    (h : ∀ s', Inv X pins (σ.set i (some v)) H s' → Q () s') (hf : X.fn x = true ∨ X.env.scope.names.lookup x = some .local := by first | exact .inl rfl | exact .inr rfl | assumption) : wpAny M A (storeName X.env x u) Q E s :=
  store_ok2 I hN hi hx r (fun s' I' _ => h s' I') hf
theorem Inv.call' {s' : Shared} {ch : List Addr} (I : Inv X pins σ H s) (ho : s'.os = s.os) (u : Un (frs X.stack) ch H H' s.heap s'.heap) (hok : HOk X.prog X.w H' s'.heap) (hg : AllBare s'.gens)
    (hch : ∀ b ∈ ch, (b ∈ X.ex ∨ X.s₀.heap.objs.size ≤ b) ∧ b ≠ X.env.locals ∧ (∀ x c, X.env.cells.lookup x = some c → c ≠ b) ∧ ∀ p ∈ X.pn ++ pins, p.1 ≠ b) : Inv X pins σ H' s' := by
  obtain ⟨h', g', d', t', o'⟩ := s'
  have e : o' = s.os := ho
  subst e
  exact I.call (g' := g') (t' := t') (d' := d') u hok hg hch
end
abbrev XK := Value → Option Addr → Hp → Prop
abbrev St := List (Option V)
abbrev VK := V → Hp → Prop
abbrev TE := St → Hp → VK → Prop
abbrev TT := St → Hp → (Bool → Hp → Prop) → Prop
abbrev TA := St → Hp → (List V → Hp → Prop) → Prop
structure Ends where
  nx : St → Hp → Prop
  rt : VK
  bk : St → Hp → Prop := fun _ _ => False
  ct : St → Hp → Prop := fun _ _ => False
abbrev TS := Ends → St → Hp → Prop
def EP (X : Cx) (pins : List (Addr × Obj)) (σ : St) (Q : VK) (u : Value) (s' : Shared) : Prop := ∃ v H', Inv X pins σ H' s' ∧ RelV v u ∧ Q v H'
def TP (X : Cx) (pins : List (Addr × Obj)) (σ : St) (Q : Bool → Hp → Prop) (b : Bool) (s' : Shared) : Prop := ∃ H', Inv X pins σ H' s' ∧ Q b H'
def AP (X : Cx) (pins : List (Addr × Obj)) (σ : St) (Q : List V → Hp → Prop) (us : List Value) (s' : Shared) : Prop := ∃ vs H', Inv X pins σ H' s' ∧ Vals vs us ∧ Q vs H'
def SP (X : Cx) (pins : List (Addr × Obj)) (D : Ends) (f : Flow) (s' : Shared) : Prop :=
  match f with
  | .next => ∃ σ' H', Inv X pins σ' H' s' ∧ D.nx σ' H'
  | .brk => ∃ σ' H', Inv X pins σ' H' s' ∧ D.bk σ' H'
  | .cont => ∃ σ' H', Inv X pins σ' H' s' ∧ D.ct σ' H'
  | .ret u => ∃ v σ' H', Inv X pins σ' H' s' ∧ RelV v u ∧ D.rt v H'
def PE (X : Cx) (e : Expr) (t : TE) : Prop :=
  ∀ (pins : List (Addr × Obj)) (s : Shared) (σ : St) (H : Hp) (Q : VK), Inv X pins σ H s → t σ H Q → wpAny (model X.prog X.w) X.A (eval e X.env) (EP X pins σ Q) X.xe s
def PT (X : Cx) (e : Expr) (t : TT) : Prop :=
  ∀ (pins : List (Addr × Obj)) (s : Shared) (σ : St) (H : Hp) (Q : Bool → Hp → Prop), Inv X pins σ H s → t σ H Q → wpAny (model X.prog X.w) X.A (isTrue e X.env (eval e X.env)) (TP X pins σ Q) X.xe s
def PW (X : Cx) (e : Expr) (t : TT) : Prop :=
  ∀ (whole : Sem Value) (pins : List (Addr × Obj)) (s : Shared) (σ : St) (H : Hp) (Q : Bool → Hp → Prop), Inv X pins σ H s → t σ H Q → wpAny (model X.prog X.w) X.A (isTrue e X.env whole) (TP X pins σ Q) X.xe s
theorem PW.pt {X : Cx} {e : Expr} {t : TT} (h : PW X e t) : PT X e t := h _
def PA (X : Cx) (es : List Expr) (t : TA) : Prop :=
  ∀ (pos : Pos) (pins : List (Addr × Obj)) (s : Shared) (σ : St) (H : Hp) (Q : List V → Hp → Prop), Inv X pins σ H s → t σ H Q → wpAny (model X.prog X.w) X.A (spliced (backTo pos (starEach es X.env))) (AP X pins σ Q) X.xe s
def PS (X : Cx) (st : Stmt) (t : TS) : Prop :=
  ∀ (pins : List (Addr × Obj)) (s : Shared) (σ : St) (H : Hp) (D : Ends), Inv X pins σ H s → t D σ H → wpAny (model X.prog X.w) X.A (exec st X.env) (SP X pins D) X.xe s
def PSs (X : Cx) (st : List Stmt) (t : TS) : Prop :=
  ∀ (pins : List (Addr × Obj)) (s : Shared) (σ : St) (H : Hp) (D : Ends), Inv X pins σ H s → t D σ H → wpAny (model X.prog X.w) X.A (execs st X.env) (SP X pins D) X.xe s
theorem thn {α : Type} {t : Sem α} {Q Q' : α → Shared → Prop} {M : Model} {A : Around} {E : Value → Shared → Prop} {s : Shared} (h : wpAny M A t Q E s) (hQ : ∀ a s, Q a s → Q' a s) : wpAny M A t Q' E s := wpAny_mono h hQ fun _ _ x => x
end L2
namespace L2
open PySem PySem.Spec PyProof.Rows
section
variable {X : Cx}
def tVar (i : Nat) : TE := fun σ H Q => ∃ v, σ[i]? = some (some v) ∧ Q v H
def tC (v : V) : TE := fun _ H Q => Q v H
theorem pe_var {i : Nat} {x : Str} {pos : Pos} (hN : X.N[i]? = some x) (hv : Vis X.env.scope x) (hd : (x == ("__debug__" : Str)) = false := by decide) (hcd : (x == ("__classdict__" : Str)) = false := by decide) : PE X (.Name x pos) (tVar i) := by
  intro pins s σ H Q I h
  obtain ⟨v, e, h⟩ := h
  obtain ⟨m, hn, hl⟩ := I.loc
  obtain ⟨u, r, l⟩ := hl i x v hN e hv
  have fin : EP X pins σ Q u s := ⟨v, H, I, r, h⟩
  rcases l with ⟨hk, hm⟩ | ⟨hk, c, hc, hcell⟩
  · exact wpAny_Name (wpAny_loadName_local I.ok.kind hk hn hm fin) hd
  · rcases hk with hk | hk
    · exact wpAny_Name (wpAny_loadName_cell I.ok.kind hk hc hcell fin) hd
    · exact wpAny_Name (wpAny_loadName_free I.ok.kind hk hc hcell fin hcd) hd
theorem pe_int {i j pos} : PE X (.Constant (.int i) j pos) (tC (.int i)) := fun _ _ _ H _ I h => wpAny_Constant_int ⟨.int i, H, I.tok _, ⟨_, rfl⟩, h⟩
theorem pe_bl {b j pos} : PE X (.Constant (.bool b) j pos) (tC (.bl b)) := fun _ _ _ H _ I h => Constant_bool ⟨.bl b, H, I, rfl, h⟩
theorem pe_non {j pos} : PE X (.Constant .none j pos) (tC .non) := fun _ _ _ H _ I h => Constant_none ⟨.non, H, I, rfl, h⟩
theorem pe_str {x j pos} : PE X (.Constant (.str x) j pos) (tC (.str x)) := fun _ _ _ H _ I h => Calls.Constant_str ⟨.str x, H, I.tok _, ⟨_, rfl⟩, h⟩
def Gl (X : Cx) (x : Str) : Prop := X.env.kindOf x = some .globalImplicit
theorem ld_glob {E : Value → Shared → Prop} {pins : List (Addr × Obj)} {s : Shared} {σ : St} {H : Hp} {x : Str} {u : Value} {pos : Pos} {Q : Value → Shared → Prop} (I : Inv X pins σ H s) (hg : Gl X x) (hm : X.mg x = some u) (h : Q u s)
    (hd : (x == ("__debug__" : Str)) = false := by decide) : wpAny (model X.prog X.w) X.A (eval (.Name x pos) X.env) Q E s :=
  Calls.Name_function_global I.ok.kind hg (Calls.loadGlobal_global (by rw [I.ok.glob]; exact I.mod.glob.keeps I.bk) hm h) hd
theorem ld_blt {E : Value → Shared → Prop} {pins : List (Addr × Obj)} {s : Shared} {σ : St} {H : Hp} {x : Str} {u : Value} {pos : Pos} {Q : Value → Shared → Prop} (I : Inv X pins σ H s) (hg : Gl X x) (hm : X.mg x = none) (hv : bootBuiltins x = some u) (h : Q u s)
    (hn : x ≠ "__name__" := by decide) (hd : (x == ("__debug__" : Str)) = false := by decide) : wpAny (model X.prog X.w) X.A (eval (.Name x pos) X.env) Q E s := by
  obtain ⟨mb, h1, h2⟩ := I.mod.blt
  exact Calls.Name_function_global I.ok.kind hg (Calls.loadGlobal_builtin (by rw [I.ok.glob]; exact I.mod.glob.keeps I.bk) hm (by rw [I.ok.blt]; exact h1.keeps I.bk) ((h2 x hn).trans hv) h) hd
theorem pe_glob {x : Str} {v : V} {u : Value} {pos : Pos} (hg : Gl X x) (hm : X.mg x = some u) (r : RelV v u) (hd : (x == ("__debug__" : Str)) = false := by decide) : PE X (.Name x pos) (tC v) :=
  fun _ _ _ H _ I h => ld_glob I hg hm ⟨v, H, I, r, h⟩ hd
theorem pe_bltn {x : Str} {v : V} {u : Value} {pos : Pos} (hg : Gl X x) (hm : X.mg x = none) (hv : bootBuiltins x = some u) (r : RelV v u) (hn : x ≠ "__name__" := by decide) (hd : (x == ("__debug__" : Str)) = false := by decide) : PE X (.Name x pos) (tC v) :=
  fun _ _ _ H _ I h => ld_blt I hg hm hv ⟨v, H, I, r, h⟩ hn hd
variable {a b : Expr} {ta tb : TE} {pos : Pos}
def PC (X : Cx) (op : CmpOp) (a b : Expr) (t : TE) : Prop :=
  ∀ (pins : List (Addr × Obj)) (s : Shared) (σ : St) (H : Hp) (Q : VK), Inv X pins σ H s → t σ H Q →
    wpAny (model X.prog X.w) X.A (eval a X.env) (fun v s₁ => wpAny (model X.prog X.w) X.A (eval b X.env) (fun u s₂ => wpAny (model X.prog X.w) X.A (compareOp op v u) (EP X pins σ Q) X.xe s₂) X.xe s₁) X.xe s
theorem nobehind (b : Expr) {op : CmpOp} (h : op ≠ .In) (h2 : op ≠ .NotIn) : behindInMarks op b = false := by
  have e1 : (op == CmpOp.In) = false := by cases op <;> first | rfl | exact absurd rfl h
  have e2 : (op == CmpOp.NotIn) = false := by cases op <;> first | rfl | exact absurd rfl h2
  cases b <;> simp [behindInMarks, e1, e2]
def tIsN (ta : TE) : TE := fun σ H Q => ta σ H fun x H1 => Q (.bl (decide (x = .non))) H1
def tNotN (ta : TE) : TE := fun σ H Q => ta σ H fun x H1 => Q (.bl (!decide (x = .non))) H1
theorem RelV.none_iff {x : V} {v : Value} (r : RelV x v) : (v == Value.none) = decide (x = .non) := by
  cases x with
  | non => cases r; rfl
  | bl _ => cases r; rfl
  | int _ => obtain ⟨t, rfl⟩ := r; rfl
  | str _ => obtain ⟨t, rfl⟩ := r; rfl
  | byt _ => obtain ⟨t, rfl⟩ := r; rfl
  | flt _ => obtain ⟨t, rfl⟩ := r; rfl
  | ref _ => cases r; rfl
  | ty _ => cases r; rfl
theorem pc_isN {j pos'} (ha : PE X a ta) : PC X .Is a (.Constant .none j pos') (tIsN ta) := by
  intro pins s σ H Q I h
  refine thn (ha pins s σ H _ I h) fun v s1 ⟨x, H1, I1, r1, q1⟩ => ?_
  exact Constant_none (is_none_gen ⟨.bl _, H1, I1, by rw [r1.none_iff]; rfl, q1⟩)
def tB (t : TE) : TT := fun σ H Q => t σ H fun x H1 => ∃ c, x = .bl c ∧ Q c H1
theorem pe_cmp {op : CmpOp} {t : TE} (h : PC X op a b t) (h1 : behindInMarks op b = false := by first | exact nobehind _ (by decide) (by decide) | rfl) : PE X (.Compare a [op] [b] pos) t := fun pins s σ H Q I hw => wpAny_Compare1 (h pins s σ H Q I hw) h1
theorem pt_val {e : Expr} {t : TE} (h : PE X e t) (he : ∀ whole, isTrue e X.env whole = (do let v ← whole; standAt e.pos; holding [v] (truthy v)) := by intro _; rfl) : PT X e (tB t) := by
  intro pins s σ H Q I hw
  refine isTrue_plain (thn (h pins s σ H _ I hw) fun v s1 ⟨x, H1, I1, r1, q1⟩ => ?_) (he _)
  obtain ⟨d, rfl, q⟩ := q1
  cases r1
  exact wpAny_truthy_bool ⟨H1, I1, q⟩
variable {tA tB' : TT} {rest : List Expr}
def tAnd (t u : TT) : TT := fun σ H Q => t σ H fun c H1 => if c = true then u σ H1 Q else Q false H1
def tOr (t u : TT) : TT := fun σ H Q => t σ H fun c H1 => if c = true then Q true H1 else u σ H1 Q
def tNot (t : TT) : TT := fun σ H Q => t σ H fun c H1 => Q (!c) H1
theorem pw_and1 (ha : PT X a tA) : PW X (.BoolOp .And [a] pos) tA := by
  intro wh pins s σ H Q I h
  refine isTrue_and (thn (ha pins s σ H Q I h) fun c s1 e => ?_)
  cases c with
  | true => exact isTrue_and_nil e
  | false => exact e
theorem pw_or1 (ha : PT X a tA) : PW X (.BoolOp .Or [a] pos) tA := by
  intro wh pins s σ H Q I h
  refine isTrue_or (thn (ha pins s σ H Q I h) fun c s1 e => ?_)
  cases c with
  | false => exact isTrue_or_nil e
  | true => exact e
theorem pw_and (ha : PT X a tA) (hb : PW X (.BoolOp .And (b :: rest) pos) tB') : PW X (.BoolOp .And (a :: b :: rest) pos) (tAnd tA tB') := by
  intro wh pins s σ H Q I h
  refine isTrue_and (thn (ha pins s σ H _ I h) fun c s1 ⟨H1, I1, q1⟩ => ?_)
  cases c with
  | true => exact hb wh pins s1 σ H1 Q I1 q1
  | false => exact ⟨H1, I1, q1⟩
theorem pw_or (ha : PT X a tA) (hb : PW X (.BoolOp .Or (b :: rest) pos) tB') : PW X (.BoolOp .Or (a :: b :: rest) pos) (tOr tA tB') := by
  intro wh pins s σ H Q I h
  refine isTrue_or (thn (ha pins s σ H _ I h) fun c s1 ⟨H1, I1, q1⟩ => ?_)
  cases c with
  | true => exact ⟨H1, I1, q1⟩
  | false => exact hb wh pins s1 σ H1 Q I1 q1
theorem pt_not (ha : PT X a tA) : PT X (.UnaryOp .Not a pos) (tNot tA) := by
  intro pins s σ H Q I h
  exact isTrue_not (ha pins s σ H (fun c H1 => Q (!c) H1) I h)
def tAndV (ta tb : TE) : TE := fun σ H Q => ta σ H fun x H1 => ∃ c, x = .bl c ∧ if c = true then tb σ H1 Q else Q (.bl false) H1
def tOrV (ta tb : TE) : TE := fun σ H Q => ta σ H fun x H1 => ∃ c, x = .bl c ∧ if c = true then Q (.bl true) H1 else tb σ H1 Q
def tNotV (ta : TE) : TE := fun σ H Q => ta σ H fun x H1 => ∃ c, x = .bl c ∧ Q (.bl (!c)) H1
theorem pe_one {op} {t : TE} (h : PE X a t) : PE X (.BoolOp op [a] pos) t := fun pins s σ H Q I hw => BoolOp_one (h pins s σ H Q I hw)
theorem pe_and (ha : PE X a ta) (hb : PE X (.BoolOp .And (b :: rest) pos) tb) : PE X (.BoolOp .And (a :: b :: rest) pos) (tAndV ta tb) := by
  intro pins s σ H Q I h
  refine BoolOp_and (thn (ha pins s σ H _ I h) fun v s1 ⟨x, H1, I1, r1, q1⟩ => ?_)
  obtain ⟨c, rfl, q1⟩ := q1
  cases r1
  refine wpAny_truthy_bool ?_
  cases c with
  | true => exact hb pins s1 σ H1 Q I1 q1
  | false => exact ⟨.bl false, H1, I1, rfl, q1⟩
theorem pe_or (ha : PE X a ta) (hb : PE X (.BoolOp .Or (b :: rest) pos) tb) : PE X (.BoolOp .Or (a :: b :: rest) pos) (tOrV ta tb) := by
  intro pins s σ H Q I h
  refine BoolOp_or (thn (ha pins s σ H _ I h) fun v s1 ⟨x, H1, I1, r1, q1⟩ => ?_)
  obtain ⟨c, rfl, q1⟩ := q1
  cases r1
  refine wpAny_truthy_bool ?_
  cases c with
  | false => exact hb pins s1 σ H1 Q I1 q1
  | true => exact ⟨.bl true, H1, I1, rfl, q1⟩
theorem pe_not (ha : PE X a ta) : PE X (.UnaryOp .Not a pos) (tNotV ta) := by
  intro pins s σ H Q I h
  refine UnaryOp_ (thn (ha pins s σ H _ I h) fun v s1 ⟨x, H1, I1, r1, q1⟩ => ?_)
  obtain ⟨c, rfl, q1⟩ := q1
  cases r1
  exact not_of (wpAny_truthy_bool ⟨.bl (!c), H1, I1, rfl, q1⟩)
def tIf (t : TT) (ta tb : TE) : TE := fun σ H Q => t σ H fun c H1 => if c = true then ta σ H1 Q else tb σ H1 Q
end
end L2
namespace L2
open PySem PySem.Spec PyProof.Rows
def SqL (K : PySem.W.Frag) (H : Hp) (a : Addr) (xs : List V) : Prop :=
  Rd H a (.lst xs) ∨
    ∃ (o : Obj) (its : Array Value) (n : Nat), K.lookup a = some o ∧ o.cls = .type "list" ∧ o.dict = none ∧ o.data = .seq its n ∧ its.size ≤ sizeLine ∧ Vals xs its.toList
def SqT (K : PySem.W.Frag) (H : Hp) (a : Addr) (xs : List V) : Prop :=
  Rd H a (.tup xs) ∨
    ∃ (o : Obj) (its : Array Value) (n : Nat), K.lookup a = some o ∧ o.cls = .type "tuple" ∧ o.data = .seq its n ∧ its.size ≤ sizeLine ∧ Vals xs its.toList
def absV : Value → Option V
  | .none => some .non
  | .bool b => some (.bl b)
  | .int i _ => some (.int i)
  | .str x _ => some (.str x)
  | .bytes b _ => some (.byt b)
  | .float b _ => some (.flt b)
  | .ref a => some (.ref a)
  | .type n => some (.ty n)
  | _ => none
theorem RelV.abs {x : V} {u : Value} (r : RelV x u) : absV u = some x := by
  cases x with
  | non => cases r; rfl
  | bl _ => cases r; rfl
  | int _ => obtain ⟨t, rfl⟩ := r; rfl
  | str _ => obtain ⟨t, rfl⟩ := r; rfl
  | byt _ => obtain ⟨t, rfl⟩ := r; rfl
  | flt _ => obtain ⟨t, rfl⟩ := r; rfl
  | ref _ => cases r; rfl
  | ty _ => cases r; rfl
theorem RelV.inj {x y : V} {u : Value} (r : RelV x u) (q : RelV y u) : x = y := Option.some.inj (r.abs.symm.trans q.abs)
theorem Vals.inj : ∀ {xs ys : List V} {us : List Value}, Vals xs us → Vals ys us → xs = ys
  | _, _, _, .nil, .nil => rfl
  | _, _, _, .cons r t, .cons r' t' => by rw [r.inj r', Vals.inj t t']
section
variable {X : Cx} {pins : List (Addr × Obj)} {σ : St} {H : Hp} {s : Shared} {a : Addr} {xs ys : List V}
theorem SqL.of {K : PySem.W.Frag} (h : H a = some (.lst xs)) : SqL K H a xs := .inl (.inl h)
theorem SqT.of {K : PySem.W.Frag} (h : H a = some (.tup xs)) : SqT K H a xs := .inl (.inl h)
theorem Inv.list (I : Inv X pins σ H s) (h : SqL X.K H a xs) : ∃ its : List Value, Vals xs its ∧ PlainL s.heap a its.toArray ∧ xs.length ≤ sizeLine := by
  rcases h with h | ⟨o, its, n, hk, hc, hd, hs, hz, r⟩
  · obtain ⟨z, its, n, r, e⟩ := h.ok I.hok
    exact ⟨its, r, ⟨_, n, e, rfl, rfl, rfl⟩, z⟩
  · refine ⟨its.toList, r, ⟨o, n, I.kIn a o hk, hc, hd, by simpa using hs⟩, ?_⟩
    have e := r.length
    simp only [Array.length_toList] at e
    omega
theorem Inv.tuple (I : Inv X pins σ H s) (h : SqT X.K H a xs) : ∃ its : List Value, Vals xs its ∧ IsTup s.heap a its.toArray ∧ xs.length ≤ sizeLine := by
  rcases h with h | ⟨o, its, n, hk, hc, hs, hz, r⟩
  · obtain ⟨z, its, r, p⟩ := h.ok I.hok
    exact ⟨its, r, p, z⟩
  · refine ⟨its.toList, r, ⟨o, I.kIn a o hk, hc, n, by simpa using hs⟩, ?_⟩
    have e := r.length
    simp only [Array.length_toList] at e
    omega
theorem Inv.list_inj (I : Inv X pins σ H s) (h : SqL X.K H a xs) (h' : SqL X.K H a ys) : xs = ys := by
  obtain ⟨its, r, ⟨o, n, e, _, _, d⟩, _⟩ := I.list h
  obtain ⟨its', r', ⟨o', n', e', _, _, d'⟩, _⟩ := I.list h'
  rw [e] at e'; cases e'
  rw [d] at d'
  injection d' with d1 _
  have : its = its' := by simpa using congrArg Array.toList d1
  subst this
  exact r.inj r'
end
abbrev Cx.wish (X : Cx) (E : Value → Shared → Prop) : Cx := { X with xe := E }
abbrev Cx.nox (X : Cx) : Cx := X.wish fun _ _ => False
theorem Cx.Ok.wish {X : Cx} (ok : X.Ok) (E : Value → Shared → Prop) : (X.wish E).Ok :=
  ⟨ok.mod, ok.kind, ok.glob, ok.blt, ok.above, ok.inj, ok.has, ok.cab, ok.hd, ok.frames, ok.stk, ok.exf, ok.bs, ok.bsz, ok.noex, ok.exfs, ok.funs, ok.frf⟩
theorem Cx.Ok.unwish {X : Cx} {E : Value → Shared → Prop} (ok : (X.wish E).Ok) : X.Ok :=
  ⟨ok.mod, ok.kind, ok.glob, ok.blt, ok.above, ok.inj, ok.has, ok.cab, ok.hd, ok.frames, ok.stk, ok.exf, ok.bs, ok.bsz, ok.noex, ok.exfs, ok.funs, ok.frf⟩
section
variable {X : Cx} {pins : List (Addr × Obj)} {σ : St} {H : Hp} {s : Shared} {E : Value → Shared → Prop}
theorem Inv.wish (I : Inv X pins σ H s) (E : Value → Shared → Prop) : Inv (X.wish E) pins σ H s := ⟨I.ok.wish E, I.os, I.bare, I.base, I.loc, I.cell, I.free, I.freeC, I.pin, I.hok, I.len⟩
theorem Inv.unwish (I : Inv (X.wish E) pins σ H s) : Inv X pins σ H s := ⟨I.ok.unwish, I.os, I.bare, I.base, I.loc, I.cell, I.free, I.freeC, I.pin, I.hok, I.len⟩
theorem SP.unwish {D : Ends} {f : Flow} {s' : Shared} (h : SP (X.wish E) pins D f s') : SP X pins D f s' := by
  cases f with
  | next => obtain ⟨σ', H', I, q⟩ := h; exact ⟨σ', H', I.unwish, q⟩
  | brk => obtain ⟨σ', H', I, q⟩ := h; exact ⟨σ', H', I.unwish, q⟩
  | cont => obtain ⟨σ', H', I, q⟩ := h; exact ⟨σ', H', I.unwish, q⟩
  | ret u => obtain ⟨v, σ', H', I, r, q⟩ := h; exact ⟨v, σ', H', I.unwish, r, q⟩
theorem PE.nox {e : Expr} {t : TE} (h : PE X.nox e t) : PE X e t := fun pins s σ H Q I hw =>
  wpAny_mono (h pins s σ H Q (I.wish _) hw) (fun _ _ ⟨v, H', I', r, q⟩ => ⟨v, H', I'.unwish, r, q⟩) fun _ _ z => False.elim z
theorem PT.nox {e : Expr} {t : TT} (h : PT X.nox e t) : PT X e t := fun pins s σ H Q I hw =>
  wpAny_mono (h pins s σ H Q (I.wish _) hw) (fun _ _ ⟨H', I', q⟩ => ⟨H', I'.unwish, q⟩) fun _ _ z => False.elim z
theorem PSs.nox {st : List Stmt} {t : TS} (h : PSs X.nox st t) : PSs X st t := fun pins s σ H D I hw =>
  wpAny_mono (h pins s σ H D (I.wish _) hw) (fun _ _ q => q.unwish) fun _ _ z => False.elim z
end
section
variable {X : Cx} {st : Stmt} {rest : List Stmt} {t u : TS} {e : Expr} {te : TE} {pos : Pos}
def tNext : TS := fun D σ H => D.nx σ H
def tSeq (t u : TS) : TS := fun D σ H => t { D with nx := u D } σ H
theorem pss_nil : PSs X [] tNext := fun _ _ σ H _ I h => wpAny_execs_nil ⟨σ, H, I, h⟩
theorem pss_cons (h1 : PS X st t) (h2 : PSs X rest u) : PSs X (st :: rest) (tSeq t u) := by
  intro pins s σ H D I h
  refine wpAny_execs_cons (thn (h1 pins s σ H { D with nx := u D } I h) fun f s1 q => ?_)
  cases f with
  | next =>
    obtain ⟨σ', H', I', q⟩ := q
    exact h2 pins s1 σ' H' D I' q
  | ret v => exact q
  | brk => exact q
  | cont => exact q
theorem pss_one (h1 : PS X st t) : PSs X [st] t := by
  intro pins s σ H D I h
  refine wpAny_execs_cons (thn (h1 pins s σ H D I h) fun f s1 q => ?_)
  cases f with
  | next => exact wpAny_execs_nil q
  | ret v => exact q
  | brk => exact q
  | cont => exact q
theorem Inv.quiet {pins : List (Addr × Obj)} {σ : St} {H : Hp} {s : Shared} (I : Inv X pins σ H s) : interactive X.env = false := by simp [interactive, I.ok.kind]
def tDrop (te : TE) : TS := fun D σ H => te σ H fun _ H1 => D.nx σ H1
theorem ps_expr (he : PE X e te) (hs : swapsWith e none pos.line X.env = pure false := by rfl) : PS X (.Expr e pos) (tDrop te) := by
  intro pins s σ H D I h
  exact wpAny_Expr_any (thn (he pins s σ H _ I h) fun v s1 ⟨x, H1, I1, r1, q1⟩ => ⟨σ, H1, I1, q1⟩) I.quiet hs
def tRet (te : TE) : TS := fun D σ H => te σ H D.rt
theorem ps_ret (he : PE X e te) : PS X (.Return (some e) pos) (tRet te) := by
  intro pins s σ H D I h
  exact wpAny_Return_some (thn (he pins s σ H _ I h) fun v s1 ⟨x, H1, I1, r1, q1⟩ => ⟨x, σ, H1, I1, r1, q1⟩)
def tRetN : TS := fun D _ H => D.rt .non H
def tIfS (c : TT) (t u : TS) : TS := fun D σ H => c σ H fun b H1 => if b = true then t D σ H1 else u D σ H1
theorem ps_if {c : Expr} {a b : List Stmt} {tc : TT} (hc : PT X c tc) (ha : PSs X a t) (hb : PSs X b u) : PS X (.If c a b pos) (tIfS tc t u) := by
  intro pins s σ H D I h
  refine wpAny_If (thn (hc pins s σ H _ I h) fun d s1 ⟨H1, I1, q1⟩ => ?_)
  cases d with
  | true => exact ha pins s1 σ H1 D I1 q1
  | false => exact hb pins s1 σ H1 D I1 q1
def tNever : TS := fun _ _ _ => False
end
abbrev TG := V → St → Hp → (St → Hp → Prop) → Prop
abbrev TGs := List V → St → Hp → (St → Hp → Prop) → Prop
def PG (X : Cx) (target : Expr) (t : TG) : Prop :=
  ∀ (pins : List (Addr × Obj)) (s : Shared) (σ : St) (H : Hp) (v : V) (u : Value) (Q : St → Hp → Prop), Inv X pins σ H s → RelV v u → t v σ H Q →
    wpAny (model X.prog X.w) X.A (assign target X.env u) (fun _ s' => ∃ σ' H', Inv X pins σ' H' s' ∧ Q σ' H') X.xe s
abbrev TSet := V → V → V → Hp → (Hp → Prop) → Prop
def PSet (X : Cx) (t : TSet) : Prop :=
  ∀ (pins : List (Addr × Obj)) (s : Shared) (σ : St) (H : Hp) (o i v : V) (ov iv u : Value) (Q : Hp → Prop), Inv X pins σ H s → RelV o ov → RelV i iv → RelV v u → t o i v H Q →
    wpAny (model X.prog X.w) X.A (setItem ov iv u) (fun _ s' => ∃ H', Inv X pins σ H' s' ∧ Q H') X.xe s
section
variable {X : Cx} {pos : Pos}
def gName (i : Nat) : TG := fun v σ H Q => Q (σ.set i (some v)) H
theorem pg_name {i : Nat} {x : Str} (hN : X.N.Nodup) (hi : X.N[i]? = some x) (hx : Loc X.env.scope x) (hf : X.fn x = true ∨ X.env.scope.names.lookup x = some .local := by first | exact .inl rfl | exact .inr rfl | assumption) : PG X (.Name x pos) (gName i) := by
  intro pins s σ H v u Q I r h
  exact wpAny_assign_Name (store_ok I hN hi hx r (fun s' I' => ⟨_, H, I', h⟩) hf)
def gNil : TGs := fun vs σ H Q => vs = [] ∧ Q σ H
def gCons (t : TG) (u : TGs) : TGs := fun vs σ H Q => ∃ v r, vs = v :: r ∧ t v σ H fun σ' H' => u r σ' H' Q
def gTup (K : PySem.W.Frag) (n : Nat) (t : TGs) : TG := fun v σ H Q => ∃ a xs, v = .ref a ∧ SqT K H a xs ∧ xs.length = n ∧ t xs σ H Q
def gSub (to ti : TE) (t : TSet) : TG := fun v σ H Q => to σ H fun o H1 => ti σ H1 fun i H2 => t o i v H2 fun H3 => Q σ H3
theorem pg_sub {o i : Expr} {to ti : TE} {t : TSet} (ho : PE X o to) (hi : PE X i ti) (hs : PSet X t)
    (ha : ∀ v, assign (.Subscript o i pos) X.env v = (do
      let ov ← holding [v] (eval o X.env)
      let iv ← holding [v, ov] (eval i X.env)
      standAt pos
      holding [v, ov, iv] (setItem ov iv v)
      release [v, ov, iv] []) := by intro _; rfl) : PG X (.Subscript o i pos) (gSub to ti t) := by
  intro pins s σ H v u Q I r h
  rw [ha]
  refine wpAny_bind (wpAny_holding (thn (ho pins s σ H _ I h) fun ov s1 ⟨x, H1, I1, r1, q1⟩ => ?_))
  refine wpAny_bind (wpAny_holding (thn (hi pins s1 σ H1 _ I1 q1) fun iv s2 ⟨y, H2, I2, r2, q2⟩ => ?_))
  refine wpAny_bind (wpAny_standAt (wpAny_bind (wpAny_holding (thn (hs pins s2 σ H2 x y v ov iv u _ I2 r1 r2 r q2) fun _ s3 ⟨H3, I3, q3⟩ => ?_))))
  exact wpAny_release ⟨σ, H3, I3, q3⟩
def tAsg (te : TE) (g : TG) : TS := fun D σ H => te σ H fun x H1 => g x σ H1 D.nx
theorem ps_asg {tg e : Expr} {te : TE} {g : TG} (he : PE X e te) (hg : PG X tg g) (hs : swapsWithSole [tg] e pos.line X.env = pure false := by rfl) (hw : swappedStores [tg] e X.env = pure none := by rfl)
    (h1 : (assignEach [tg] X.env).map (·.2) = [assign tg X.env] := by rfl) : PS X (.Assign [tg] e pos) (tAsg te g) := by
  intro pins s σ H D I h
  refine wpAny_Assign_stores (thn (he pins s σ H _ I h) fun v s1 ⟨x, H1, I1, r1, q1⟩ => ?_) hs hw
  rw [h1]
  exact thn (hg pins s1 σ H1 x v _ I1 r1 q1) fun _ s2 q => q
theorem ps_set {i : Nat} {x : Str} {e : Expr} {te : TE} {pos' : Pos} (hN : X.N.Nodup) (hi : X.N[i]? = some x) (hx : Loc X.env.scope x) (he : PE X e te) (hs : swapsWith e (some (.Name x pos')) pos.line X.env = pure false := by rfl) (hf : X.fn x = true ∨ X.env.scope.names.lookup x = some .local := by first | exact .inl rfl | exact .inr rfl | assumption) :
    PS X (.Assign [.Name x pos'] e pos) (tAsg te (gName i)) := by
  intro pins s σ H D I h
  refine wpAny_Assign_Name (thn (he pins s σ H _ I h) fun v s1 ⟨y, H1, I1, r1, q1⟩ => ?_) hs
  exact store_ok I1 hN hi hx r1 (fun s2 I2 => ⟨_, H1, I2, q1⟩) hf
end
section
variable {X : Cx} {pos : Pos}
end
structure It where
  go : Nat → Hp → Prop
  yld : Nat → Hp → V → Hp → Prop
  stop : Nat → Hp → Prop
def FpOk (X : Cx) (pins : List (Addr × Obj)) (H : Hp) (b : Addr) : Prop :=
  H b = none ∧ b ≠ X.env.locals ∧ b ∉ X.fs ∧ (b ∈ X.ex ∨ X.s₀.heap.objs.size ≤ b) ∧ (∀ x c, X.env.cells.lookup x = some c → c ≠ b) ∧ ∀ p ∈ X.pn ++ pins, p.1 ≠ b
theorem Inv.fpOk {X : Cx} {pins : List (Addr × Obj)} {σ : St} {H H' : Hp} {s : Shared} {b : Addr} (I : Inv X pins σ H s) (hb : s.heap.objs.size ≤ b) (hn : H' b = none) : FpOk X pins H' b := by
  refine ⟨hn, Nat.ne_of_gt (Nat.lt_of_lt_of_le I.lt hb), I.nofs hb, .inr (Nat.le_trans I.sz hb), fun x c e z => ?_, fun p hp z => ?_⟩
  · obtain ⟨v, q⟩ := I.cell x c e
    exact absurd (Nat.lt_of_lt_of_le q.lt (by rw [z]; exact hb)) (Nat.lt_irrefl _)
  · exact absurd (Nat.lt_of_lt_of_le (Heap.lt_size (I.pin p hp).1) (by rw [z]; exact hb)) (Nat.lt_irrefl _)
structure Turn (P : Program) (w : World) (K : PySem.W.Frag) (tg : Expr) (J : It) (fp : List Addr) (it : Addr) (tn : Nat → Heap → Prop) : Prop where
  mem : it ∈ fp
  obj : ∀ i h, tn i h → ∀ b ∈ fp, ∃ o, h.get? b = some o ∧ ∀ v, o.data ≠ .cell v
  keep : ∀ i h h', tn i h → (∀ b ∈ fp, ∀ o, h.get? b = some o → h'.get? b = some o) → tn i h'
  item : ∀ (X : Cx), X.prog = P → X.w = w → X.K = K → X.calm = true → ∀ (i : Nat) (pins : List (Addr × Obj)) (s : Shared) (σ : St) (H : Hp) (E : Value → Shared → Prop), Inv X pins σ H s → (∀ b ∈ fp, FpOk X pins H b) → tn i s.heap → J.go i H →
    wpAny (model P w) X.A (pyNext (.ref it)) (fun r s1 => ∃ u, r = some u ∧
      wpAny (model P w) X.A (letOwnedTupleGo tg (.ref it) u) (fun _ s2 => ∃ x H', Inv X pins σ H' s2 ∧ RelV x u ∧ J.yld i H x H' ∧ tn (i + 1) s2.heap ∧ ∀ b ∈ fp, H' b = none) E s1) E s
  done : ∀ (X : Cx), X.prog = P → X.w = w → X.K = K → X.calm = true → ∀ (i : Nat) (pins : List (Addr × Obj)) (s : Shared) (σ : St) (H : Hp) (E : Value → Shared → Prop), Inv X pins σ H s → (∀ b ∈ fp, FpOk X pins H b) → tn i s.heap → J.stop i H →
    wpAny (model P w) X.A (pyNext (.ref it)) (fun r s1 => r = none ∧ Inv X pins σ H s1) E s
  self : ∀ (A : Around) (i : Nat) (s : Shared) (Q : Value → Shared → Prop) (E : Value → Shared → Prop), tn i s.heap → Q (.ref it) s → wpAny (model P w) A (pyIter (.ref it)) Q E s
abbrev TI := St → Hp → (It → Hp → Prop) → Prop
def PIE (X : Cx) (pins : List (Addr × Obj)) (σ : St) (tg : Expr) (R : It → Hp → Prop) (itv : Value) (s2 : Shared) : Prop :=
  ∃ (it : Addr) (fp : List Addr) (tn : Nat → Heap → Prop) (J : It) (H' : Hp), itv = .ref it ∧ Inv X pins σ H' s2 ∧ Turn X.prog X.w X.K tg J fp it tn ∧ tn 0 s2.heap ∧ (∀ b ∈ fp, FpOk X pins H' b) ∧ R J H'
def PI (X : Cx) (tg iter : Expr) (wi : TI) : Prop :=
  ∀ (pins : List (Addr × Obj)) (s : Shared) (σ : St) (H : Hp) (R : It → Hp → Prop), Inv X pins σ H s → wi σ H R →
    wpAny (model X.prog X.w) X.A (eval iter X.env) (fun v s1 => wpAny (model X.prog X.w) X.A (pyIter v) (PIE X pins σ tg R) X.xe s1) X.xe s
theorem go_of {M : Model} {A : Around} {E : Value → Shared → Prop} {s : Shared} {tg : Expr} {it : Addr} {u : Value} {o : Obj} {n : String} {vs : Array Value} {Q : Unit → Shared → Prop} (ho : s.heap.get? it = some o) (hc : o.cls = .type n) (hd : o.data = .fields vs)
    (hn : ["enumerate", "zip", "dict_itemiterator", "dict_reverseitemiterator", "odict_iterator", "itertools.zip_longest", "itertools.pairwise"].contains n = false) (hQ : Q () s) : wpAny M A (letOwnedTupleGo tg (.ref it) u) Q E s := by
  unfold letOwnedTupleGo
  cases tg <;> first
    | exact wpAny_pure hQ
    | (cases u <;> first
        | exact wpAny_pure hQ
        | (refine wpAny_bind (wpAny_load ho ?_)
           rw [hc, hd]
           show wpAny M A (if (["enumerate", "zip", "dict_itemiterator", "dict_reverseitemiterator", "odict_iterator", "itertools.zip_longest", "itertools.pairwise"].contains n && vs[0]? == some (rawInt _)) = true then _ else _) Q E s
           rw [if_neg (by intro h; rw [hn, Bool.false_and] at h; cases h)]
           exact wpAny_pure hQ))
def Itl (K : PySem.W.Frag) (a : Addr) : It :=
  ⟨fun i H => ∃ xs x, SqL K H a xs ∧ xs[i]? = some x, fun i H x H' => H' = H ∧ ∀ xs, SqL K H a xs → xs[i]? = some x, fun i H => ∃ xs, SqL K H a xs ∧ xs.length ≤ i⟩
def Itr (lo : Int) (n : Nat) : It := ⟨fun i _ => i < n, fun i H x H' => H' = H ∧ x = .int (lo + i), fun i _ => n ≤ i⟩
theorem turn_list {P : Program} {w : World} {K : PySem.W.Frag} {tg : Expr} (a it : Addr) : Turn P w K tg (Itl K a) [it] it (fun i h => h.IsListIter it a i) where
  mem := by simp
  obj := fun i h st b hb => by
    have e : b = it := by simpa using hb
    subst e
    obtain ⟨o, e, c, d⟩ := st
    exact ⟨o, e, fun v z => by rw [d] at z; cases z⟩
  keep := fun i h h' st k => st.at fun o e => k it (by simp) o e
  item := by
    intro X hP hw hK hc i pins s σ H E I hf st hg
    subst hP hw hK
    obtain ⟨xs, x, hq, hx⟩ := hg
    obtain ⟨its, rv, p, hz⟩ := I.list hq
    obtain ⟨u, hu, ru⟩ := rv.get hx
    obtain ⟨f0, f1, f2, f3, f4, f5⟩ := hf it (by simp)
    refine wpAny_pyNext_list_item st p.isList (x := u) (by simpa using hu) fun h' st' sb => ?_
    have I1 : Inv X pins σ H { s with heap := h' } := I.turned (t' := s.toks) (fun b o hb e => (sb.2 b hb).trans e) f0 f1 f3 f4 f5
    obtain ⟨o, e, c, d⟩ := id st'
    exact ⟨u, rfl, go_of (s := { s with heap := h' }) e c d (by decide) ⟨x, H, I1, ru, ⟨rfl, fun ys hy => by rw [I.list_inj hy hq]; exact hx⟩, st', fun b hb => (hf b hb).1⟩⟩
  done := by
    intro X hP hw hK hc i pins s σ H E I hf st hg
    subst hP hw hK
    obtain ⟨xs, hq, hx⟩ := hg
    obtain ⟨its, rv, p, hz⟩ := I.list hq
    obtain ⟨f0, f1, f2, f3, f4, f5⟩ := hf it (by simp)
    have hl := rv.length
    exact wpAny_pyNext_list_end (I.ok.hd hc) st p.isList (by simp; omega) fun h' eb => ⟨rfl, I.turned (t' := s.toks) (fun b o hb e => eb b o hb e) f0 f1 f3 f4 f5⟩
  self := fun _ _ _ _ _ st h => wpAny_pyIter_listiter st h
theorem turn_range {P : Program} {w : World} {K : PySem.W.Frag} {tg : Expr} (it : Addr) (lo : Int) (n : Nat) : Turn P w K tg (Itr lo n) [it] it (fun i h => IsRangeIter h it (lo + (i : Nat) * 1) ((n : Int) - (i : Nat)) 1) where
  mem := by simp
  obj := fun i h st b hb => by
    have e : b = it := by simpa using hb
    subst e
    exact ⟨_, st, fun v z => by
      have z' : Data.fields _ = Data.cell v := z
      cases z'⟩
  keep := fun i h h' st k => k it (by simp) _ st
  item := by
    intro X hP hw hK hc i pins s σ H E I hf st hg
    subst hP hw hK
    obtain ⟨f0, f1, f2, f3, f4, f5⟩ := hf it (by simp)
    have W := Walks.range (prog := X.prog) (w := X.w) (I.ok.hd hc) it lo 1 n
    refine W.item i s _ _ hg st fun v h' tk hv st' kk => ?_
    obtain ⟨t, rfl⟩ := hv
    have I1 : Inv X pins σ H { s with heap := h', toks := tk } := I.turned (fun b o hb e => kk b o (by simpa using hb) e) f0 f1 f3 f4 f5
    refine ⟨_, rfl, go_of (s := { s with heap := h', toks := tk }) (n := "range_iterator") st' rfl rfl (by decide) ⟨.int (lo + i), H, I1, ⟨t, ?_⟩, ⟨rfl, rfl⟩, st', fun b hb => (hf b hb).1⟩⟩
    rw [Int.mul_one]
  done := by
    intro X hP hw hK hc i pins s σ H E I hf st hg
    subst hP hw hK
    obtain ⟨f0, f1, f2, f3, f4, f5⟩ := hf it (by simp)
    exact wpAny_pyNext_range_end (I.ok.hd hc) st (by have : n ≤ i := hg; omega) fun h' eb => ⟨rfl, I.turned (t' := s.toks) (fun b o hb e => eb b o hb e) f0 f1 f3 f4 f5⟩
  self := fun _ _ _ _ _ st h => wpAny_pyIter_rangeiter st h
end L2
namespace L2
open PySem PySem.Spec PyProof.Rows
section
variable {X : Cx} {tg : Expr}
def iList (K : PySem.W.Frag) (tl : TE) : TI := fun σ H R => tl σ H fun x H1 => ∃ a, x = .ref a ∧ (∃ xs, SqL K H1 a xs) ∧ R (Itl K a) H1
theorem pi_list {l : Expr} {tl : TE} (hl : PE X l tl) : PI X tg l (iList X.K tl) := by
  intro pins s σ H R I h
  refine thn (hl pins s σ H _ I h) fun v s1 ⟨x, H1, I1, r1, q1⟩ => ?_
  obtain ⟨a, e, ⟨xs, hq⟩, q⟩ := q1
  subst e
  cases r1
  obtain ⟨its, rv, p, hz⟩ := I1.list hq
  refine wpAny_pyIter_list p.isList ?_
  refine ⟨s1.heap.objs.size, [s1.heap.objs.size], _, _, H1, rfl, I1.kept (t' := s1.toks) fun b o e => Heap.get?_push_of_some _ e, turn_list a _, ⟨_, Heap.get?_push_size _ rfl, rfl, rfl⟩, fun b hb => ?_, q⟩
  have e : b = s1.heap.objs.size := by simpa using hb
  subst e
  exact I1.fpOk (Nat.le_refl _) (I1.hok.fresh (Nat.le_refl _))
theorem range_it {pins : List (Addr × Obj)} {σ : St} {H : Hp} {s : Shared} {R : It → Hp → Prop} {E : Value → Shared → Prop} {lo hi : Int} {t u v : Tok} {tk : Nat} (I : Inv X pins σ H s) (h1 : -(2 ^ 62) ≤ lo) (h2 : lo < 2 ^ 62) (h3 : -(2 ^ 62) ≤ hi) (h4 : hi < 2 ^ 62)
    (q : R (Itr lo (hi - lo).toNat) H) : wpAny (model X.prog X.w) X.A (pyIter (.ref s.heap.objs.size)) (PIE X pins σ tg R) E { s with heap := s.heap.push { cls := .type "range", data := .fields #[.int lo t, .int hi u, .int 1 v] }, toks := tk } := by
  refine wpAny_pyIter_range (IsRange.new ..) (small_one h1 h2 h3 h4) ?_
  have I1 : Inv X pins σ H { s with heap := s.heap.push { cls := .type "range", data := .fields #[.int lo t, .int hi u, .int 1 v] }, toks := tk } := I.kept fun b o e => Heap.get?_push_of_some _ e
  refine ⟨(s.heap.push { cls := .type "range", data := .fields #[.int lo t, .int hi u, .int 1 v] }).objs.size, [(s.heap.push { cls := .type "range", data := .fields #[.int lo t, .int hi u, .int 1 v] }).objs.size], _, _, H, rfl,
    I1.kept (t' := tk) fun b o e => Heap.get?_push_of_some _ e, turn_range _ lo (hi - lo).toNat, ?_, fun b hb => ?_, q⟩
  · have e1 : lo + ((0 : Nat) : Int) * 1 = lo := by simp
    have e2 : (((hi - lo).toNat : Nat) : Int) - ((0 : Nat) : Int) = Builtin.Range.rangeSize lo hi 1 := by rw [rangeSize_one]; split <;> omega
    show IsRangeIter _ _ (lo + ((0 : Nat) : Int) * 1) ((((hi - lo).toNat : Nat) : Int) - ((0 : Nat) : Int)) 1
    rw [e1, e2]
    exact Heap.get?_push_size _ rfl
  · have e : b = (s.heap.push { cls := .type "range", data := .fields #[.int lo t, .int hi u, .int 1 v] }).objs.size := by simpa using hb
    subst e
    exact I1.fpOk (Nat.le_refl _) (I1.hok.fresh (Nat.le_refl _))
def iRng1 (ta : TA) : TI := fun σ H R => ta σ H fun vs H1 => ∃ j : Int, vs = [.int j] ∧ -(2 ^ 62) ≤ j ∧ j < 2 ^ 62 ∧ R (Itr 0 j.toNat) H1
def iRng2 (ta : TA) : TI := fun σ H R => ta σ H fun vs H1 => ∃ i j : Int, vs = [.int i, .int j] ∧ (-(2 ^ 62) ≤ i ∧ i < 2 ^ 62 ∧ -(2 ^ 62) ≤ j ∧ j < 2 ^ 62) ∧ R (Itr i (j - i).toNat) H1
theorem pi_range1 {a : Expr} {ta : TA} {p pos : Pos} (hg : Gl X "range") (hm : X.mg "range" = none) (ha : PA X [a] ta) (hs : starEach [a] X.env = [(false, eval a X.env)] := by rfl) : PI X tg (.Call (.Name "range" p) [a] [] pos) (iRng1 ta) := by
  intro pins s σ H R I h
  refine Call_ (ld_blt I hg hm boot_range (PyProof.Rows.callWith_type1 (thn (ha pos pins s σ H _ I h) fun us s1 ⟨vs, H1, I1, r1, q1⟩ => ?_) hs rfl))
  obtain ⟨j, e, q1, q2, q⟩ := q1
  subst e
  cases r1 with
  | cons r rr =>
    cases rr
    obtain ⟨t, rfl⟩ := r
    exact call_range_1 (range_it I1 (by omega) (by omega) q1 q2 (by simpa using q))
def tFor (wi : TI) (g : TG) (tb : TS) : TS := fun D σ H => wi σ H fun J H1 => ∃ W : Nat → Nat → St → Hp → Prop, (∃ m, W 0 m σ H1) ∧ ∀ i m σ H, W i m σ H →
  (J.stop i H ∧ D.nx σ H) ∨ (J.go i H ∧ ∃ N : St → Hp → Prop, (∀ σ' H', N σ' H' → ∃ m', m' < m ∧ W (i + 1) m' σ' H') ∧ ∀ x H', J.yld i H x H' → g x σ H' fun σ2 H2 => tb { D with nx := N, ct := N, bk := D.nx } σ2 H2)
def pinsAt (fp : List Addr) (h : Heap) : List (Addr × Obj) := fp.filterMap fun b => (h.get? b).map fun o => (b, o)
theorem mem_pinsAt {fp : List Addr} {h : Heap} {b : Addr} {o : Obj} (hb : b ∈ fp) (e : h.get? b = some o) : (b, o) ∈ pinsAt fp h := List.mem_filterMap.mpr ⟨b, hb, by rw [e]; rfl⟩
theorem of_pinsAt {fp : List Addr} {h : Heap} {p : Addr × Obj} (hp : p ∈ pinsAt fp h) : p.1 ∈ fp ∧ h.get? p.1 = some p.2 := by
  obtain ⟨b, hb, e⟩ := List.mem_filterMap.mp hp
  cases q : h.get? b with
  | none => rw [q] at e; cases e
  | some o =>
    rw [q] at e
    have e' : (b, o) = p := Option.some.inj e
    subst e'
    exact ⟨hb, q⟩
theorem Inv.pinned {pins : List (Addr × Obj)} {σ : St} {H : Hp} {s : Shared} {fp : List Addr} (I : Inv X pins σ H s) (hf : ∀ b ∈ fp, FpOk X pins H b) (ho : ∀ b ∈ fp, ∃ o, s.heap.get? b = some o ∧ ∀ v, o.data ≠ .cell v) : Inv X (pins ++ pinsAt fp s.heap) σ H s :=
  I.pins_of fun p hp => (List.mem_append.mp hp).elim (fun z => I.pin p (List.mem_append_right _ z)) fun z => by
    obtain ⟨hb, e⟩ := of_pinsAt z
    obtain ⟨f0, f1, f2, _⟩ := hf p.1 hb
    obtain ⟨o, e', d⟩ := ho p.1 hb
    rw [e] at e'; cases e'
    exact ⟨e, f0, f1, f2, d⟩
theorem Inv.unpinned {pins pl : List (Addr × Obj)} {σ : St} {H : Hp} {s : Shared} (I : Inv X (pins ++ pl) σ H s) : Inv X pins σ H s := I.pins_of fun p hp => I.pin p (List.mem_append_right _ (List.mem_append_left _ hp))
theorem ps_for {iter : Expr} {body : List Stmt} {wi : TI} {g : TG} {tb : TS} {pos : Pos} (hp : PassesOwn (model X.prog X.w) X.A X.env X.xe) (hc : X.calm = true) (hi : PI X tg iter wi) (hg : PG X tg g) (hb : PSs X body tb)
    (hs : ∀ x, foldedSetIterable iter X.env x = pure x := by intro _; rfl) : PS X (.For tg iter body [] pos) (tFor wi g tb) := by
  intro pins s σ H D I h
  refine wpAny_For (thn (hi pins s σ H _ I h) fun v s1 h1 => thn h1 fun itv s2 h2 => ?_) hs
  obtain ⟨it, fp, tn, J, H2, e, I2, T, st2, f2, W, ⟨m0, w0⟩, turn⟩ := h2
  subst e
  -- what stays true of the iterator's objects through the loop
  have stat : ∀ {H' : Hp}, (∀ b ∈ fp, H' b = none) → ∀ b ∈ fp, FpOk X pins H' b := fun hn b hb => ⟨hn b hb, (f2 b hb).2⟩
  refine codeAny_forLoop_any (fun n s' => ∃ i σ' H', Inv X pins σ' H' s' ∧ tn i s'.heap ∧ (∀ b ∈ fp, H' b = none) ∧ W i n σ' H') ?_ m0 ⟨0, σ, H2, I2, st2, fun b hb => (f2 b hb).1, w0⟩
  rintro n s3 ⟨i, σ3, H3, I3, st3, fr3, w3⟩
  rcases turn i n σ3 H3 w3 with ⟨stop, qn⟩ | ⟨go, N, hN, step⟩
  · refine wpAny_passesOwn hp (thn (T.done X rfl rfl rfl hc i pins s3 σ3 H3 X.xe I3 (stat fr3) st3 stop) fun r s4 ⟨hr, I4⟩ => ?_)
    subst hr
    exact wpAny_execs_nil ⟨σ3, H3, I4, qn⟩
  · refine wpAny_passesOwn hp (thn (T.item X rfl rfl rfl hc i pins s3 σ3 H3 X.xe I3 (stat fr3) st3 go) fun r s4 ⟨u, hr, h4⟩ => ?_)
    subst hr
    refine wpAny_passesOwn hp (thn h4 fun _ s5 ⟨x, H5, I5, r5, y5, st5, fr5⟩ => ?_)
    have I5' := I5.pinned (stat fr5) (T.obj _ _ st5)
    refine wpAny_passesOwn hp (thn (hg _ s5 σ3 H5 x u _ I5' r5 (step x H5 y5)) fun _ s6 ⟨σ6, H6, I6, q6⟩ => ?_)
    refine wpAny_passesOwn hp (thn (hb _ s6 σ6 H6 _ I6 q6) fun f s7 q7 => ?_)
    have again : ∀ {σ7 : St} {H7 : Hp}, Inv X (pins ++ pinsAt fp s5.heap) σ7 H7 s7 → N σ7 H7 → ∃ m, m < n ∧ ∃ i σ' H', Inv X pins σ' H' s7 ∧ tn i s7.heap ∧ (∀ b ∈ fp, H' b = none) ∧ W i m σ' H' := fun {σ7 H7} I7 n7 => by
      obtain ⟨m', hm, w7⟩ := hN σ7 H7 n7
      refine ⟨m', hm, i + 1, σ7, H7, I7.unpinned, T.keep _ _ _ st5 fun b hb o e => (I7.pin (b, o) (List.mem_append_right _ (List.mem_append_right _ (mem_pinsAt hb e)))).1, fun b hb => ?_, w7⟩
      obtain ⟨o, e, d⟩ := T.obj _ _ st5 b hb
      exact (I7.pin (b, o) (List.mem_append_right _ (List.mem_append_right _ (mem_pinsAt hb e)))).2.1
    cases f with
    | next => obtain ⟨σ7, H7, I7, n7⟩ := q7; exact again I7 n7
    | cont => obtain ⟨σ7, H7, I7, n7⟩ := q7; exact again I7 n7
    | brk => obtain ⟨σ7, H7, I7, q7⟩ := q7; exact ⟨σ7, H7, I7.unpinned, q7⟩
    | ret v => obtain ⟨x7, σ7, H7, I7, r7, q7⟩ := q7; exact ⟨x7, σ7, H7, I7.unpinned, r7, q7⟩
end
theorem for_list {K : PySem.W.Frag} {a : Addr} {xs : List V} {g : TG} {tb : TS} {D : Ends} {σ : St} {H : Hp} (Pv : Nat → St → Hp → Prop) (h0 : Pv 0 σ H) (hl : ∀ i σ H, i ≤ xs.length → Pv i σ H → SqL K H a xs)
    (hs : ∀ i x σ H, xs[i]? = some x → Pv i σ H → g x σ H fun σ2 H2 => tb { D with nx := Pv (i + 1), ct := Pv (i + 1), bk := D.nx } σ2 H2) (hd : ∀ σ H, Pv xs.length σ H → D.nx σ H) :
    ∃ W : Nat → Nat → St → Hp → Prop, (∃ m, W 0 m σ H) ∧ ∀ i m σ H, W i m σ H →
      ((Itl K a).stop i H ∧ D.nx σ H) ∨ ((Itl K a).go i H ∧ ∃ N : St → Hp → Prop, (∀ σ' H', N σ' H' → ∃ m', m' < m ∧ W (i + 1) m' σ' H') ∧ ∀ x H', (Itl K a).yld i H x H' → g x σ H' fun σ2 H2 => tb { D with nx := N, ct := N, bk := D.nx } σ2 H2) := by
  refine ⟨fun i m σ H => m = xs.length - i ∧ i ≤ xs.length ∧ Pv i σ H, ⟨xs.length, by simp, Nat.zero_le _, h0⟩, ?_⟩
  rintro i m σ H ⟨rfl, hi, p⟩
  have q := hl i σ H hi p
  by_cases hlt : i < xs.length
  · refine .inr ⟨⟨xs, xs[i], q, by simp [hlt]⟩, Pv (i + 1), fun σ' H' p' => ⟨xs.length - (i + 1), by omega, rfl, hlt, p'⟩, fun x H' y => ?_⟩
    obtain ⟨e, y⟩ := y
    subst e
    exact hs i x σ _ (y xs q) p
  · have e : i = xs.length := by omega
    subst e
    exact .inl ⟨⟨xs, q, Nat.le_refl _⟩, hd σ H p⟩
theorem for_range {lo : Int} {n : Nat} {g : TG} {tb : TS} {D : Ends} {σ : St} {H : Hp} (Pv : Nat → St → Hp → Prop) (h0 : Pv 0 σ H)
    (hs : ∀ i σ H, i < n → Pv i σ H → g (.int (lo + i)) σ H fun σ2 H2 => tb { D with nx := Pv (i + 1), ct := Pv (i + 1), bk := D.nx } σ2 H2) (hd : ∀ σ H, Pv n σ H → D.nx σ H) :
    ∃ W : Nat → Nat → St → Hp → Prop, (∃ m, W 0 m σ H) ∧ ∀ i m σ H, W i m σ H →
      ((Itr lo n).stop i H ∧ D.nx σ H) ∨ ((Itr lo n).go i H ∧ ∃ N : St → Hp → Prop, (∀ σ' H', N σ' H' → ∃ m', m' < m ∧ W (i + 1) m' σ' H') ∧ ∀ x H', (Itr lo n).yld i H x H' → g x σ H' fun σ2 H2 => tb { D with nx := N, ct := N, bk := D.nx } σ2 H2) := by
  refine ⟨fun i m σ H => m = n - i ∧ i ≤ n ∧ Pv i σ H, ⟨n, by simp, Nat.zero_le _, h0⟩, ?_⟩
  rintro i m σ H ⟨rfl, hi, p⟩
  by_cases hlt : i < n
  · refine .inr ⟨hlt, Pv (i + 1), fun σ' H' p' => ⟨n - (i + 1), by omega, rfl, hlt, p'⟩, fun x H' y => ?_⟩
    obtain ⟨e, y⟩ := y
    subst e y
    exact hs i σ _ hlt p
  · have e : i = n := by omega
    subst e
    exact .inl ⟨Nat.le_refl _, hd σ H p⟩
end L2
namespace L2
open PySem PySem.Spec PyProof.Rows
abbrev R2 := V → V → Hp → VK → Prop
def OpR (X : Cx) (f : Value → Value → Sem Value) (r : R2) : Prop :=
  ∀ (pins : List (Addr × Obj)) (s : Shared) (σ : St) (H : Hp) (x y : V) (v u : Value) (Q : VK), Inv X pins σ H s → RelV x v → RelV y u → r x y H Q →
    wpAny (model X.prog X.w) X.A (f v u) (EP X pins σ Q) X.xe s
def UnR (X : Cx) (f : Value → Sem Value) (r : V → Hp → VK → Prop) : Prop :=
  ∀ (pins : List (Addr × Obj)) (s : Shared) (σ : St) (H : Hp) (x : V) (v : Value) (Q : VK), Inv X pins σ H s → RelV x v → r x H Q →
    wpAny (model X.prog X.w) X.A (f v) (EP X pins σ Q) X.xe s
def CallR (X : Cx) (f : Value) (r : List V → Hp → VK → Prop) : Prop :=
  ∀ (pins : List (Addr × Obj)) (s : Shared) (σ : St) (H : Hp) (xs : List V) (us : List Value) (Q : VK), Inv X pins σ H s → Vals xs us → r xs H Q →
    wpAny (model X.prog X.w) X.A (call f us) (EP X pins σ Q) X.xe s
def tOp (r : R2) (ta tb : TE) : TE := fun σ H Q => ta σ H fun x H1 => tb σ H1 fun y H2 => r x y H2 Q
def tUn (r : V → Hp → VK → Prop) (ta : TE) : TE := fun σ H Q => ta σ H fun x H1 => r x H1 Q
def rI (C : Int → Int → Prop) (g : Int → Int → V) : R2 := fun x y H Q => ∃ i j, x = .int i ∧ y = .int j ∧ C i j ∧ Q (g i j) H
def rI0 (g : Int → Int → V) : R2 := fun x y H Q => ∃ i j, x = .int i ∧ y = .int j ∧ Q (g i j) H
def rU (g : Int → V) : V → Hp → VK → Prop := fun x H Q => ∃ i, x = .int i ∧ Q (g i) H
section
variable {X : Cx} {a b c : Expr} {ta tb tc : TE} {pos : Pos}
theorem binT (ha : PE X a ta) (hb : PE X b tb) {pins : List (Addr × Obj)} {s : Shared} {σ : St} {H : Hp} {R : V → V → Hp → Prop} (I : Inv X pins σ H s)
    (h : ta σ H fun x H1 => tb σ H1 fun y H2 => R x y H2) {Q : Value → Shared → Prop} {f : Value → Value → Sem Value}
    (hf : ∀ v u s2 x y H2, Inv X pins σ H2 s2 → RelV x v → RelV y u → R x y H2 → wpAny (model X.prog X.w) X.A (f v u) Q X.xe s2) :
    wpAny (model X.prog X.w) X.A (eval a X.env) (fun v s₁ => wpAny (model X.prog X.w) X.A (eval b X.env) (fun u s₂ => wpAny (model X.prog X.w) X.A (f v u) Q X.xe s₂) X.xe s₁) X.xe s := by
  refine thn (ha pins s σ H _ I h) fun v s1 ⟨x, H1, I1, r1, q1⟩ => ?_
  refine thn (hb pins s1 σ H1 _ I1 q1) fun u s2 ⟨y, H2, I2, r2, q2⟩ => ?_
  exact hf v u s2 x y H2 I2 r1 r2 q2
theorem pe_op {op : Operator} {r : R2} (ho : OpR X (binaryOp op) r) (ha : PE X a ta) (hb : PE X b tb) : PE X (.BinOp a op b pos) (tOp r ta tb) := by
  intro pins s σ H Q I h
  exact wpAny_BinOp (binT ha hb I h fun v u s2 x y H2 I2 rx ry q => ho pins s2 σ H2 x y v u Q I2 rx ry q)
theorem pe_un {op : UnaryOp} {r : V → Hp → VK → Prop} (ho : UnR X (unaryOp op) r) (ha : PE X a ta) : PE X (.UnaryOp op a pos) (tUn r ta) := by
  intro pins s σ H Q I h
  exact UnaryOp_ (thn (ha pins s σ H _ I h) fun v s1 ⟨x, H1, I1, r1, q1⟩ => ho pins s1 σ H1 x v Q I1 r1 q1)
theorem opI {f : Value → Value → Sem Value} {C : Int → Int → Prop} {g : Int → Int → Int}
    (rule : ∀ (i j : Int) (t u : Tok) (s : Shared) (Q : Value → Shared → Prop) (E : Value → Shared → Prop), C i j → Q (.int (g i j) s.toks) { s with toks := s.toks + 1 } → wpAny (model X.prog X.w) X.A (f (.int i t) (.int j u)) Q E s) :
    OpR X f (rI C fun i j => .int (g i j)) := by
  intro pins s σ H x y v u Q I rx ry h
  obtain ⟨i, j, rfl, rfl, hc, q⟩ := h
  obtain ⟨t, rfl⟩ := rx
  obtain ⟨t', rfl⟩ := ry
  exact rule i j t t' s _ _ hc ⟨.int (g i j), H, I.tok _, ⟨_, rfl⟩, q⟩
theorem opI0 {f : Value → Value → Sem Value} {g : Int → Int → Int}
    (rule : ∀ (i j : Int) (t u : Tok) (s : Shared) (Q : Value → Shared → Prop) (E : Value → Shared → Prop), Q (.int (g i j) s.toks) { s with toks := s.toks + 1 } → wpAny (model X.prog X.w) X.A (f (.int i t) (.int j u)) Q E s) :
    OpR X f (rI0 fun i j => .int (g i j)) := by
  intro pins s σ H x y v u Q I rx ry h
  obtain ⟨i, j, rfl, rfl, q⟩ := h
  obtain ⟨t, rfl⟩ := rx
  obtain ⟨t', rfl⟩ := ry
  exact rule i j t t' s _ _ ⟨.int (g i j), H, I.tok _, ⟨_, rfl⟩, q⟩
theorem opB0 {f : Value → Value → Sem Value} {g : Int → Int → Bool}
    (rule : ∀ (i j : Int) (t u : Tok) (s : Shared) (Q : Value → Shared → Prop) (E : Value → Shared → Prop), Q (.bool (g i j)) s → wpAny (model X.prog X.w) X.A (f (.int i t) (.int j u)) Q E s) :
    OpR X f (rI0 fun i j => .bl (g i j)) := by
  intro pins s σ H x y v u Q I rx ry h
  obtain ⟨i, j, rfl, rfl, q⟩ := h
  obtain ⟨t, rfl⟩ := rx
  obtain ⟨t', rfl⟩ := ry
  exact rule i j t t' s _ _ ⟨.bl (g i j), H, I, rfl, q⟩
def CPow (i j : Int) : Prop := 0 ≤ j ∧ j ≤ 1000000 ∧ i.natAbs < 2 ^ 64
def CMul (i j : Int) : Prop := (-(2 ^ 64) < i ∧ i < 2 ^ 64) ∨ (-(2 ^ 64) < j ∧ j < 2 ^ 64)
theorem CMul.ok {i j : Int} (h : CMul i j) : IntMulOk i j := by
  rcases h with ⟨h1, h2⟩ | ⟨h1, h2⟩
  · exact .of_left (intBits_le_64 h1 h2)
  · exact .of_right (intBits_le_64 h1 h2)
theorem op_add : OpR X (binaryOp .Add) (rI0 fun i j => .int (i + j)) := opI0 fun _ _ _ _ _ _ _ q => add_int q
theorem op_sub : OpR X (binaryOp .Sub) (rI0 fun i j => .int (i - j)) := opI0 fun _ _ _ _ _ _ _ q => sub_int q
theorem op_mul : OpR X (binaryOp .Mult) (rI CMul fun i j => .int (i * j)) := opI fun _ _ _ _ _ _ _ hc q => mul_int q hc.ok
theorem op_mod : OpR X (binaryOp .Mod) (rI (fun _ j => 0 < j) fun i j => .int (i % j)) := opI fun i j _ _ _ _ _ hc q => by
  have h1 : (0 : Int) < j := hc
  exact mod_int' (by omega) (by rw [Int.fmod_eq_emod_of_nonneg i (by omega)]; exact q)
theorem op_pow : OpR X (binaryOp .Pow) (rI CPow fun i j => .int (i ^ j.toNat)) := opI fun _ _ _ _ _ _ _ hc q => pow_int_small hc.1 hc.2.1 hc.2.2 q
theorem unI {f : Value → Sem Value} {g : Int → Int}
    (rule : ∀ (i : Int) (t : Tok) (s : Shared) (Q : Value → Shared → Prop) (E : Value → Shared → Prop), Q (.int (g i) s.toks) { s with toks := s.toks + 1 } → wpAny (model X.prog X.w) X.A (f (.int i t)) Q E s) :
    UnR X f (rU fun i => .int (g i)) := by
  intro pins s σ H x v Q I rx h
  obtain ⟨i, rfl, q⟩ := h
  obtain ⟨t, rfl⟩ := rx
  exact rule i t s _ _ ⟨.int (g i), H, I.tok _, ⟨_, rfl⟩, q⟩
theorem un_neg : UnR X (unaryOp .USub) (rU fun i => .int (-i)) := unI fun _ _ _ _ _ q => neg_int q
end
def scal : V → V → Bool
  | .non, .non => true | .non, .int _ => true | .int _, .non => true | .non, .bl _ => true | .bl _, .non => true | .non, .str _ => true | .str _, .non => true
  | .int _, .int _ => true | .bl _, .bl _ => true | .str _, .str _ => true | .byt _, .byt _ => true
  | .int _, .str _ => true | .str _, .int _ => true | .bl _, .str _ => true | .str _, .bl _ => true
  | _, _ => false
def rEq : R2 := fun x y H Q => scal x y = true ∧ Q (.bl (decide (x = y))) H
def rNe : R2 := fun x y H Q => scal x y = true ∧ Q (.bl (!decide (x = y))) H
theorem dec_int {i j : Int} : decide (V.int i = V.int j) = (i == j) := by
  rw [Bool.eq_iff_iff]
  simp
theorem dec_bl {i j : Bool} : decide (V.bl i = V.bl j) = (i == j) := by
  rw [Bool.eq_iff_iff]
  simp
theorem dec_str {i j : Str} : decide (V.str i = V.str j) = (i == j) := by
  rw [Bool.eq_iff_iff]
  simp
theorem dec_byt {i j : Array UInt8} : decide (V.byt i = V.byt j) = (i.toList == j.toList) := by
  rw [Bool.eq_iff_iff]
  cases i
  cases j
  simp
section
variable {X : Cx} {a b c : Expr} {ta tb tc : TE} {pos : Pos}
theorem fin_bl {pins : List (Addr × Obj)} {σ : St} {H : Hp} {s : Shared} {Q : VK} {k k' : Bool} (I : Inv X pins σ H s) (q : Q (.bl k) H) (e : k = k') : EP X pins σ Q (.bool k') s := by
  subst e
  exact ⟨.bl k, H, I, rfl, q⟩
theorem op_eq : OpR X (compareOp .Eq) rEq := by
  intro pins s σ H x y v u Q I rx ry h
  obtain ⟨hs, q⟩ := h
  cases x with
  | non =>
    cases rx
    cases y with
    | non => cases ry; exact PySem.EqNone.eq_none_none (fin_bl I q (by simp))
    | bl j => cases ry; exact PySem.EqNone.eq_none_bool (fin_bl I q (by simp))
    | int j => obtain ⟨t', rfl⟩ := ry; exact PySem.EqNone.eq_none_int (fin_bl I q (by simp))
    | str j => obtain ⟨t', rfl⟩ := ry; exact PySem.EqNone.eq_none_str (fin_bl I q (by simp))
    | _ => exact absurd (show false = true from hs) Bool.false_ne_true
  | bl i =>
    cases rx
    cases y with
    | non => cases ry; exact PySem.EqNone.eq_bool_none (fin_bl I q (by simp))
    | bl j => cases ry; exact eq_bool (fin_bl I q dec_bl)
    | str j => obtain ⟨t', rfl⟩ := ry; exact PySem.EqMixed.eq_bool_str (fin_bl I q (by simp))
    | _ => exact absurd (show false = true from hs) Bool.false_ne_true
  | int i =>
    obtain ⟨t, rfl⟩ := rx
    cases y with
    | non => cases ry; exact PySem.EqNone.eq_int_none (fin_bl I q (by simp))
    | int j => obtain ⟨t', rfl⟩ := ry; exact eq_int (fin_bl I q dec_int)
    | str j => obtain ⟨t', rfl⟩ := ry; exact PySem.EqMixed.eq_int_str (fin_bl I q (by simp))
    | _ => exact absurd (show false = true from hs) Bool.false_ne_true
  | str i =>
    obtain ⟨t, rfl⟩ := rx
    cases y with
    | non => cases ry; exact PySem.EqNone.eq_str_none (fin_bl I q (by simp))
    | bl j => cases ry; exact PySem.EqMixed.eq_str_bool (fin_bl I q (by simp))
    | int j => obtain ⟨t', rfl⟩ := ry; exact PySem.EqMixed.eq_str_int (fin_bl I q (by simp))
    | str j => obtain ⟨t', rfl⟩ := ry; exact eq_str (fin_bl I q dec_str)
    | _ => exact absurd (show false = true from hs) Bool.false_ne_true
  | byt i =>
    obtain ⟨t, rfl⟩ := rx
    cases y with
    | byt j => obtain ⟨t', rfl⟩ := ry; exact PySem.W.eq_bytes (fin_bl I q dec_byt)
    | _ => exact absurd (show false = true from hs) Bool.false_ne_true
  | _ => cases y <;> exact absurd (show false = true from hs) Bool.false_ne_true
theorem op_ne : OpR X (compareOp .NotEq) rNe := by
  intro pins s σ H x y v u Q I rx ry h
  obtain ⟨hs, q⟩ := h
  cases x with
  | non =>
    cases rx
    cases y with
    | non => cases ry; exact PySem.EqNone.ne_none_none (fin_bl I q (by simp))
    | bl j => cases ry; exact PySem.EqNone.ne_none_bool (fin_bl I q (by simp))
    | int j => obtain ⟨t', rfl⟩ := ry; exact PySem.EqNone.ne_none_int (fin_bl I q (by simp))
    | str j => obtain ⟨t', rfl⟩ := ry; exact PySem.EqNone.ne_none_str (fin_bl I q (by simp))
    | _ => exact absurd (show false = true from hs) Bool.false_ne_true
  | bl i =>
    cases rx
    cases y with
    | non => cases ry; exact PySem.EqNone.ne_bool_none (fin_bl I q (by simp))
    | bl j => cases ry; exact ne_bool (fin_bl I q (congrArg not dec_bl))
    | str j => obtain ⟨t', rfl⟩ := ry; exact PySem.EqMixed.ne_bool_str (fin_bl I q (by simp))
    | _ => exact absurd (show false = true from hs) Bool.false_ne_true
  | int i =>
    obtain ⟨t, rfl⟩ := rx
    cases y with
    | non => cases ry; exact PySem.EqNone.ne_int_none (fin_bl I q (by simp))
    | int j => obtain ⟨t', rfl⟩ := ry; exact ne_int (fin_bl I q (congrArg not dec_int))
    | str j => obtain ⟨t', rfl⟩ := ry; exact PySem.EqMixed.ne_int_str (fin_bl I q (by simp))
    | _ => exact absurd (show false = true from hs) Bool.false_ne_true
  | str i =>
    obtain ⟨t, rfl⟩ := rx
    cases y with
    | non => cases ry; exact PySem.EqNone.ne_str_none (fin_bl I q (by simp))
    | bl j => cases ry; exact PySem.EqMixed.ne_str_bool (fin_bl I q (by simp))
    | int j => obtain ⟨t', rfl⟩ := ry; exact PySem.EqMixed.ne_str_int (fin_bl I q (by simp))
    | str j => obtain ⟨t', rfl⟩ := ry; exact ne_str (fin_bl I q (congrArg not dec_str))
    | _ => exact absurd (show false = true from hs) Bool.false_ne_true
  | byt i =>
    obtain ⟨t, rfl⟩ := rx
    cases y with
    | byt j => obtain ⟨t', rfl⟩ := ry; exact PySem.W.ne_bytes (fin_bl I q (congrArg not dec_byt))
    | _ => exact absurd (show false = true from hs) Bool.false_ne_true
  | _ => cases y <;> exact absurd (show false = true from hs) Bool.false_ne_true
theorem op_lt : OpR X (compareOp .Lt) (rI0 fun i j => .bl (decide (i < j))) := opB0 fun _ _ _ _ _ _ _ q => lt_int q
theorem op_le : OpR X (compareOp .LtE) (rI0 fun i j => .bl (decide (i ≤ j))) := opB0 fun _ _ _ _ _ _ _ q => le_int q
theorem op_gt : OpR X (compareOp .Gt) (rI0 fun i j => .bl (decide (j < i))) := opB0 fun _ _ _ _ _ _ _ q => gt_int q
theorem op_in_str : OpR X (compareOp .In) (fun x y H Q => ∃ i j, x = .str i ∧ y = .str j ∧ Q (.bl (!(Builtin.Str.occurrences j i 0 j.length 1).isEmpty)) H) := by
  intro pins s σ H x y v u Q I rx ry h
  obtain ⟨i, j, rfl, rfl, q⟩ := h
  obtain ⟨t, rfl⟩ := rx
  obtain ⟨t', rfl⟩ := ry
  exact in_str (fin_bl I q rfl)
theorem OpR.or {f : Value → Value → Sem Value} {r r' : R2} (h : OpR X f r) (h' : OpR X f r') : OpR X f (fun x y H Q => r x y H Q ∨ r' x y H Q) := by
  intro pins s σ H x y v u Q I rx ry q
  rcases q with q | q
  · exact h pins s σ H x y v u Q I rx ry q
  · exact h' pins s σ H x y v u Q I rx ry q
theorem nomark (b : Expr) {op : CmpOp} (h : op ≠ .In := by decide) (h2 : op ≠ .NotIn := by decide) : behindInMarks op b = false := by
  have e1 : (op == CmpOp.In) = false := by cases op <;> first | rfl | exact absurd rfl h
  have e2 : (op == CmpOp.NotIn) = false := by cases op <;> first | rfl | exact absurd rfl h2
  cases b <;> simp [behindInMarks, e1, e2]
theorem pe_cmpR {op : CmpOp} {r : R2} (ho : OpR X (compareOp op) r) (ha : PE X a ta) (hb : PE X b tb) (hm : behindInMarks op b = false) : PE X (.Compare a [op] [b] pos) (tOp r ta tb) := by
  intro pins s σ H Q I h
  exact wpAny_Compare1 (binT ha hb I h fun v u s2 x y H2 I2 rx ry q => ho pins s2 σ H2 x y v u Q I2 rx ry q) hm
def tTest (t : TE) : TT := fun σ H Q => t σ H fun x H' => ∃ k, x = .bl k ∧ Q k H'
theorem pt_cmpR {op : CmpOp} {r : R2} (ho : OpR X (compareOp op) r) (ha : PE X a ta) (hb : PE X b tb) (hm : behindInMarks op b = false) : PT X (.Compare a [op] [b] pos) (tTest (tOp r ta tb)) := by
  intro pins s σ H Q I h
  refine wpAny_isTrue_Compare1 (thn (ha pins s σ H _ I h) fun v s1 ⟨x, H1, I1, r1, q1⟩ => thn (hb pins s1 σ H1 _ I1 q1) fun u s2 ⟨y, H2, I2, r2, q2⟩ =>
    thn (ho pins s2 σ H2 x y v u _ I2 r1 r2 q2) fun c s3 ⟨z, H3, I3, r3, k, e, q3⟩ => ?_) hm
  subst e
  cases r3
  exact wpAny_truthy_bool ⟨H3, I3, q3⟩
def tChain (r r' : R2) (ta tb tc : TE) : TE := fun σ H Q => ta σ H fun x H1 => tb σ H1 fun y H2 => r x y H2 fun z H3 => ∃ k, z = .bl k ∧
  (if k = true then tc σ H3 fun w' H4 => r' y w' H4 Q else Q (.bl false) H3)
theorem line63 : (sizeLine : Nat) < 2 ^ 63 := by rw [sizeLine_eq]; decide
theorem op_add_str : OpR X (binaryOp .Add) (fun x y H Q => ∃ i j, x = .str i ∧ y = .str j ∧ i.length + j.length ≤ sizeLine ∧ Q (.str (i ++ j)) H) := by
  intro pins s σ H x y v u Q I rx ry h
  obtain ⟨i, j, rfl, rfl, hz, q⟩ := h
  obtain ⟨t, rfl⟩ := rx
  obtain ⟨t', rfl⟩ := ry
  exact add_str (fun t' tk => ⟨.str (i ++ j), H, I.tok _, ⟨_, rfl⟩, q⟩) hz
theorem vals1 {x : V} {us : List Value} (r : Vals [x] us) : ∃ u, us = [u] ∧ RelV x u := by
  cases r with
  | cons r1 r2 => cases r2; exact ⟨_, rfl, r1⟩
theorem vals2 {x y : V} {us : List Value} (r : Vals [x, y] us) : ∃ u w', us = [u, w'] ∧ RelV x u ∧ RelV y w' := by
  cases r with
  | cons r1 r2 =>
    cases r2 with
    | cons r3 r4 => cases r4; exact ⟨_, _, rfl, r1, r3⟩
theorem call_int1 : CallR X (.type "int") (fun xs H Q => (∃ i, xs = [.int i] ∧ Q (.int i) H) ∨ ∃ k, xs = [.bl k] ∧ Q (.int (if k then 1 else 0)) H) := by
  intro pins s σ H xs us Q I r h
  rcases h with ⟨i, rfl, q⟩ | ⟨k, rfl, q⟩
  · obtain ⟨u, rfl, t, rfl⟩ := vals1 r
    exact call_int_int ⟨.int i, H, I, ⟨_, rfl⟩, q⟩
  · obtain ⟨u, rfl, r1⟩ := vals1 r
    cases r1
    exact call_int_bool ⟨.int (if k then 1 else 0), H, I.tok _, ⟨_, rfl⟩, q⟩
def LenV (K : PySem.W.Frag) (x : V) (H : Hp) (n : Nat) : Prop :=
  match x with
  | .str y => y.length ≤ sizeLine ∧ n = y.length
  | .byt y => y.size ≤ sizeLine ∧ n = y.size
  | .ref p => (∃ xs, SqL K H p xs ∧ n = xs.length) ∨ ∃ xs, SqT K H p xs ∧ n = xs.length
  | _ => False
theorem call_len : CallR X (.builtin "len") (fun xs H Q => ∃ x n, xs = [x] ∧ LenV X.K x H n ∧ Q (.int n) H) := by
  intro pins s σ H xs us Q I r h
  obtain ⟨x, n, rfl, e, q⟩ := h
  obtain ⟨u, rfl, rx⟩ := vals1 r
  have hl := line63
  have hs : sizeLine = 16777216 := sizeLine_eq
  cases x with
  | str y =>
    obtain ⟨t, rfl⟩ := rx
    obtain ⟨hy, e'⟩ : y.length ≤ sizeLine ∧ n = y.length := e
    subst e'
    exact len_str (by omega) ⟨.int _, H, I.tok _, ⟨_, rfl⟩, q⟩
  | byt y =>
    obtain ⟨t, rfl⟩ := rx
    obtain ⟨hy, e'⟩ : y.size ≤ sizeLine ∧ n = y.size := e
    subst e'
    exact PySem.W.len_bytes (by omega) ⟨.int _, H, I.tok _, ⟨_, rfl⟩, q⟩
  | ref p =>
    cases rx
    have e' : (∃ xs, SqL X.K H p xs ∧ n = xs.length) ∨ ∃ xs, SqT X.K H p xs ∧ n = xs.length := e
    rcases e' with ⟨xs, hx, e'⟩ | ⟨xs, hx, e'⟩
    · subst e'
      obtain ⟨its, r', pl, hz⟩ := I.list hx
      have hlen := r'.length
      exact Calls.call_len_list pl.isList (by simp only [List.size_toArray]; omega) ⟨.int xs.length, H, I.tok _, ⟨_, by simp only [List.size_toArray]; rw [hlen]⟩, q⟩
    · subst e'
      obtain ⟨its, r', pl, hz⟩ := I.tuple hx
      have hlen := r'.length
      exact len_tuple pl (by simp only [List.size_toArray]; omega) ⟨.int xs.length, H, I.tok _, ⟨_, by simp only [List.size_toArray]; rw [hlen]⟩, q⟩
  | _ => exact (show False from e).elim
end
end L2
namespace L2
open PySem PySem.Spec PyProof.Rows
structure ObjM (h : Heap) (x dx C : Addr) (mA : Str → Option Value) : Prop where
  obj : h.get? x = some (PySem.W.instObj C dx)
  ns : h.Ns1 dx mA
  ne : dx ≠ x
theorem lookIn_ns {h : Heap} {dx : Addr} {mA : Str → Option Value} (n : h.Ns1 dx mA) : ∃ od, h.get? dx = some od ∧ ∀ name, PySem.W.lookIn name od = some (mA name) := by
  obtain ⟨o, es, ep, ho, hd, hk, _, hm⟩ := n
  refine ⟨o, ho, fun name => ?_⟩
  have e := hm name
  unfold nsFind findBy at e
  rw [← Array.find?_toList] at e
  unfold PySem.W.lookIn
  rw [hd]
  dsimp only
  split
  · rename_i y q
    rw [q] at e
    exact congrArg some e
  · rename_i q
    rw [q] at e
    have a : es.toList.any (·.refKey) = false := by
      rw [List.any_eq_false]
      intro y hy
      obtain ⟨z, t, hkey⟩ := hk y (Array.mem_toList_iff.mp hy)
      simp [DictEntry.refKey, hkey]
    have a' : ¬ es.toList.any (·.refKey) = true := by rw [a]; exact Bool.false_ne_true
    rw [if_neg a']
    exact congrArg some e
theorem ObjM.look {h : Heap} {x dx C : Addr} {mA : Str → Option Value} (I : ObjM h x dx C mA) : ∃ od, PySem.W.InstAt h x (PySem.W.instObj C dx) C (some od) ∧ ∀ name, PySem.W.lookIn name od = some (mA name) :=
  let ⟨od, ho, hl⟩ := lookIn_ns I.ns
  ⟨od, ⟨I.obj, rfl, rfl, ho⟩, hl⟩
section
variable {prog : Program} {w : World} {A : Around} {E : Value → Shared → Prop} {s : Shared} {K : PySem.W.Frag} {x dx C f : Addr} {mA : Str → Option Value} {name : Str} {v : Value}
theorem get_map {expr : Bool} {Q : Value → Shared → Prop} (X : K.In s.heap) (I : ObjM s.heap x dx C mA) (hg : PySem.W.plainGet K C name = true) (hh : PySem.W.hasDictIn K C = true)
    (ha : PySem.W.findIn K (.ref C) name = some none) (hv : mA name = some v) (hv' : PySem.W.handedIn v = true) (h : Q v { s with toks := s.toks + 1 }) :
    wpAny (model prog w) A (getAttr (.ref x) name expr) Q E s := by
  obtain ⟨od, J, hl⟩ := I.look
  exact PySem.W.get_value X J (PySem.W.plainGet_of hg).1 (PySem.W.findObj_own hh ha rfl (by rw [hl, hv])) hv' h
theorem set_map {ns : List Str} {Q : Unit → Shared → Prop} (X : K.In s.heap) (I : ObjM s.heap x dx C mA)
    (hs : PySem.W.findIn K (.ref C) "__setattr__" = some (some (.builtin "object.__setattr__"))) (hp : PySem.W.plainOver K C = true) (ht : PySem.W.takerIn K C name = some none) (hh : PySem.W.hasDictIn K C = true)
    (hw : PySem.Within mA ns) (hsz : ns.length ≤ sizeLine)
    (h : ∀ h', ObjM h' x dx C (fun y => if y = name then some v else mA y) → Heap.SameBut dx s.heap h' → Q () { s with heap := h', toks := s.toks + 2 }) :
    wpAny (model prog w) A (setAttr (.ref x) name v) Q E s := by
  obtain ⟨od, J, hl⟩ := I.look
  refine PySem.W.set_plain X J hs (PySem.W.osa_open (s := { s with toks := s.toks + 1 }) (r := none) X J hp ht fun b => ?_)
  obtain ⟨cd, hc, hd'⟩ := PySem.W.any_some hh
  have hx : s.heap.get? x = some ⟨.ref C, some dx, .plain, #[]⟩ := I.obj
  refine wpAny_bind (wpAny_pure (wpAny_bind (wpAny_bind (wpAny_loadPart hx (wpAny_bind (PySem.W.Looks.here (s := { s with toks := s.toks + 1 }) (PySem.W.looks_clsIn X hc) ?_))))))
  rw [hd']
  refine wpAny_pure (a := some dx) (wpAny_bind (wpAny_pure (wpAny_bind ?_)))
  refine wpAny_nsSet1 (s := { s with toks := s.toks + 1 }) I.ns fun h' hn2 hs2 => ?_
  obtain ⟨oD, esD, epD, hoD, hdD, hcD⟩ := hn2.count (PySem.Within.cons name v hw)
  refine wpAny_bind (wpAny_lookBehind hoD (by rw [hdD]; exact pastItsLine_dict (Nat.le_trans hcD (by rw [List.length_cons]; omega))) ?_)
  exact wpAny_pure (h _ ⟨(hs2.2 _ (Ne.symm I.ne)).trans I.obj, hn2, I.ne⟩ hs2)
theorem make_map {R : Result → Shared → Prop} {vs : List Value} {kw : List (Str × Value)} (X : K.In s.heap) (hm : PySem.W.makesIn K C = true)
    (hi : PySem.W.findIn K (.ref C) "__init__" = some (some (.ref f))) (hf : PySem.W.typeIn K (.ref f) = some (.type "function"))
    (h : codeAny (model prog w) (A.under (.builtin "type.__call__" ⟨.ref C :: vs, kw⟩)) (.call (.ref f) ⟨.ref (s.heap.objs.size + 1) :: vs, kw⟩) (PySem.W.InitBack (s.heap.objs.size + 1) R)
      { s with heap := (s.heap.push PySem.W.emptyDict).push (PySem.W.instObj C s.heap.objs.size) }) :
    codeAny (model prog w) A (.call (.ref C) ⟨vs, kw⟩) R s := by
  obtain ⟨hh, g, d, t, os⟩ := s
  exact PySem.W.make_core (PySem.W.makes_of X hm) (PySem.W.looks_findIn X hi) (fun self => PySem.W.bind_fn X self hf) (.inl rfl) h
end
def putF (f : Str) (v : V) : List (Str × V) → List (Str × V)
  | [] => [(f, v)]
  | (g, x) :: r => if g = f then (g, v) :: r else (g, x) :: putF f v r
theorem lookup_putF (f g : Str) (v : V) : ∀ fs : List (Str × V), (putF f v fs).lookup g = if g = f then some v else fs.lookup g
  | [] => by
    show List.lookup g [(f, v)] = _
    by_cases h : g = f
    · have hb : (g == f) = true := beq_iff_eq.mpr h
      simp only [List.lookup, hb, if_pos h]
    · have hb : (g == f) = false := beq_eq_false_iff_ne.mpr h
      simp only [List.lookup, hb, if_neg h]
  | (k, x) :: r => by
    have ih := lookup_putF f g v r
    rw [show putF f v ((k, x) :: r) = (if k = f then (k, v) :: r else (k, x) :: putF f v r) from rfl]
    by_cases hk : k = f
    · rw [if_pos hk]
      by_cases h : g = k
      · have hb : (g == k) = true := beq_iff_eq.mpr h
        simp only [List.lookup, hb, if_pos (h.trans hk)]
      · have hb : (g == k) = false := beq_eq_false_iff_ne.mpr h
        simp only [List.lookup, hb, if_neg (fun e : g = f => h (e.trans hk.symm))]
    · rw [if_neg hk]
      by_cases h : g = k
      · have hb : (g == k) = true := beq_iff_eq.mpr h
        simp only [List.lookup, hb, if_neg (fun e : g = f => hk (h.symm.trans e))]
      · have hb : (g == k) = false := beq_eq_false_iff_ne.mpr h
        simp only [List.lookup, hb]
        exact ih
theorem keys_putF (f : Str) (v : V) : ∀ fs : List (Str × V), f ∈ (putF f v fs).map (·.1) ∧ ∀ g, g ∈ fs.map (·.1) → g ∈ (putF f v fs).map (·.1)
  | [] => ⟨by simp [putF], fun g h => by simp at h⟩
  | (k, x) :: r => by
    obtain ⟨i1, i2⟩ := keys_putF f v r
    rw [show putF f v ((k, x) :: r) = (if k = f then (k, v) :: r else (k, x) :: putF f v r) from rfl]
    by_cases hk : k = f
    · rw [if_pos hk]
      subst hk
      exact ⟨by simp, fun g h => by simpa using h⟩
    · rw [if_neg hk]
      refine ⟨?_, fun g h => ?_⟩
      · rw [List.map_cons]
        exact List.mem_cons_of_mem _ i1
      · rw [List.map_cons] at h ⊢
        rcases List.mem_cons.mp h with e | e
        · exact List.mem_cons.mpr (.inl e)
        · exact List.mem_cons_of_mem _ (i2 g e)
theorem length_putF (f : Str) (v : V) : ∀ fs : List (Str × V), (putF f v fs).length ≤ fs.length + 1
  | [] => by simp [putF]
  | (k, x) :: r => by
    have ih := length_putF f v r
    rw [show putF f v ((k, x) :: r) = (if k = f then (k, v) :: r else (k, x) :: putF f v r) from rfl]
    by_cases hk : k = f
    · rw [if_pos hk, List.length_cons, List.length_cons]; omega
    · rw [if_neg hk, List.length_cons, List.length_cons]; omega
theorem RelO.some_of {v : V} {o : Option Value} (r : RelO (some v) o) : ∃ u, o = some u ∧ RelV v u := by
  cases o with
  | none => exact (show False from r).elim
  | some u => exact ⟨u, rfl, r⟩
theorem handed_of {v : V} {u : Value} (r : RelV v u) : PySem.W.handedIn u = true := by
  cases v with
  | non => cases (show u = Value.none from r); rfl
  | bl b => cases (show u = Value.bool b from r); rfl
  | int i => obtain ⟨t, e⟩ := (show ∃ t, u = Value.int i t from r); cases e; rfl
  | str x => obtain ⟨t, e⟩ := (show ∃ t, u = Value.str x t from r); cases e; rfl
  | byt b => obtain ⟨t, e⟩ := (show ∃ t, u = Value.bytes b t from r); cases e; rfl
  | flt b => obtain ⟨t, e⟩ := (show ∃ t, u = Value.float b t from r); cases e; rfl
  | ref a => cases (show u = Value.ref a from r); rfl
  | ty n => cases (show u = Value.type n from r); rfl
section
variable {P : Program} {w : World} {H H' : Hp} {h h' : Heap} {a C dx : Addr} {fs fs' : List (Str × V)}
theorem ins_get (hok : HOk P w H h) (e : H a = some (.ins C dx fs)) : ∃ mA, ObjM h a dx C mA ∧ (∀ f, RelO (fs.lookup f) (mA f)) ∧ PySem.Within mA (fs.map (·.1)) ∧ fs.length ≤ 1000 ∧ H dx = some (.own a) := by
  obtain ⟨d, z, ne, ob, mA, n, r, q⟩ := (show ObjOk P w H h a (.ins C dx fs) from hok a _ e)
  exact ⟨mA, ⟨ob, n, ne⟩, r, q, z, d⟩
end
structure Cls (K : PySem.W.Frag) (C : Addr) : Prop where
  pg : PySem.W.plainGet K C Str.empty = true
  hd : PySem.W.hasDictIn K C = true
  po : PySem.W.plainOver K C = true
  sa : PySem.W.findIn K (.ref C) "__setattr__" = some (some (.builtin "object.__setattr__"))
theorem Cls.get {K : PySem.W.Frag} {C : Addr} (c : Cls K C) (f : Str) : PySem.W.plainGet K C f = true := c.pg
def NoAttr (K : PySem.W.Frag) (C : Addr) (f : Str) : Prop := PySem.W.findIn K (.ref C) f = some none
theorem NoAttr.taker {K : PySem.W.Frag} {C : Addr} {f : Str} (n : NoAttr K C f) : PySem.W.takerIn K C f = some none := by
  unfold PySem.W.takerIn
  rw [show PySem.W.findIn K (.ref C) f = some none from n]
  rfl
structure Con (K : PySem.W.Frag) (C : Addr) (f : Str) (v : V) (u : Value) : Prop where
  at_ : PySem.W.findIn K (.ref C) f = some (some u)
  rel : RelV v u
  get : PySem.W.specialIn K u "__get__" = some none
  cp : PySem.W.copiedNames.contains f = false
structure Meth (K : PySem.W.Frag) (C : Addr) (m : Str) (f : Addr) : Prop where
  at_ : PySem.W.findIn K (.ref C) m = some (some (.ref f))
  fn : PySem.W.isFn K (.ref f) = true
  kp : PySem.W.keepIn K (.ref f) = true
section
variable {X : Cx} {pins : List (Addr × Obj)} {σ : St} {H : Hp} {s : Shared} {a C dx : Addr} {fs : List (Str × V)} {f : Str} {v : V} {A : Around} {E : Value → Shared → Prop}
theorem getattr_ok {b : Bool} {Q : Value → Shared → Prop} (I : Inv X pins σ H s) (e : H a = some (.ins C dx fs)) (c : Cls X.K C) (n : NoAttr X.K C f) (l : fs.lookup f = some v)
    (h : ∀ u s', Inv X pins σ H s' → RelV v u → Q u s') : wpAny (model X.prog X.w) A (getAttr (.ref a) f b) Q E s := by
  obtain ⟨mA, O, r, _, _, _⟩ := ins_get I.hok e
  obtain ⟨u, hu, ru⟩ := RelO.some_of (v := v) (o := mA f) (by rw [← l]; exact r f)
  exact get_map I.kIn O (c.get f) c.hd n hu (handed_of ru) (h u _ (I.tok _) ru)
theorem setattr_ok {y : V} {u : Value} {Q : Unit → Shared → Prop} (I : Inv X pins σ H s) (e : H a = some (.ins C dx fs)) (c : Cls X.K C) (n : NoAttr X.K C f) (hl : fs.length < 1000) (ry : RelV y u)
    (h : ∀ s', Inv X pins σ (upd H a (.ins C dx (putF f y fs))) s' → Q () s') : wpAny (model X.prog X.w) A (setAttr (.ref a) f u) Q E s := by
  obtain ⟨mA, O, r, wi, _, ho⟩ := ins_get I.hok e
  have hz : (fs.map (·.1)).length ≤ sizeLine := by rw [List.length_map, sizeLine_eq]; omega
  refine set_map I.kIn O c.sa c.po n.taker c.hd wi hz fun h' O' sb => h _ ?_
  have hd : ∃ o, h'.get? dx = some o := let ⟨o, _, _, e', _⟩ := O'.ns; ⟨o, e'⟩
  refine I.write (x := a) (e := dx) (by rw [e]; exact True.intro) (.inr ho) (fun b q hb z => (sb.2 b hb).trans z) hd ?_
  refine ⟨by rw [upd_ne O.ne]; exact ho, ?_, O.ne, O'.obj, _, O'.ns, fun g => ?_, fun g hg => ?_⟩
  · have := length_putF f y fs; omega
  · show RelO ((putF f y fs).lookup g) (if g = f then some u else mA g)
    rw [lookup_putF]
    by_cases q : g = f
    · rw [if_pos q, if_pos q]; exact ry
    · rw [if_neg q, if_neg q]; exact r g
  · by_cases q : g = f
    · rw [q]; exact (keys_putF f y fs).1
    · refine (keys_putF f y fs).2 g (wi g fun z => hg ?_)
      show (if g = f then some u else mA g) = none
      rw [if_neg q]; exact z
theorem Inv.made (I : Inv X pins σ H s) : Inv X pins σ (upd (upd H s.heap.objs.size (.own (s.heap.objs.size + 1))) (s.heap.objs.size + 1) (.ins C s.heap.objs.size []))
    { s with heap := (s.heap.push PySem.W.emptyDict).push (PySem.W.instObj C s.heap.objs.size) } := by
  have e1 : (s.heap.push PySem.W.emptyDict).get? s.heap.objs.size = some PySem.W.emptyDict := Heap.get?_push_size s.heap rfl
  have e2 : ((s.heap.push PySem.W.emptyDict).push (PySem.W.instObj C s.heap.objs.size)).get? (s.heap.objs.size + 1) = some (PySem.W.instObj C s.heap.objs.size) := by
    have := Heap.get?_push_size (s.heap.push PySem.W.emptyDict) (o := PySem.W.instObj C s.heap.objs.size) rfl
    rwa [Heap.size_push] at this
  have e3 : (s.heap.push PySem.W.emptyDict).Ns s.heap.objs.size (fun _ => none) := ⟨PySem.W.emptyDict, #[], _, e1, rfl, (fun e he => absurd he (by simp)), fun _ => rfl⟩
  have I1 := I.laid (a := s.heap.objs.size) (o := .own (s.heap.objs.size + 1)) (h' := s.heap.push PySem.W.emptyDict) (t' := s.toks) (fun b u q => Heap.get?_push_of_some _ q) (Nat.le_refl _) ⟨_, e1⟩
  refine I1.laid (a := s.heap.objs.size + 1) (o := .ins C s.heap.objs.size []) (t' := s.toks) (fun b u q => Heap.get?_push_of_some _ q) (Nat.le_of_eq (Heap.size_push _ _)) ?_
  have ne : s.heap.objs.size ≠ s.heap.objs.size + 1 := Nat.ne_of_lt (Nat.lt_succ_self _)
  refine ⟨by rw [upd_ne ne, upd_same], Nat.zero_le _, ne, e2, fun _ => none, (Heap.Ns1.of_empty e3).at fun o q => Heap.get?_push_of_some _ q, fun _ => True.intro, fun y hy => absurd rfl hy⟩
theorem attr_of {prog : Program} {w : World} {env : Env} {e : Expr} {f : Str} {pos : Pos} {s : Shared} {Q : Value → Shared → Prop} (hb : attributeBase e f env (eval e env) = eval e env)
    (h : wpAny (model prog w) A (eval e env) (fun o s₁ => wpAny (model prog w) A (getAttr o f true) Q E s₁) E s) : wpAny (model prog w) A (eval (.Attribute e f pos) env) Q E s :=
  Attribute_any_ h (by rw [arm_eval_Attribute, hb])
end
def tFld (K : PySem.W.Frag) (ta : TE) (f : Str) : TE := fun σ H Q => ta σ H fun x H1 => ∃ a C dx fs v, x = .ref a ∧ H1 a = some (.ins C dx fs) ∧ Cls K C ∧ NoAttr K C f ∧ fs.lookup f = some v ∧ Q v H1
def sFld (K : PySem.W.Frag) (ta tv : TE) (f : Str) : TS := fun D σ H => tv σ H fun y H1 => ta σ H1 fun x H2 => ∃ a C dx fs, x = .ref a ∧ H2 a = some (.ins C dx fs) ∧ Cls K C ∧ NoAttr K C f ∧ fs.length < 1000 ∧
  D.nx σ (upd H2 a (.ins C dx (putF f y fs)))
section
variable {X : Cx} {o e value : Expr} {f : Str} {pos pos' tpos : Pos} {ta tv : TE}
theorem pe_fld (he : PE X e ta) (hb : attributeBase e f X.env (eval e X.env) = eval e X.env) : PE X (.Attribute e f pos) (tFld X.K ta f) := by
  intro pins s σ H Q I h
  refine attr_of hb (thn (he pins s σ H _ I h) fun u s1 ⟨x, H1, I1, rx, a, C, dx, fs, v, ex, ea, c, n, l, q⟩ => ?_)
  subst ex
  obtain rfl : u = Value.ref a := rx
  exact getattr_ok I1 ea c n l fun u' s2 I2 ru => ⟨v, H1, I2, ru, q⟩
theorem ps_fld (ha : PE X o ta) (hv : PE X value tv) (hs : swapsWith value (some (.Attribute o f pos')) pos.line X.env = pure false) : PS X (.Assign [.Attribute o f pos'] value pos) (sFld X.K ta tv f) := by
  intro pins s σ H D I h
  refine plainObj_wpAny_Assign_Attribute (thn (hv pins s σ H _ I h) fun u s1 ⟨y, H1, I1, ry, q⟩ => thn (ha pins s1 σ H1 _ I1 q) fun ov s2 ⟨x, H2, I2, rx, a, C, dx, fs, ex, ea, c, n, l, q2⟩ => ?_) hs
  subst ex
  obtain rfl : ov = Value.ref a := rx
  exact setattr_ok I2 ea c n l ry fun s3 I3 => ⟨σ, _, I3, q2⟩
end
section
variable {X : Cx} {pins : List (Addr × Obj)} {σ : St} {H : Hp} {s : Shared} {A : Around} {E : Value → Shared → Prop} {Q : Value → Shared → Prop} {c : Value} {b : Bool}
inductive TyOf (K : PySem.W.Frag) (H : Hp) : V → Value → Prop where
  | non : TyOf K H .non (.type "NoneType")
  | bl (x : Bool) : TyOf K H (.bl x) (.type "bool")
  | int (i : Int) : TyOf K H (.int i) (.type "int")
  | str (x : Str) : TyOf K H (.str x) (.type "str")
  | flt (x : UInt64) : TyOf K H (.flt x) (.type "float")
  | lst {a : Addr} {xs : List V} (e : H a = some (.lst xs)) : TyOf K H (.ref a) (.type "list")
  | frz {a : Addr} {o : Obj} {xs : List V} (e : H a = some (.frz o (.lst xs))) : TyOf K H (.ref a) (.type "list")
  | tup {a : Addr} {xs : List V} (e : H a = some (.tup xs)) : TyOf K H (.ref a) (.type "tuple")
  | dK {a : Addr} {kvs : List (Key × V)} (e : H a = some (.dK kvs)) : TyOf K H (.ref a) (.type "dict")
  | dT {a : Addr} {kvs : List (List Key × V)} (e : H a = some (.dT kvs)) : TyOf K H (.ref a) (.type "dict")
  | ins {a C dx : Addr} {fs : List (Str × V)} (e : H a = some (.ins C dx fs)) (cl : Cls K C) (ha : PySem.W.findIn K (.ref C) "__class__" = some (some (.builtin "object.__class__")))
      (hn : PySem.W.specialIn K (.builtin "object.__class__") "__get__" = some (some (.builtin "getset_descriptor.__get__"))) (htk : PySem.W.takesIn K (.builtin "object.__class__") = some true)
      (hm : PySem.W.mroIn K C (.type "object") = some true) : TyOf K H (.ref a) (.ref C)
theorem isinst_ok {x : V} {u t : Value} (I : Inv X pins σ H s) (rx : RelV x u) (ty : TyOf X.K H x t) (e : PySem.W.kitOne X.K t c = some b) (h : ∀ tk, Q (.bool b) { s with toks := tk }) :
    wpAny (model X.prog X.w) A (call (.builtin "isinstance") [u, c]) Q E s := by
  cases ty with
  | non => cases (show u = Value.none from rx); exact PySem.W.kia_one PySem.W.kitx_none I.kIn True.intro e (fun z => nomatch z) h
  | bl y => cases (show u = Value.bool y from rx); exact PySem.W.kia_one PySem.W.kitx_bool I.kIn True.intro e (fun z => nomatch z) h
  | int i => obtain ⟨t, q⟩ := (show ∃ t, u = Value.int i t from rx); cases q; exact PySem.W.kia_one PySem.W.kitx_int I.kIn True.intro e (fun z => nomatch z) h
  | str y => obtain ⟨t, q⟩ := (show ∃ t, u = Value.str y t from rx); cases q; exact PySem.W.kia_one PySem.W.kitx_str I.kIn True.intro e (fun z => nomatch z) h
  | flt y => obtain ⟨t, q⟩ := (show ∃ t, u = Value.float y t from rx); cases q; exact PySem.W.kia_one PySem.W.kitx_float I.kIn True.intro e (fun z => nomatch z) h
  | @lst a xs ea =>
    cases (show u = Value.ref a from rx)
    obtain ⟨_, _, n, _, h1⟩ := (show ObjOk X.prog X.w H s.heap a (.lst xs) from I.hok a _ ea)
    exact PySem.W.kia_one PySem.W.kitx_list I.kIn ⟨_, h1, rfl⟩ e (fun z => nomatch z) h
  | @frz a ob xs ea =>
    cases (show u = Value.ref a from rx)
    obtain ⟨_, _, _, n, _, h1⟩ := (show ObjOk X.prog X.w H s.heap a (.frz ob (.lst xs)) from I.hok a _ ea)
    exact PySem.W.kia_one PySem.W.kitx_list I.kIn ⟨_, h1, rfl⟩ e (fun z => nomatch z) h
  | @tup a xs ea =>
    cases (show u = Value.ref a from rx)
    obtain ⟨_, _, _, p⟩ := (show ObjOk X.prog X.w H s.heap a (.tup xs) from I.hok a _ ea)
    obtain ⟨o, h1, h2, _⟩ := p
    exact PySem.W.kia_one PySem.W.kitx_tuple I.kIn ⟨o, h1, h2⟩ e (fun z => nomatch z) h
  | @dK a kvs ea =>
    cases (show u = Value.ref a from rx)
    obtain ⟨_, _, vs, _, p⟩ := (show ObjOk X.prog X.w H s.heap a (.dK kvs) from I.hok a _ ea)
    obtain ⟨o, es, ep, h1, h2, _⟩ := p
    exact PySem.W.kia_one PySem.W.kitx_dict I.kIn ⟨o, h1, h2.1⟩ e (fun z => nomatch z) h
  | @dT a kvs ea =>
    cases (show u = Value.ref a from rx)
    obtain ⟨_, _, xs, _, o, es, ep, h1, h2, _⟩ := (show ObjOk X.prog X.w H s.heap a (.dT kvs) from I.hok a _ ea)
    exact PySem.W.kia_one PySem.W.kitx_dict I.kIn ⟨o, h1, h2.1⟩ e (fun z => nomatch z) h
  | @ins a C dx fs ea cl ha hn htk hm =>
    cases (show u = Value.ref a from rx)
    obtain ⟨mA, O, _⟩ := ins_get I.hok ea
    obtain ⟨od, J, _⟩ := O.look
    exact PySem.W.kia_one (PySem.W.kitx_own (cl.get _) cl.hd ha hn htk hm) I.kIn J e (fun z => nomatch z) h
end
end L2
namespace L2
open PySem PySem.Spec PyProof.Rows
structure Room (k : Nat) (A : Around) : Prop where
  hd : A.handled = none
  dp : A.depth + 3 * k + 5 < recursionLimit
  un : A.units + 16 * k + 200 < cLine
theorem Room.mono {j k : Nat} {A : Around} (r : Room k A) (h : j ≤ k) : Room j A := ⟨r.hd, by have := r.dp; omega, by have := r.un; omega⟩
theorem Room.deeper {k : Nat} {A : Around} (r : Room (k + 1) A) (env : Env) : Room k (A.deeper env) :=
  ⟨r.hd, by have := r.dp; show A.depth + 1 + 3 * k + 5 < _; omega, by have := r.un; show A.units + 3 + 16 * k + 200 < _; omega⟩
theorem Room.in1 {k : Nat} {A : Around} (r : Room (k + 1) A) : Room k A.in1 :=
  ⟨r.hd, by have := r.dp; show A.depth + 3 * k + 5 < _; omega, by have := r.un; show A.units + 1 + 16 * k + 200 < _; omega⟩
theorem make_depth {A : Around} {C : Addr} {us : List Value} {kw : List (Str × Value)} : (A.under (.builtin "type.__call__" ⟨.ref C :: us, kw⟩)).depth = A.depth + 1 := by
  first | rfl | simp [Around.under, Code.weight, Code.isCreation, Code.isGuard, Code.isCaller, Code.frames, Code.isFrame, guardIds]
theorem make_units {A : Around} {C : Addr} {us : List Value} {kw : List (Str × Value)} : (A.under (.builtin "type.__call__" ⟨.ref C :: us, kw⟩)).units = A.units + 1 := by
  first | rfl | simp [Around.under, Code.cUnits, Code.frames, Code.isFrame]
theorem Room.make {k : Nat} {A : Around} (r : Room (k + 1) A) (C : Addr) (us : List Value) (kw : List (Str × Value)) : Room k (A.under (.builtin "type.__call__" ⟨.ref C :: us, kw⟩)) :=
  ⟨r.hd, by have := r.dp; rw [make_depth]; omega, by have := r.un; rw [make_units]; omega⟩
theorem Room.depth {k : Nat} {A : Around} (r : Room k A) : A.depth < recursionLimit := by have := r.dp; omega
theorem Room.units {k : Nat} {A : Around} (r : Room k A) : A.units + 64 < cLine := by have := r.un; omega
def tNil : TA := fun _ H Q => Q [] H
def tCons (ta : TE) (tr : TA) : TA := fun σ H Q => ta σ H fun x H1 => tr σ H1 fun xs H2 => Q (x :: xs) H2
section
variable {X : Cx} {e : Expr} {es : List Expr} {te : TE} {t : TA} {pos : Pos}
theorem pa_nil : PA X [] tNil := fun _ _ _ _ H Q I h => Calls.spliced_nil ⟨[], H, I, .nil, h⟩
theorem pa_cons (ha : PE X e te) (hr : PA X es t) (hs : starEach (e :: es) X.env = (false, eval e X.env) :: starEach es X.env := by rfl) : PA X (e :: es) (tCons te t) := by
  intro pos pins s σ H Q I h
  rw [hs]
  show wpAny _ _ (spliced ((false, eval e X.env) :: backTo pos (starEach es X.env))) _ _ s
  refine Calls.spliced_cons (thn (ha pins s σ H _ I h) fun u s1 ⟨x, H1, I1, r1, q1⟩ => ?_)
  exact thn (hr pos pins s1 σ H1 _ I1 q1) fun us s2 ⟨xs, H2, I2, r2, q2⟩ => ⟨x :: xs, H2, I2, .cons r1 r2, q2⟩
def tTup (t : TA) : TE := fun σ H Q => t σ H fun xs H1 => xs.length ≤ sizeLine ∧ ∀ p, H1 p = none → Q (.ref p) (upd H1 p (.tup xs))
def tLst (t : TA) : TE := fun σ H Q => t σ H fun xs H1 => xs.length ≤ sizeLine ∧ ∀ p, H1 p = none → Q (.ref p) (upd H1 p (.lst xs))
theorem pe_tup {x1} (h : PA X es t) : PE X (.Tuple es x1 pos) (tTup t) := by
  intro pins s σ H Q I hq
  refine wpAny_Tuple_spliced (thn (h pos pins s σ H _ I hq) fun us s1 ⟨xs, H1, I1, r, z, q⟩ => ⟨by rw [← r.length]; exact z, ?_⟩)
  have hf : H1 s1.heap.objs.size = none := I1.hok.fresh (Nat.le_refl _)
  refine ⟨.ref s1.heap.objs.size, upd H1 s1.heap.objs.size (.tup xs), I1.laid (t' := s1.toks) (fun b u e => Heap.get?_push_of_some _ e) (Nat.le_refl _) ?_, rfl, q _ hf⟩
  exact ⟨z, us, r, ⟨_, Heap.get?_push_size _ rfl, rfl, _, rfl⟩⟩
theorem pe_lst (h : PA X es t) : PE X (.List es pos) (tLst t) := by
  intro pins s σ H Q I hq
  refine wpAny_List_spliced (thn (h pos pins s σ H _ I hq) fun us s1 ⟨xs, H1, I1, r, z, q⟩ => ⟨by rw [← r.length]; exact z, ?_⟩)
  have hf : H1 s1.heap.objs.size = none := I1.hok.fresh (Nat.le_refl _)
  refine ⟨.ref s1.heap.objs.size, upd H1 s1.heap.objs.size (.lst xs), I1.laid (t' := s1.toks) (fun b u e => Heap.get?_push_of_some _ e) (Nat.le_refl _) ?_, rfl, q _ hf⟩
  exact ⟨z, us, 0, r, Heap.get?_push_size _ rfl⟩
end
abbrev Sp := List V → Hp → VK → XK → Prop
abbrev CXT := List Env → Hp → Shared → XK → Value → Shared → Prop
structure Env0 (P : Program) (w : World) (K : PySem.W.Frag) (mg : Str → Option Value) (base : Heap) (A : Around) (outer : List Env) (s : Shared) (H : Hp) : Prop where
  frames : A.frames = some outer
  mod : Mod K mg base
  bs : ∀ b o, base.get? b = some o → s.heap.get? b = some o ∧ H b = none
  bsz : base.objs.size ≤ s.heap.objs.size
  funs : s.heap.FunFrames base outer
  frf : ∀ b ∈ frs outer, H b = none
  hok : HOk P w H s.heap
  bare : AllBare s.gens
def CE (outer : List Env) (P : Program) (w : World) (H : Hp) (s : Shared) (Q : VK) (u : Value) (s' : Shared) : Prop :=
  ∃ v H', s'.os = s.os ∧ AllBare s'.gens ∧ Un (frs outer) [] H H' s.heap s'.heap ∧ HOk P w H' s'.heap ∧ RelV v u ∧ Q v H'
def CR (CX : CXT) (outer : List Env) (P : Program) (w : World) (H : Hp) (s : Shared) (Q : VK) (E : XK) (r : Result) (s' : Shared) : Prop :=
  match r with
  | .ok (.ret u) => CE outer P w H s Q u s'
  | .ok _ => False
  | .error e => CX outer H s E e s'
structure FnOk (P : Program) (w : World) (K : PySem.W.Frag) (mg : Str → Option Value) (base : Heap) (CX : CXT) (k : Nat) (f : Addr) (fd : FuncData) (ps : List Str) (sp : Sp) : Prop where
  len : ∀ vs H Q E, sp vs H Q E → vs.length = ps.length
  run : ∀ (A : Around) (outer : List Env) (s : Shared) (H : Hp) (args : Args) (us : List Value) (vs : List V) (Q : VK) (E : XK), Room k A → Env0 P w K mg base A outer s H → BindsTo s fd args (ps.zip us) → Vals vs us → sp vs H Q E →
    codeAny (model P w) A (.call (.ref f) args) (CR CX outer P w H s Q E) s
theorem FnOk.mono {P : Program} {w : World} {K : PySem.W.Frag} {mg : Str → Option Value} {base : Heap} {CX : CXT} {j k : Nat} {f : Addr} {fd : FuncData} {ps : List Str} {sp : Sp} (F : FnOk P w K mg base CX j f fd ps sp) (h : j ≤ k) :
    FnOk P w K mg base CX k f fd ps sp := ⟨F.len, fun A outer s H args us vs Q E hr => F.run A outer s H args us vs Q E (hr.mono h)⟩
theorem Env0.make {P : Program} {w : World} {K : PySem.W.Frag} {mg : Str → Option Value} {base : Heap} {A : Around} {outer : List Env} {s : Shared} {H : Hp} (e : Env0 P w K mg base A outer s H) (C : Addr) (us : List Value) (kw : List (Str × Value)) :
    Env0 P w K mg base (A.under (.builtin "type.__call__" ⟨.ref C :: us, kw⟩)) outer s H := ⟨by first | exact e.frames | (simpa [Around.under, Code.envs, Code.isFrame, pushEnvs] using e.frames), e.mod, e.bs, e.bsz, e.funs, e.frf, e.hok, e.bare⟩
theorem Env0.in1 {P : Program} {w : World} {K : PySem.W.Frag} {mg : Str → Option Value} {base : Heap} {A : Around} {outer : List Env} {s : Shared} {H : Hp} (e : Env0 P w K mg base A outer s H) :
    Env0 P w K mg base A.in1 outer s H := ⟨e.frames, e.mod, e.bs, e.bsz, e.funs, e.frf, e.hok, e.bare⟩
section
variable {X : Cx} {pins : List (Addr × Obj)} {σ : St} {H : Hp} {s s' : Shared}
theorem Inv.env0 (I : Inv X pins σ H s) : Env0 X.prog X.w X.K X.mg X.base X.A X.stack s H :=
  ⟨I.ok.frames, I.ok.mod, I.bs, Nat.le_trans I.ok.bsz I.sz, I.stack, I.stkFree, I.hok, I.bare⟩
theorem Inv.after {Q : VK} {u : Value} (I : Inv X pins σ H s) (h : CE X.stack X.prog X.w H s Q u s') : EP X pins σ Q u s' := by
  obtain ⟨v, H', os, bare, un, hok, r, q⟩ := h
  obtain ⟨hh, g, d, t, os'⟩ := s'
  obtain rfl : os' = s.os := os
  exact ⟨v, H', I.call (h' := hh) (g' := g) (d' := d) (t' := t) (ch := []) un hok bare (fun b z => absurd z (by simp)), r, q⟩
end
def tCall (sp : Sp) (dvs : List V) (E : XK) (t : TA) : TE := fun σ H Q => t σ H fun vs H1 => sp (vs ++ dvs) H1 Q E
def tMake (C : Addr) (sp : Sp) (dvs : List V) (E : XK) (t : TA) : TE := fun σ H Q => t σ H fun vs H1 => ∀ x dx, H1 x = none → H1 dx = none → dx ≠ x →
  sp (.ref x :: (vs ++ dvs)) (upd (upd H1 dx (.own x)) x (.ins C dx [])) (fun v H2 => v = .non ∧ Q (.ref x) H2) E
def Binds (K : PySem.W.Frag) (fd : FuncData) (ps : List Str) (ds : List Value) : Prop :=
  ∀ (s : Shared) (us : List Value), K.In s.heap → (us ++ ds).length = ps.length → BindsTo s fd ⟨us, []⟩ (ps.zip (us ++ ds))
theorem Binds.all {K : PySem.W.Frag} {fd : FuncData} {ps : List Str} (h : ∀ us : List Value, us.length = ps.length → bindArgs fd ⟨us, []⟩ = pure (ps.zip us)) : Binds K fd ps [] := fun s us _ hl => by
  rw [List.append_nil] at hl ⊢
  exact .of_eq (h us hl)
def Passes (CX : CXT) (X : Cx) (E : XK) : Prop := ∀ (pins : List (Addr × Obj)) (σ : St) (H : Hp) (s : Shared) (e : Value) (s' : Shared), Inv X pins σ H s → CX X.stack H s E e s' → X.xe e s'
section
variable {X : Cx} {CX : CXT} {k : Nat} {f C : Addr} {fd : FuncData} {ps : List Str} {sp : Sp} {dvs : List V} {ds : List Value} {E : XK} {x m : Str} {p pos apos : Pos} {e o : Expr} {es : List Expr} {ta : TE} {t : TA}
theorem run_fn {pins : List (Addr × Obj)} {σ : St} {H : Hp} {s : Shared} {Q : VK} {us : List Value} {vs : List V} (F : FnOk X.prog X.w X.K X.mg X.base CX k f fd ps sp) (hr : Room k X.A) (hb : Binds X.K fd ps ds) (hd : Vals dvs ds) (hx : Passes CX X E)
    (I : Inv X pins σ H s) (r : Vals vs us) (h : sp (vs ++ dvs) H Q E) : wpAny (model X.prog X.w) X.A (call (.ref f) us) (EP X pins σ Q) X.xe s := by
  have r2 : Vals (vs ++ dvs) (us ++ ds) := r.append hd
  have hl : (us ++ ds).length = ps.length := by rw [← r2.length]; exact F.len _ _ _ _ h
  refine wpAny_call (codeAny_mono (F.run X.A X.stack s H ⟨us, []⟩ (us ++ ds) (vs ++ dvs) Q E hr I.env0 (hb s us I.kIn hl) r2 h) fun r s' hq => ?_)
  cases r with
  | error e => exact hx pins σ H s e s' I hq
  | ok fl =>
    cases fl with
    | ret u => exact I.after hq
    | next => exact False.elim hq
    | brk => exact False.elim hq
    | cont => exact False.elim hq
theorem pe_call (F : FnOk X.prog X.w X.K X.mg X.base CX k f fd ps sp) (hr : Room k X.A) (hg : Gl X x) (hm : X.mg x = some (.ref f)) (hk : PySem.W.keepIn X.K (.ref f) = true) (hb : Binds X.K fd ps ds) (hd : Vals dvs ds) (hx : Passes CX X E)
    (ha : PA X (e :: es) t) (hdb : (x == ("__debug__" : Str)) = false := by decide) (he : starEach (e :: es) X.env = (false, eval e X.env) :: starEach es X.env := by rfl) (hpl : (backTo pos (starEach es X.env)).any (·.1) = false := by rfl) :
    PE X (.Call (.Name x p) (e :: es) [] pos) (tCall sp dvs E t) := by
  intro pins s σ H Q I h
  refine wpAny_Call_Name_kw (ld_glob I hg hm ?_ hdb)
  refine PySem.W.callWith_K (h₀ := X.base) I.ok.mod.kin hk (thn (ha pos pins s σ H _ I h) fun us s1 ⟨vs, H1, I1, r, q⟩ => ⟨I1.kIn, ?_⟩) he hpl
  exact run_fn F hr hb hd hx I1 r q
structure Mk (K : PySem.W.Frag) (C f : Addr) : Prop where
  makes : PySem.W.makesIn K C = true
  init : PySem.W.findIn K (.ref C) "__init__" = some (some (.ref f))
  fn : PySem.W.isFn K (.ref f) = true
  kp : PySem.W.keepIn K (.ref C) = true
theorem run_make {pins : List (Addr × Obj)} {σ : St} {H : Hp} {s : Shared} {Q : VK} {us : List Value} {vs : List V} (M : Mk X.K C f) (F : FnOk X.prog X.w X.K X.mg X.base CX k f fd ps sp) (hr : Room (k + 1) X.A) (hb : Binds X.K fd ps ds) (hd : Vals dvs ds)
    (hx : Passes CX X E) (I : Inv X pins σ H s) (r : Vals vs us)
    (h : ∀ x dx, H x = none → H dx = none → dx ≠ x → sp (.ref x :: (vs ++ dvs)) (upd (upd H dx (.own x)) x (.ins C dx [])) (fun v H2 => v = .non ∧ Q (.ref x) H2) E) :
    wpAny (model X.prog X.w) X.A (call (.ref C) us) (EP X pins σ Q) X.xe s := by
  have hq := h (s.heap.objs.size + 1) s.heap.objs.size (I.hok.fresh (Nat.le_succ _)) (I.hok.fresh (Nat.le_refl _)) (Nat.ne_of_lt (Nat.lt_succ_self _))
  have I2 := Inv.made (C := C) I
  have r2 : Vals (V.ref (s.heap.objs.size + 1) :: (vs ++ dvs)) (Value.ref (s.heap.objs.size + 1) :: (us ++ ds)) := .cons rfl (r.append hd)
  have hl : (Value.ref (s.heap.objs.size + 1) :: us ++ ds).length = ps.length := by
    have e := r2.length
    rw [F.len _ _ _ _ hq] at e
    exact e.symm
  refine wpAny_call (make_map (f := f) I.kIn M.makes M.init (beq_iff_eq.mp M.fn) (codeAny_mono (F.run _ X.stack _ _ ⟨Value.ref (s.heap.objs.size + 1) :: us, []⟩ (Value.ref (s.heap.objs.size + 1) :: (us ++ ds)) _ _ E (hr.make C us [])
    (I2.env0.make C us []) (hb _ (Value.ref (s.heap.objs.size + 1) :: us) I2.kIn hl) r2 hq) fun r s' hq' => ?_))
  cases r with
  | error e => exact hx pins σ _ _ e s' I2 hq'
  | ok fl =>
    cases fl with
    | ret u =>
      obtain ⟨v, H', I3, rv, ev, q3⟩ := I2.after hq'
      subst ev
      exact ⟨rv, ⟨V.ref (s.heap.objs.size + 1), H', I3, rfl, q3⟩⟩
    | next => exact False.elim hq'
    | brk => exact False.elim hq'
    | cont => exact False.elim hq'
theorem pe_make (M : Mk X.K C f) (F : FnOk X.prog X.w X.K X.mg X.base CX k f fd ps sp) (hr : Room (k + 1) X.A) (hg : Gl X x) (hm : X.mg x = some (.ref C)) (hb : Binds X.K fd ps ds) (hd : Vals dvs ds) (hx : Passes CX X E)
    (ha : PA X (e :: es) t) (hdb : (x == ("__debug__" : Str)) = false := by decide) (he : starEach (e :: es) X.env = (false, eval e X.env) :: starEach es X.env := by rfl) (hpl : (backTo pos (starEach es X.env)).any (·.1) = false := by rfl) :
    PE X (.Call (.Name x p) (e :: es) [] pos) (tMake C sp dvs E t) := by
  intro pins s σ H Q I h
  refine wpAny_Call_Name_kw (ld_glob I hg hm ?_ hdb)
  refine PySem.W.callWith_K (h₀ := X.base) I.ok.mod.kin M.kp (thn (ha pos pins s σ H _ I h) fun us s1 ⟨vs, H1, I1, r, q⟩ => ⟨I1.kIn, ?_⟩) he hpl
  exact run_make M F hr hb hd hx I1 r q
end
def PK (X : Cx) (kws : List Keyword) (t : TA) : Prop :=
  ∀ (pos : Pos) (pins : List (Addr × Obj)) (s : Shared) (σ : St) (H : Hp) (Q : List V → Hp → Prop), Inv X pins σ H s → t σ H Q → wpAny (model X.prog X.w) X.A (evalAll ((backToKw pos (keywordEach kws X.env)).map (·.2))) (AP X pins σ Q) X.xe s
section
variable {X : Cx} {CX : CXT} {k : Nat} {f C : Addr} {fd : FuncData} {ps ks : List Str} {sp : Sp} {E : XK} {x m : Str} {p pos apos kpos : Pos} {e o : Expr} {es : List Expr} {kws : List Keyword} {te ta : TE} {t tk : TA} {nm : Option Str}
theorem pk_nil : PK X [] tNil := fun _ _ _ _ H Q I h => wpAny_evalAll_nil ⟨[], H, I, .nil, h⟩
theorem pk_cons (ha : PE X e te) (hr : PK X kws t) : PK X (⟨nm, e, kpos⟩ :: kws) (tCons te t) := by
  intro pos pins s σ H Q I h
  show wpAny _ _ (evalAll ((do let v ← eval e X.env; standAt pos; pure v) :: (backToKw pos (keywordEach kws X.env)).map (·.2))) _ _ s
  refine wpAny_evalAll_cons (wpAny_bind (thn (ha pins s σ H _ I h) fun u s1 ⟨x, H1, I1, r1, q1⟩ => wpAny_bind (wpAny_standAt (wpAny_pure ?_))))
  exact thn (hr pos pins s1 σ H1 _ I1 q1) fun us s2 ⟨xs, H2, I2, r2, q2⟩ => ⟨x :: xs, H2, I2, .cons r1 r2, q2⟩
structure KBinds (K : PySem.W.Frag) (fd : FuncData) (ps ks : List Str) (g : List Value → List Value → List Value) (gV : List V → List V → List V) : Prop where
  to : ∀ (s : Shared) (us ws : List Value), K.In s.heap → (g us ws).length = ps.length → BindsTo s fd ⟨us, ks.zip ws⟩ (ps.zip (g us ws))
  rel : ∀ {vs : List V} {us : List Value} {zs : List V} {ws : List Value}, Vals vs us → Vals zs ws → Vals (gV vs zs) (g us ws)
variable {g : List Value → List Value → List Value} {gV : List V → List V → List V}
end
structure FnScope (N P : List Str) (sc : Scope) : Prop where
  kind : sc.kind = .function
  co : sc.isCoroutine = false
  gen : sc.isGenerator = false
  nd : N.Nodup
  pre : N.take P.length = P
  par : ∀ x ∈ P, sc.names.lookup x = some .local ∨ sc.names.lookup x = some .cell
  nofree : ∀ y ∈ sc.names, y.2 ≠ .free
theorem bindL_out {kindOf : Str → Option NameKind} {x : Str} : ∀ {binds : List (Str × Value)} {m : Str → Option Value}, (∀ v, (x, v) ∉ binds) → bindL kindOf binds m x = m x
  | [], _, _ => rfl
  | (n, v) :: r, m, h => by
    unfold bindL
    rw [bindL_out fun w hw => h w (List.mem_cons_of_mem _ hw)]
    split
    · have : x ≠ n := by rintro rfl; exact h v List.mem_cons_self
      simp [this]
    · rfl
theorem bindC_out {kindOf : Str → Option NameKind} {x : Str} : ∀ {binds : List (Str × Value)} {m : Str → Option Value}, (∀ v, (x, v) ∉ binds) → bindC kindOf binds m x = m x
  | [], _, _ => rfl
  | (n, v) :: r, m, h => by
    unfold bindC
    rw [bindC_out fun w hw => h w (List.mem_cons_of_mem _ hw)]
    split
    · rfl
    · have : x ≠ n := by rintro rfl; exact h v List.mem_cons_self
      simp [this]
theorem bindL_get {kindOf : Str → Option NameKind} {x : Str} {v : Value} : ∀ {P : List Str} {vs : List Value} {i : Nat} {m : Str → Option Value}, P.Nodup → P[i]? = some x → vs[i]? = some v → kindOf x = some .local →
    bindL kindOf (P.zip vs) m x = some v
  | [], _, _, _, _, h, _, _ => by simp at h
  | _ :: _, [], _, _, _, _, h, _ => by simp at h
  | p :: P, w :: vs, 0, m, nd, h1, h2, hk => by
    simp at h1 h2; subst h1; subst h2
    show bindL kindOf ((p, w) :: P.zip vs) m p = _
    unfold bindL
    rw [bindL_out fun v hv => (List.nodup_cons.mp nd).1 (List.of_mem_zip hv).1, if_pos hk]
    simp
  | p :: P, w :: vs, i + 1, m, nd, h1, h2, hk => by
    show bindL kindOf ((p, w) :: P.zip vs) m x = _
    unfold bindL
    exact bindL_get (i := i) (List.nodup_cons.mp nd).2 (by simpa using h1) (by simpa using h2) hk
theorem bindC_get {kindOf : Str → Option NameKind} {x : Str} {v : Value} : ∀ {P : List Str} {vs : List Value} {i : Nat} {m : Str → Option Value}, P.Nodup → P[i]? = some x → vs[i]? = some v → kindOf x ≠ some .local →
    bindC kindOf (P.zip vs) m x = some v
  | [], _, _, _, _, h, _, _ => by simp at h
  | _ :: _, [], _, _, _, _, h, _ => by simp at h
  | p :: P, w :: vs, 0, m, nd, h1, h2, hk => by
    simp at h1 h2; subst h1; subst h2
    show bindC kindOf ((p, w) :: P.zip vs) m p = _
    unfold bindC
    rw [bindC_out fun v hv => (List.nodup_cons.mp nd).1 (List.of_mem_zip hv).1, if_neg hk]
    simp
  | p :: P, w :: vs, i + 1, m, nd, h1, h2, hk => by
    show bindC kindOf ((p, w) :: P.zip vs) m x = _
    unfold bindC
    exact bindC_get (i := i) (List.nodup_cons.mp nd).2 (by simpa using h1) (by simpa using h2) hk
def start (N : List Str) (vs : List V) : St := vs.map some ++ List.replicate (N.length - vs.length) none
def cxOf (CX : CXT) (P : Program) (w : World) (K : PySem.W.Frag) (mg : Str → Option Value) (base : Heap) (N : List Str) (qual : Str) (scope : Scope) (f : Addr) (cd : Value) (A : Around) (outer : List Env) (s : Shared) (H : Hp) (E : XK) : Cx where
  prog := P
  w := w
  K := K
  mg := mg
  base := base
  A := A.deeper (envOfC qual scope s.heap.objs.size f cd)
  N := N
  s₀ := s
  H₀ := H
  env := envOfC qual scope s.heap.objs.size f cd
  outer := outer
  stack := envOfC qual scope s.heap.objs.size f cd :: outer
  ex := []
  calm := true
  fn := fun _ => true
  pn := []
  xe := fun e s' => wpAny (model P w) (A.deeper (envOfC qual scope s.heap.objs.size f cd)) (leaving (envOfC qual scope s.heap.objs.size f cd) e) (fun _ s'' => CX outer H s E e s'') (fun e' s'' => CX outer H s E e' s'') s'
theorem cell_has {sc : Scope} {n : Nat} {x : Str} (h : sc.names.lookup x = some .cell) : ∃ c, (cellsFrom n sc.names []).lookup x = some c := by
  have q := PySem.W.cellsFrom_some sc.names n [] (.inl h)
  exact Option.isSome_iff_exists.mp q
theorem inv_start {CX : CXT} {P : Program} {w : World} {K : PySem.W.Frag} {mg : Str → Option Value} {base : Heap} {N ps : List Str} {qual : Str} {scope : Scope} {f : Addr} {cd : Value} {A : Around} {outer : List Env} {s s1 : Shared} {H : Hp} {E : XK} {us : List Value} {vs : List V}
    (S : FnScope N ps scope) (hd : A.handled = none) (e0 : Env0 P w K mg base A outer s H) (hl : vs.length = ps.length) (r : Vals vs us)
    (x : InCallC s s.heap.objs.size (bindL (envOfC qual scope s.heap.objs.size f cd).kindOf (ps.zip us) fun _ => none) (cellsFrom (s.heap.objs.size + 1) scope.names []) (bindC (envOfC qual scope s.heap.objs.size f cd).kindOf (ps.zip us) fun _ => none) s1) :
    Inv (cxOf CX P w K mg base N qual scope f cd A outer s H E) [] (start N vs) H s1 := by
  have hpl : ps.length ≤ N.length := by have := congrArg List.length S.pre; rw [List.length_take] at this; omega
  obtain ⟨h1, tk, rfl, hk⟩ := x.done
  have noA : ∀ b : Addr, b ∉ (cxOf CX P w K mg base N qual scope f cd A outer s H E).ex := fun b z => absurd (show b ∈ ([] : List Addr) from z) (by simp)
  refine ⟨⟨e0.mod, S.kind, rfl, rfl, Nat.le_refl _, fun y z c h1 h2 => ?_, fun y hy => ?_, fun y c _ h => ?_, fun _ => hd, Around.frames_deeper e0.frames, .inr ⟨rfl, rfl⟩, fun b z => absurd z (noA b), e0.bs, e0.bsz, fun b _ _ => noA b, fun b z => absurd z (noA b), e0.funs, e0.frf⟩,
    rfl, e0.bare, Un.kept hk, ⟨_, x.toInCall.ns, fun i y v h1 h2 h3 => ?_⟩, fun y c h => ⟨_, x.cell y c h⟩, e0.hok.fresh (Nat.le_refl _), fun y c h => ?_, fun p hp => absurd (show p ∈ ([] : List (Addr × Obj)) from hp) (by simp), e0.hok.kept hk, ?_⟩
  · exact name_of_addr x.apart (PySem.mem_of_lookup h1) (PySem.mem_of_lookup h2)
  · have hy : scope.names.lookup y = some .cell ∨ scope.names.lookup y = some .free := hy
    rcases hy with hy | hy
    · exact cell_has hy
    · exact absurd rfl (S.nofree _ (PySem.mem_of_lookup hy))
  · exact Nat.le_of_lt (x.above y c (PySem.mem_of_lookup h))
  · have hi : i < vs.length := by
      unfold start at h2
      by_cases hi : i < vs.length
      · exact hi
      · rw [List.getElem?_append_right (by simpa using hi)] at h2
        rw [List.getElem?_replicate] at h2
        split at h2 <;> cases h2
    have ha : vs[i]? = some v := by
      unfold start at h2
      rw [List.getElem?_append_left (by simpa using hi), List.getElem?_map] at h2
      cases e : vs[i]? with
      | none => rw [e] at h2; cases h2
      | some a => rw [e] at h2; cases h2; rfl
    obtain ⟨u, hu, rv⟩ := r.get ha
    have hp : ps[i]? = some y := by
      rw [← S.pre, List.getElem?_take_of_lt (by omega)]; exact h1
    have ndP : ps.Nodup := by rw [← S.pre]; exact S.nd.sublist (List.take_sublist _ _)
    refine ⟨u, rv, ?_⟩
    rcases S.par y (List.mem_of_getElem? hp) with k | k
    · exact .inl ⟨k, bindL_get ndP hp hu k⟩
    · obtain ⟨c, e⟩ := cell_has (n := s.heap.objs.size + 1) k
      refine .inr ⟨.inl k, c, e, ?_⟩
      have q := x.cell y c e
      rw [bindC_get ndP hp hu (by show scope.names.lookup y ≠ _; rw [k]; decide)] at q
      exact q
  · exact e0.hok.fresh (Nat.le_of_lt (x.above y c (PySem.mem_of_lookup h)))
  · unfold start
    show _ = N.length
    rw [List.length_append, List.length_map, List.length_replicate]
    omega
theorem fn_of {CX : CXT} {P : Program} {w : World} {K : PySem.W.Frag} {mg : Str → Option Value} {base : Heap} {k : Nat} {f : Addr} {name qual : Str} {params : Arguments} {body : List Stmt} {scope : Scope} {dV kV doc pm cdv ct oc : Value} {an od : Option Addr}
    {osl : Array (Option Value)} {N ps : List Str} {sp : Sp} (lk : K.lookup f = some ⟨oc, od, .func (PySem.W.fnOf name qual params body scope dV kV doc pm an cdv ct), osl⟩) (hcd : PySem.W.codeIn K cdv qual = true) (S : FnScope N ps scope)
    (len : ∀ vs H Q E, sp vs H Q E → vs.length = ps.length)
    (hbody : ∀ (A : Around) (outer : List Env) (s : Shared) (H : Hp) (vs : List V) (Q : VK) (E : XK), Room k (A.deeper (envOfC qual scope s.heap.objs.size f cdv)) → sp vs H Q E →
      ∃ t, PSs (cxOf CX P w K mg base N qual scope f cdv A outer s H E) body t ∧ t { nx := fun _ H' => Q .non H', rt := Q } (start N vs) H) :
    FnOk P w K mg base CX (k + 1) f (PySem.W.fnOf name qual params body scope dV kV doc pm an cdv ct) ps sp := by
  refine ⟨len, fun A outer s H args us vs Q E hr e0 hb r hsp => ?_⟩
  have hl := len _ _ _ _ hsp
  have KX : K.In s.heap := e0.mod.kin.keeps fun b o e => (e0.bs b o e).1
  have lim : s.heap.NoLimit := e0.mod.nolimit.keeps fun b o e => (e0.bs b o e).1
  have hkind : ∀ y ∈ ps.zip us, scope.names.lookup y.1 = some .local ∨ (scope.names.lookup y.1 = some .cell ∧ ((cellsFrom (s.heap.objs.size + 1) scope.names []).lookup y.1).isSome = true) := fun ⟨n, v⟩ hy => by
    rcases S.par n (List.of_mem_zip hy).1 with q | q
    · exact .inl q
    · exact .inr ⟨q, PySem.W.cellsFrom_some _ _ _ (.inl q)⟩
  refine codeAny_call_function hr.depth (KX _ _ lk) rfl S.co S.gen rfl (PySem.W.codeRec_of KX hcd) (hb _ _ _ _ ?_)
  refine wpAny_newFunctionEnv_cells S.kind hkind fun env he s1 x => ?_
  subst he
  refine ⟨lim.keeps x.toInCall.keep, codeAny_func ?_⟩
  obtain ⟨t, ht, hq⟩ := hbody A outer s H vs Q E (hr.deeper _) hsp
  have I : Inv (cxOf CX P w K mg base N qual scope f cdv A outer s H E) [] (start N vs) H s1 := inv_start S hr.hd e0 hl r x
  refine wpAny_mono (ht [] s1 (start N vs) H _ I hq) (fun fl s' hs => ?_) fun e s' hs => hs
  have fin : ∀ {σ' : St} {H' : Hp} {v : V} {u : Value}, Inv (cxOf CX P w K mg base N qual scope f cdv A outer s H E) [] σ' H' s' → RelV v u → Q v H' → CE outer P w H s Q u s' :=
    fun {σ' H' v u} J rv q => ⟨v, H', J.os, J.bare, J.base, J.hok, rv, q⟩
  cases fl with
  | ret u =>
    obtain ⟨v, σ', H', J, rv, q⟩ := hs
    exact fin J rv q
  | next =>
    obtain ⟨σ', H', J, q⟩ := hs
    exact fin (v := V.non) (u := Value.none) J rfl q
  | brk =>
    obtain ⟨_, _, _, q⟩ := hs
    exact False.elim q
  | cont =>
    obtain ⟨_, _, _, q⟩ := hs
    exact False.elim q
end L2
namespace L2
open PySem PySem.Spec PyProof.Rows
section
variable {X : Cx} {x : Str} {p pos : Pos} {e : Expr} {es : List Expr} {t : TA} {id T : String} {r : List V → Hp → VK → Prop}
def tCB (r : List V → Hp → VK → Prop) (t : TA) : TE := fun σ H Q => t σ H fun vs H1 => r vs H1 Q
theorem pe_callB (hc : CallR X (.builtin id) r) (hg : Gl X x) (hm : X.mg x = none) (hv : bootBuiltins x = some (.builtin id)) (ha : PA X (e :: es) t) (hn : x ≠ "__name__" := by decide) (hdb : (x == ("__debug__" : Str)) = false := by decide)
    (he : starEach (e :: es) X.env = (false, eval e X.env) :: starEach es X.env := by rfl) (hpl : (backTo pos (starEach es X.env)).any (·.1) = false := by rfl) : PE X (.Call (.Name x p) (e :: es) [] pos) (tCB r t) := by
  intro pins s σ H Q I h
  refine wpAny_Call_Name_kw (ld_blt I hg hm hv ?_ hn hdb)
  exact PyProof.Rows.callWith_builtin1 (thn (ha pos pins s σ H _ I h) fun us s1 ⟨vs, H1, I1, r1, q1⟩ => hc pins s1 σ H1 vs us Q I1 r1 q1) he hpl
theorem pe_callTy (hc : CallR X (.type T) r) (hg : Gl X x) (hm : X.mg x = none) (hv : bootBuiltins x = some (.type T)) (ha : PA X (e :: es) t) (hn : x ≠ "__name__" := by decide) (hdb : (x == ("__debug__" : Str)) = false := by decide)
    (he : starEach (e :: es) X.env = (false, eval e X.env) :: starEach es X.env := by rfl) (hpl : (backTo pos (starEach es X.env)).any (·.1) = false := by rfl) : PE X (.Call (.Name x p) (e :: es) [] pos) (tCB r t) := by
  intro pins s σ H Q I h
  refine wpAny_Call_Name_kw (ld_blt I hg hm hv ?_ hn hdb)
  exact PyProof.Rows.callWith_type1 (thn (ha pos pins s σ H _ I h) fun us s1 ⟨vs, H1, I1, r1, q1⟩ => hc pins s1 σ H1 vs us Q I1 r1 q1) he hpl
end
end L2
namespace HT
open PySem PyProof.Rows
section
open PySem.SeqAt
open PySem.AutoSeq1 (wpAny_loadPart')
open PySem.MeetsSeq PySem.MeetsSeq2 PySem.MeetsSeq3
end
section
variable {prog : Program} {w : World} {A : Around} {E : Value → Shared → Prop} {s : Shared}
def sIx (n d : Nat) : Option Int → Nat
  | none => d
  | some v => if v < 0 then (v + (n : Int)).toNat else min v.toNat n
end
end HT
namespace L2
open PySem PySem.Spec PyProof.Rows
abbrev TO := St → Hp → (Option Int → Hp → Prop) → Prop
def PO (X : Cx) (e : Option Expr) (t : TO) : Prop :=
  ∀ (pins : List (Addr × Obj)) (s : Shared) (σ : St) (H : Hp) (Q : Option Int → Hp → Prop), Inv X pins σ H s → t σ H Q →
    wpAny (model X.prog X.w) X.A (evalPart e X.env) (fun u s' => ∃ o H', Inv X pins σ H' s' ∧ IsPart u o ∧ Q o H') X.xe s
def tNoPart : TO := fun _ H Q => Q none H
def tPart (t : TE) : TO := fun σ H Q => t σ H fun x H1 => ∃ i, x = .int i ∧ Q (some i) H1
section
variable {X : Cx} {e : Expr} {te : TE} {lo hi : Option Expr} {tl th : TO} {pos p2 : Pos}
theorem po_none : PO X none tNoPart := by
  intro pins s σ H Q I h
  rw [evalPart_none]
  exact wpAny_pure ⟨none, H, I, .none, h⟩
theorem po_some (h : PE X e te) : PO X (some e) (tPart te) := by
  intro pins s σ H Q I hw
  rw [evalPart_some]
  refine thn (h pins s σ H _ I hw) fun u s1 ⟨x, H1, I1, r1, q1⟩ => ?_
  obtain ⟨i, rfl, q⟩ := q1
  obtain ⟨t, rfl⟩ := r1
  exact ⟨some i, H1, I1, .int i t, q⟩
def SlR (X : Cx) (r : V → Option Int → Option Int → Hp → VK → Prop) : Prop :=
  ∀ (pins : List (Addr × Obj)) (s : Shared) (σ : St) (H : Hp) (x : V) (v vl vu : Value) (lo hi : Option Int) (sl : Addr) (Q : VK), Inv X pins σ H s → RelV x v → s.heap.IsSliceOf sl vl vu .none → IsPart vl lo → IsPart vu hi → r x lo hi H Q →
    ∃ T id, typeLookup (.type T) "__getitem__" = pure (some (.builtin id)) ∧ s.TypeIs v T ∧ wpAny (model X.prog X.w) X.A (getItem v (.ref sl)) (EP X pins σ Q) X.xe s
theorem SlR.or {r r' : V → Option Int → Option Int → Hp → VK → Prop} (h : SlR X r) (h' : SlR X r') : SlR X (fun x lo hi H Q => r x lo hi H Q ∨ r' x lo hi H Q) := by
  intro pins s σ H x v vl vu lo hi sl Q I rx hs pl pu q
  rcases q with q | q
  · exact h pins s σ H x v vl vu lo hi sl Q I rx hs pl pu q
  · exact h' pins s σ H x v vl vu lo hi sl Q I rx hs pl pu q
def tSl (r : V → Option Int → Option Int → Hp → VK → Prop) (te : TE) (tl th : TO) : TE := fun σ H Q => te σ H fun x H1 => tl σ H1 fun l H2 => th σ H2 fun u H3 => r x l u H3 Q
theorem pe_slice {r : V → Option Int → Option Int → Hp → VK → Prop} (hr : SlR X r) (he : PE X e te) (hl : PO X lo tl) (hu : PO X hi th) : PE X (.Subscript e (.Slice lo hi none p2) pos) (tSl r te tl th) := by
  intro pins s σ H Q I h
  refine Subscript_ (thn (he pins s σ H _ I h) fun v s1 ⟨x, H1, I1, r1, q1⟩ => ?_)
  refine wpAny_Slice (thn (hl pins s1 σ H1 _ I1 q1) fun vl s2 ⟨l, H2, I2, pl, q2⟩ => thn (hu pins s2 σ H2 _ I2 q2) fun vu s3 ⟨u, H3, I3, pu, q3⟩ => ?_)
  rw [evalPart_none]
  refine wpAny_pure ?_
  have I4 : Inv X pins σ H3 { s3 with heap := s3.heap.push { cls := .type "slice", data := .fields #[vl, vu, .none] } } := I3.kept (t' := s3.toks) fun b ob q => Heap.get?_push_of_some _ q
  obtain ⟨T, id, hT, ht, hg⟩ := hr pins { s3 with heap := s3.heap.push { cls := .type "slice", data := .fields #[vl, vu, .none] } } σ H3 x v vl vu l u s3.heap.objs.size Q I4 r1 (Heap.IsSliceOf.new ..) pl pu q3
  show wpAny (model X.prog X.w) X.A (subscriptTail e (.Slice lo hi none p2) v (.ref s3.heap.objs.size)) (EP X pins σ Q) X.xe { s3 with heap := s3.heap.push { cls := .type "slice", data := .fields #[vl, vu, .none] } }
  exact tail_any (ops := [.ref s3.heap.objs.size, v]) ht hT hg (by with_unfolding_all rfl)
def cutV (xs : List V) (lo hi : Option Int) : List V := (xs.drop (HT.sIx xs.length 0 lo)).take (HT.sIx xs.length xs.length hi - HT.sIx xs.length 0 lo)
theorem cutV_length (xs : List V) (lo hi : Option Int) : (cutV xs lo hi).length ≤ xs.length := by
  unfold cutV
  rw [List.length_take, List.length_drop]
  omega
end
end L2
namespace L2
open PySem PySem.Spec PyProof.Rows
def ixN (n : Nat) (i : Int) : Option Nat := if 0 ≤ i then (if i < n then some i.toNat else none) else if -(n : Int) ≤ i then some (i + n).toNat else none
def atI {α : Type} (xs : List α) (i : Int) : Option α := (ixN xs.length i).bind fun j => xs[j]?
theorem ixN_seq {n : Nat} {i : Int} {j : Nat} (h : ixN n i = some j) : seqIndex? i n = some j ∧ j < n ∧ -(n : Int) ≤ i ∧ i < n := by
  unfold ixN at h
  by_cases h0 : 0 ≤ i
  · rw [if_pos h0] at h
    by_cases h1 : i < n
    · rw [if_pos h1] at h
      have e : i.toNat = j := Option.some.inj h
      exact ⟨by rw [seqIndex_of h0 h1, e], by omega, by omega, h1⟩
    · rw [if_neg h1] at h; cases h
  · rw [if_neg h0] at h
    by_cases h1 : -(n : Int) ≤ i
    · rw [if_pos h1] at h
      have e : (i + n).toNat = j := Option.some.inj h
      exact ⟨by rw [seqIndex_neg (by omega) h1, e], by omega, h1, by omega⟩
    · rw [if_neg h1] at h; cases h
theorem atI_get {α : Type} {xs : List α} {i : Int} {v : α} (h : atI xs i = some v) : ∃ j, seqIndex? i xs.length = some j ∧ xs[j]? = some v ∧ j < xs.length ∧ -(xs.length : Int) ≤ i ∧ i < xs.length := by
  unfold atI at h
  cases e : ixN xs.length i with
  | none => rw [e] at h; cases h
  | some j =>
    rw [e] at h
    obtain ⟨h1, h2, h3, h4⟩ := ixN_seq e
    exact ⟨j, h1, h, h2, h3, h4⟩
theorem atI_nat {α : Type} {xs : List α} {j : Nat} {v : α} (h : xs[j]? = some v) : atI xs (j : Int) = some v := by
  have hj : j < xs.length := (List.getElem?_eq_some_iff.mp h).1
  have e : ixN xs.length (j : Int) = some j := by
    unfold ixN
    rw [if_pos (by omega), if_pos (by omega)]; simp
  unfold atI; rw [e]; exact h
def PlainIx (b : Expr) : Prop := ∀ o i, subscripted b false o i = operate [o, i] (getItem o i)
def IxR (X : Cx) (r : R2) : Prop :=
  ∀ (value slice : Expr) (pins : List (Addr × Obj)) (s : Shared) (σ : St) (H : Hp) (x y : V) (v u : Value) (Q : VK), Inv X pins σ H s → RelV x v → RelV y u → r x y H Q →
    subscripted slice false v u = operate [v, u] (getItem v u) → wpAny (model X.prog X.w) X.A (subscriptTail value slice v u) (EP X pins σ Q) X.xe s
def MtR (X : Cx) (id : String) (r : V → List V → Hp → VK → Prop) : Prop :=
  ∀ (pins : List (Addr × Obj)) (s : Shared) (σ : St) (H : Hp) (x : V) (xs : List V) (v : Value) (us : List Value) (Q : VK), Inv X pins σ H s → RelV x v → Vals xs us → r x xs H Q →
    wpAny (model X.prog X.w) X.A (call (.builtin id) (v :: us)) (EP X pins σ Q) X.xe s
section
variable {X : Cx} {a b : Expr} {ta tb : TE} {pos : Pos}
theorem IxR.or {r r' : R2} (h : IxR X r) (h' : IxR X r') : IxR X (fun x y H Q => r x y H Q ∨ r' x y H Q) := by
  intro value slice pins s σ H x y v u Q I rx ry q hs
  rcases q with q | q
  · exact h value slice pins s σ H x y v u Q I rx ry q hs
  · exact h' value slice pins s σ H x y v u Q I rx ry q hs
theorem MtR.or {id : String} {r r' : V → List V → Hp → VK → Prop} (h : MtR X id r) (h' : MtR X id r') : MtR X id (fun x xs H Q => r x xs H Q ∨ r' x xs H Q) := by
  intro pins s σ H x xs v us Q I rx rs q
  rcases q with q | q
  · exact h pins s σ H x xs v us Q I rx rs q
  · exact h' pins s σ H x xs v us Q I rx rs q
theorem pe_ix {r : R2} (hr : IxR X r) (ha : PE X a ta) (hb : PE X b tb) (hs : PlainIx b) : PE X (.Subscript a b pos) (tOp r ta tb) := by
  intro pins s σ H Q I h
  exact Subscript_ (binT ha hb I h fun v u s2 x y H2 I2 rx ry q => hr a b pins s2 σ H2 x y v u Q I2 rx ry q (hs _ _))
def rIxL (K : PySem.W.Frag) : R2 := fun x y H Q => ∃ p xs i v, x = .ref p ∧ y = .int i ∧ SqL K H p xs ∧ atI xs i = some v ∧ Q v H
def rIxS : R2 := fun x y H Q => ∃ z i c, x = .str z ∧ y = .int i ∧ z.length ≤ sizeLine ∧ atI z.cps.toList i = some c ∧ Q (.str ⟨#[c]⟩) H
theorem ix_list : IxR X (rIxL X.K) := by
  intro value slice pins s σ H x y v u Q I rx ry h hs
  obtain ⟨p, xs, i, z, rfl, rfl, hq, he, q⟩ := h
  cases rx
  obtain ⟨t, rfl⟩ := ry
  obtain ⟨its, r, pl, hz⟩ := I.list hq
  obtain ⟨j, h1, h2, h3, h4, h5⟩ := atI_get he
  obtain ⟨w, ew, rw'⟩ := r.get h2
  have hl := r.length
  have hn := line63
  have fin : EP X pins σ Q w s := ⟨z, H, I, rw', q⟩
  by_cases h0 : 0 ≤ i
  · have hj : i.toNat = j := by
      rw [seqIndex_of h0 h5] at h1
      exact Option.some.inj h1
    exact item_listR pl.isList h0 (by omega) (by rw [hj]; simpa using ew) fin hs
  · have hj : (i + (its.toArray.size : Int)).toNat = j := by
      rw [seqIndex_neg (by omega) h4] at h1
      rw [List.size_toArray, ← hl]
      exact Option.some.inj h1
    exact subscriptTail_builtinR (x := w) pl.isList.typeIs slot_list_getitem.lookup
      (wpAny_getItem_list_neg (Q := fun r s' => r = w ∧ EP X pins σ Q r s') pl.isList (by omega) (by rw [List.size_toArray] <;> omega) (by omega) (by rw [hj]; simpa using ew) ⟨rfl, fin⟩) hs
theorem ix_str : IxR X rIxS := by
  intro value slice pins s σ H x y v u Q I rx ry h hs
  obtain ⟨z, i, c, rfl, rfl, hz, he, q⟩ := h
  obtain ⟨t, rfl⟩ := rx
  obtain ⟨t', rfl⟩ := ry
  obtain ⟨j, h1, h2, h3, h4, h5⟩ := atI_get he
  have hl : z.cps.toList.length = z.length := by simp [Str.length]
  rw [hl] at h1 h4 h5
  have hn := line63
  exact tail_any (typeIs_str s z t) slot_str_getitem.lookup (getItem_str (c := c) (by
    have e1 : decide (i < -(2 ^ 63 : Int)) = false := decide_eq_false (by omega)
    have e2 : decide (i ≥ 2 ^ 63) = false := decide_eq_false (by omega)
    rw [e1, e2, Bool.or_false]) (by rw [h1]; simpa using h2) ⟨.str ⟨#[c]⟩, H, I.tok _, ⟨_, rfl⟩, q⟩) hs
theorem mapSeq_set (its : List Value) (n j : Nat) (u : Value) : Obj.mapSeq (·.setIfInBounds j u) { cls := .type "list", data := .seq its.toArray n } = { cls := .type "list", data := .seq (its.set j u).toArray n } := by
  simp [Obj.mapSeq]
theorem Inv.lst {pins : List (Addr × Obj)} {σ : St} {H : Hp} {s : Shared} {p : Addr} {xs : List V} (I : Inv X pins σ H s) (h : H p = some (.lst xs)) :
    ∃ (its : List Value) (n : Nat), Vals xs its ∧ s.heap.get? p = some { cls := .type "list", data := .seq its.toArray n } ∧ xs.length ≤ sizeLine := by
  obtain ⟨z, its, n, r, e⟩ := I.hok p _ h
  exact ⟨its, n, r, e, z⟩
theorem Inv.lstUpd {pins : List (Addr × Obj)} {σ : St} {H : Hp} {s : Shared} {p : Addr} {xs ys : List V} {its its' : List Value} {n n' : Nat} {f : Obj → Obj} (I : Inv X pins σ H s) (h : H p = some (.lst xs))
    (ho : s.heap.get? p = some { cls := .type "list", data := .seq its.toArray n }) (hf : f { cls := .type "list", data := .seq its.toArray n } = { cls := .type "list", data := .seq its'.toArray n' }) (r : Vals ys its') (hz : ys.length ≤ sizeLine) (t : Nat) :
    Inv X pins σ (upd H p (.lst ys)) { s with heap := s.heap.update p f, toks := t } := by
  have e : (s.heap.update p f).get? p = some { cls := .type "list", data := .seq its'.toArray n' } := by
    rw [Heap.get?_update_self f ho (by rw [hf] <;> rfl), hf]
  refine I.write (x := p) (e := p) (by rw [h]; trivial) (.inl rfl) (fun b u hb q => (Heap.get?_update_other _ _ (Ne.symm hb)).trans q) ⟨_, e⟩ ?_
  exact ⟨hz, its', n', r, e⟩
def rSetL : V → V → V → Hp → (Hp → Prop) → Prop := fun o i v H Q => ∃ p xs k j, o = .ref p ∧ i = .int k ∧ H p = some (.lst xs) ∧ ixN xs.length k = some j ∧ Q (upd H p (.lst (xs.set j v)))
theorem set_list : PSet X rSetL := by
  intro pins s σ H o i v ov iv u Q I ro ri rv h
  obtain ⟨p, xs, k, j, rfl, rfl, hp, hj, q⟩ := h
  cases ro
  obtain ⟨t, rfl⟩ := ri
  obtain ⟨its, n, r, ho, hz⟩ := I.lst hp
  obtain ⟨h1, h2, h3, h4⟩ := ixN_seq hj
  have hl := r.length
  have hn := line63
  have I' : Inv X pins σ (upd H p (.lst (xs.set j v))) { s with heap := s.heap.update p (Obj.mapSeq (·.setIfInBounds j u)) } :=
    I.lstUpd hp ho (mapSeq_set its n j u) (r.set rv j) (by rw [List.length_set]; exact hz) s.toks
  by_cases h0 : 0 ≤ k
  · have hk : k.toNat = j := by
      rw [seqIndex_of h0 h4] at h1
      exact Option.some.inj h1
    exact PySem.W.ki_setAt ho h0 (by omega) (by rw [List.size_toArray, ← hl]; exact h4) (by rw [hk]; exact ⟨_, I', q⟩)
  · have hk : (k + (its.toArray.size : Int)).toNat = j := by
      rw [seqIndex_neg (by omega) h3] at h1
      rw [List.size_toArray, ← hl]
      exact Option.some.inj h1
    exact PySem.W.ki_setBack ho (by omega) (by rw [List.size_toArray, ← hl]; exact h3) (by omega) (by rw [hk]; exact ⟨_, I', q⟩)
theorem slice_bounds (lo hi : Option Int) (n : Nat) : (sliceBounds lo hi none n).1 = ((HT.sIx n 0 lo : Nat) : Int) ∧ (sliceBounds lo hi none n).2.1 = ((HT.sIx n n hi : Nat) : Int) ∧ (sliceBounds lo hi none n).2.2 = 1 := by
  refine ⟨?_, ?_, rfl⟩
  · cases lo with
    | none => simp [sliceBounds, HT.sIx]
    | some i =>
      simp only [sliceBounds, HT.sIx, Option.getD_none, show (1 : Int) > 0 by decide, if_true]
      by_cases h : i < 0
      · simp only [h, if_true] <;> omega
      · simp only [h, if_false] <;> omega
  · cases hi with
    | none => simp [sliceBounds, HT.sIx]
    | some i =>
      simp only [sliceBounds, HT.sIx, Option.getD_none, show (1 : Int) > 0 by decide, if_true]
      by_cases h : i < 0
      · simp only [h, if_true] <;> omega
      · simp only [h, if_false] <;> omega
theorem slicePick_cut (its : List Value) (lo hi : Option Int) : slicePick its.toArray lo hi none = ((its.drop (HT.sIx its.length 0 lo)).take (HT.sIx its.length its.length hi - HT.sIx its.length 0 lo)).toArray := by
  obtain ⟨h1, h2, h3⟩ := slice_bounds lo hi its.toArray.size
  unfold slicePick
  rw [h1, h2, h3]
  simp only [sliceRange_one, pick_run, List.size_toArray] <;> rfl
def rSlL (K : PySem.W.Frag) : V → Option Int → Option Int → Hp → VK → Prop := fun x lo hi H Q => ∃ a xs, x = .ref a ∧ SqL K H a xs ∧ ∀ p, H p = none → Q (.ref p) (upd H p (.lst (cutV xs lo hi)))
theorem sl_list : SlR X (rSlL X.K) := by
  intro pins s σ H x v vl vu lo hi sl Q I rx hs pl pu h
  obtain ⟨a, xs, rfl, hx, q⟩ := h
  cases rx
  obtain ⟨its, r, ht, hz⟩ := I.list hx
  have hlen := r.length
  refine ⟨"list", _, slot_list_getitem.lookup, ht.isList.typeIs, ?_⟩
  refine wpAny_getItem_list_slice ht.isList hs pl pu .none (by simp) ?_ (by rw [List.size_toArray] <;> omega)
  rw [slicePick_cut, ← hlen]
  refine ⟨.ref s.heap.objs.size, _, I.laid (t' := s.toks) (o := .lst (cutV xs lo hi)) (fun b ob q => Heap.get?_push_of_some _ q) (Nat.le_refl _) ?_, rfl, q _ (I.hok.fresh (Nat.le_refl _))⟩
  exact ⟨Nat.le_trans (cutV_length xs lo hi) hz, _, 0, (r.drop (HT.sIx xs.length 0 lo)).take (HT.sIx xs.length xs.length hi - HT.sIx xs.length 0 lo), Heap.get?_push_size _ rfl⟩
theorem call_len_str : CallR X (.builtin "len") (fun xs H Q => ∃ z, xs = [.str z] ∧ z.length ≤ sizeLine ∧ Q (.int z.length) H) := by
  intro pins s σ H xs us Q I r h
  obtain ⟨z, rfl, hz, q⟩ := h
  obtain ⟨u, rfl, t, rfl⟩ := vals1 r
  have hn := line63
  exact len_str (by omega) ⟨.int z.length, H, I.tok _, ⟨_, rfl⟩, q⟩
theorem CallR.or {f : Value} {r r' : List V → Hp → VK → Prop} (h : CallR X f r) (h' : CallR X f r') : CallR X f (fun xs H Q => r xs H Q ∨ r' xs H Q) := by
  intro pins s σ H xs us Q I rs q
  rcases q with q | q
  · exact h pins s σ H xs us Q I rs q
  · exact h' pins s σ H xs us Q I rs q
def tyV (K : PySem.W.Frag) (T : String) (x : V) (H : Hp) : Prop := match x with
  | .str _ => T = "str"
  | .int _ => T = "int"
  | .ref p => (T = "list" ∧ ∃ xs, SqL K H p xs) ∨ (T = "tuple" ∧ ∃ o, K.lookup p = some o ∧ o.cls = .type "tuple" ∧ o.dict = none) ∨
      (T = "dict" ∧ ((∃ kvs, H p = some (.dK kvs)) ∨ ∃ kvs, H p = some (.dT kvs))) ∨ (T = "set" ∧ ∃ S n, H p = some (.set S n))
  | _ => False
theorem tyV_is {pins : List (Addr × Obj)} {σ : St} {H : Hp} {s : Shared} {T : String} {x : V} {v : Value} (I : Inv X pins σ H s) (r : RelV x v) (ty : tyV X.K T x H) :
    s.TypeIs v T ∧ ∀ a, v = .ref a → ∃ ob, s.heap.get? a = some ob ∧ ob.dict = none := by
  cases x with
  | str z =>
    obtain ⟨t, rfl⟩ := r
    cases (show T = "str" from ty)
    exact ⟨typeIs_str s z t, fun _ e => nomatch e⟩
  | int i =>
    obtain ⟨t, rfl⟩ := r
    cases (show T = "int" from ty)
    exact ⟨typeIs_int s i t, fun _ e => nomatch e⟩
  | ref p =>
    cases r
    rcases ty with ⟨rfl, xs, hq⟩ | ⟨rfl, o, hk, hc, hd⟩ | ⟨rfl, hk⟩ | ⟨rfl, S, n, hk⟩
    · obtain ⟨its, _, pl, _⟩ := I.list hq
      refine ⟨pl.isList.typeIs, fun a e => ?_⟩
      cases e
      obtain ⟨o, n, e, c, hd, _⟩ := pl
      exact ⟨o, e, hd⟩
    · refine ⟨⟨o, I.kIn p o hk, hc⟩, fun a e => ?_⟩
      cases e
      exact ⟨o, I.kIn _ o hk, hd⟩
    · have z : ∃ o, s.heap.get? p = some o ∧ o.ExactDict := by
        rcases hk with ⟨kvs, hk⟩ | ⟨kvs, hk⟩
        · obtain ⟨_, _, _, _, o, _, _, e, ex, _⟩ := I.hok p _ hk
          exact ⟨o, e, ex⟩
        · obtain ⟨_, _, _, _, o, _, _, e, ex, _⟩ := I.hok p _ hk
          exact ⟨o, e, ex⟩
      obtain ⟨o, e, ex⟩ := z
      refine ⟨⟨o, e, ex.1⟩, fun a e2 => ?_⟩
      cases e2
      exact ⟨o, e, ex.2.1⟩
    · obtain ⟨o, _, _, _, e, ex, _⟩ := I.hok p _ hk
      refine ⟨⟨o, e, ex.1⟩, fun a e2 => ?_⟩
      cases e2
      exact ⟨o, e, ex.2.1⟩
  | _ => exact False.elim ty
def tBM0 (K : PySem.W.Frag) (T : String) (r : V → List V → Hp → VK → Prop) (to : TE) : TE := fun σ H Q => to σ H fun x H1 => tyV K T x H1 ∧ r x [] H1 Q
def tBM (K : PySem.W.Frag) (T : String) (r : V → List V → Hp → VK → Prop) (to : TE) (t : TA) : TE := fun σ H Q => to σ H fun x H1 => tyV K T x H1 ∧ t σ H1 fun xs H2 => r x xs H2 Q
variable {o e : Expr} {es : List Expr} {to : TE} {t : TA} {name : Str} {apos cpos : Pos} {T id : String} {r : V → List V → Hp → VK → Prop}
theorem pe_bm (pa : PlainAttrs T) (slot : Slot T name id) (hty : typeOf (.builtin id) = pure (.type "method_descriptor")) (hm : MtR X id r) (ho : PE X o to) (ha : PA X (e :: es) t)
    (hbase : attributeBase o name X.env (eval o X.env) = eval o X.env := by rfl)
    (hfew : ((backTo cpos (starEach (e :: es) X.env)).all (fun x => !x.1) && (backToKw cpos (keywordEach [] X.env)).all (fun x => x.1.isSome)
      && decide ((e :: es).length + ([] : List Keyword).length + (if ([] : List Keyword).isEmpty then 0 else 1) < 30)) = true := by rfl)
    (hline : (apos.endLine == cpos.line) = true := by rfl) (hs : starEach (e :: es) X.env = (false, eval e X.env) :: starEach es X.env := by rfl) (hplain : (backTo cpos (starEach es X.env)).any (·.1) = false := by rfl) :
    PE X (.Call (.Attribute o name apos) (e :: es) [] cpos) (tBM X.K T r to t) := by
  intro pins s σ H Q I h
  refine wpAny_Call_method_late hbase hfew hline rfl (thn (ho pins s σ H _ I h) fun v s1 ⟨x, H1, I1, r1, ty, q1⟩ => ?_)
  obtain ⟨h1, h2⟩ := tyV_is I1 r1 ty
  refine ⟨T, id, pa, slot, hty, h1, h2, ?_⟩
  have hA := ha cpos pins s1 σ H1 _ I1 q1
  rw [hs] at hA ⊢
  refine Calls.callWith_builtin (by show (false || (backTo cpos (starEach es X.env)).any (·.1)) = false; rw [hplain] <;> rfl) (Calls.evalArgs_plain ?_)
  exact thn hA fun us s2 ⟨vs, H2, I2, r2, q2⟩ => hm pins s2 σ H2 x vs v us Q I2 r1 r2 q2
/- xs.append(e), list.index on a module's tuple .. are MtR facts of 06m -/
end
end L2
namespace L2
open PySem PySem.Spec PyProof.Rows
def MtM (X : Cx) (id : String) (r : V → List V → Hp → VK → Prop) : Prop :=
  ∀ (pins : List (Addr × Obj)) (s : Shared) (σ : St) (H : Hp) (x : V) (xs : List V) (v : Value) (us : List Value) (Q : VK), Inv X pins σ H s → RelV x v → Vals xs us → r x xs H Q →
    wpAny (model X.prog X.w) X.A (call (.builtin id) (v :: us)) (EP X pins σ Q) X.xe s
theorem Vals.one : ∀ {x : V} {us : List Value}, Vals [x] us → ∃ u, us = [u] ∧ RelV x u
  | _, _, .cons r .nil => ⟨_, rfl, r⟩
theorem Vals.two : ∀ {x y : V} {us : List Value}, Vals [x, y] us → ∃ u v, us = [u, v] ∧ RelV x u ∧ RelV y v
  | _, _, _, .cons r (.cons q .nil) => ⟨_, _, rfl, r, q⟩
theorem Vals.zero : ∀ {us : List Value}, Vals [] us → us = []
  | _, .nil => rfl
section
variable {X : Cx} {pins : List (Addr × Obj)} {σ : St} {H : Hp} {s : Shared} {l b : Addr} {xs ys zs : List V}
theorem Inv.lset {its its' : List Value} {n : Nat} {f : Array Value → Array Value} {t' : Nat} (I : Inv X pins σ H s) (hH : H l = some (.lst xs))
    (e : s.heap.get? l = some { cls := .type "list", data := .seq its.toArray n }) (hf : f its.toArray = its'.toArray) (hv : Vals ys its') (hz : ys.length ≤ sizeLine) :
    Inv X pins σ (upd H l (.lst ys)) { s with heap := s.heap.update l (Obj.mapSeq f), toks := t' } := by
  have q := PySem.IsL.update e f
  rw [hf] at q
  refine I.write (x := l) (e := l) (by rw [hH]; exact trivial) (.inl rfl) (fun b' u hb hu => (Heap.get?_update_other s.heap (Obj.mapSeq f) (Ne.symm hb)).trans hu) ⟨_, q⟩ ?_
  exact ⟨hz, its', _, hv, q⟩
theorem Inv.lnew {its : List Value} {t' : Nat} (I : Inv X pins σ H s) (hv : Vals ys its) (hz : ys.length ≤ sizeLine) :
    Inv X pins σ (upd H s.heap.objs.size (.lst ys)) { s with heap := s.heap.push { cls := .type "list", data := .seq its.toArray }, toks := t' } :=
  I.laid (fun _ _ q => Heap.get?_push_of_some _ q) (Nat.le_refl _) ⟨hz, its, 0, hv, Heap.get?_push_size _ rfl⟩
theorem Inv.fresh (I : Inv X pins σ H s) : H s.heap.objs.size = none := I.hok.fresh (Nat.le_refl _)
theorem Inv.lstM (I : Inv X pins σ H s) (hH : H l = some (.lst xs)) : xs.length ≤ sizeLine ∧ ∃ (its : List Value) (n : Nat), Vals xs its ∧ xs.length = its.length ∧ s.heap.get? l = some { cls := .type "list", data := .seq its.toArray n } := by
  obtain ⟨z, its, n, r, e⟩ := I.hok l _ hH
  exact ⟨z, its, n, r, r.length, e⟩
end
section
variable {X : Cx}
def rAppend : V → List V → Hp → VK → Prop := fun x vs H Q => ∃ l xs y, x = .ref l ∧ vs = [y] ∧ H l = some (.lst xs) ∧ xs.length < sizeLine ∧ Q .non (upd H l (.lst (xs ++ [y])))
theorem mt_append : MtM X "list.append" rAppend := by
  intro pins s σ H x vs v us Q I rx rv h
  obtain ⟨l, xs, y, rfl, rfl, hH, hz, q⟩ := h
  cases rx
  obtain ⟨u, rfl, ru⟩ := rv.one
  obtain ⟨z, its, n, r, hl, e⟩ := I.lstM hH
  refine call_meets F.slot_list_append ⟨_, e, rfl⟩ F.entry_list_append (F.args_list_append_2 _ _) (PySem.list_append l its.toArray n u (by rw [List.size_toArray]; omega)) ⟨e, ?_⟩
  refine ⟨.non, _, I.lset (its' := its ++ [u]) hH e (by simp) (r.append (.cons ru .nil)) ?_, rfl, q⟩
  rw [List.length_append, List.length_singleton]
  omega
def rCat : R2 := fun x y H Q => ∃ l b xs zs, x = .ref l ∧ y = .ref b ∧ H l = some (.lst xs) ∧ H b = some (.lst zs) ∧ xs.length + zs.length ≤ sizeLine ∧ ∀ p, H p = none → Q (.ref p) (upd H p (.lst (xs ++ zs)))
theorem op_cat : OpR X (binaryOp .Add) rCat := by
  intro pins s σ H x y v u Q I rx ry h
  obtain ⟨l, b, xs, zs, rfl, rfl, hH, hB, hz, q⟩ := h
  cases rx
  cases ry
  obtain ⟨z, its, n, r, hl, e⟩ := I.lstM hH
  obtain ⟨z2, its2, n2, r2, hl2, e2⟩ := I.lstM hB
  refine PySem.P.add_list e e2 ?_ (by rw [List.size_toArray, List.size_toArray]; omega)
  have ea : its.toArray ++ its2.toArray = (its ++ its2).toArray := by simp
  rw [ea]
  exact ⟨.ref _, _, I.lnew (t' := s.toks) (r.append r2) (by rw [List.length_append]; omega), rfl, q _ I.fresh⟩
end
section
variable {prog : Program} {w : World} {A : Around} {E : Value → Shared → Prop} {s : Shared}
end
section
variable {X : Cx}
end
end L2
namespace Att
open PySem PySem.W PySem.Calls PyProof.Rows
theorem ints_of_wellAll {P : Params} {h : Heap} : ∀ (ns : List Int) (vs : List Value), WellAll P h vs (ns.map WData.int) → IntsAre vs ns := by
  intro ns
  induction ns with
  | nil =>
    intro vs w
    rw [List.map_nil] at w
    cases w
    exact .nil
  | cons n ns ih =>
    intro vs w
    rw [List.map_cons] at w
    cases w with
    | cons a b =>
      cases a
      exact .cons _ _ (ih _ b)
theorem script_of {l : OpenLaw} {n : Nat} (hn : l.most = some n) {P : Params} {h : Heap} {args : List WData} {vals : List Value}
    (hpre : l.row.toRowW.claim.pre args = true) (hwl : WellAll P h vals args) :
    ∃ a vs ns, vals = [Value.ref a] ∧ args = [WData.list (ns.map WData.int)] ∧ h.get? a = some { cls := .type "list", data := .seq vs.toArray } ∧ IntsAre vs ns ∧ ns.length ≤ n := by
  have hsh : WShape.hasAll [] args [.list .int] = true := (pre_splitW hpre).1
  have hc : l.pre.holds [] { args := args } = true := (pre_splitW hpre).2
  obtain ⟨d, r, rfl, h1, h2⟩ := hasAllW_cons hsh
  obtain rfl := hasAllW_nil h2
  obtain ⟨xs, rfl, h3⟩ := hasW_list h1
  obtain ⟨ns, rfl⟩ := items_int h3
  have hlen : ns.length ≤ n := by
    unfold OpenLaw.pre at hc
    have h4 : (WTm.not (.lt (.lit (.int (n : Int))) (.len (.arg 0)))).holds [] { args := [.list (ns.map .int)] } = true := by
      have h4 := (holds_andW hc).1
      rw [hn] at h4
      exact h4
    have h5 := condW_of h4 (w_not (w_lt w_lit (w_len_list (w_arg rfl))))
    rw [List.length_map] at h5
    refine Nat.le_of_not_lt fun q => ?_
    have q' : (n : Int) < ((ns.length : Nat) : Int) := by omega
    first
      | (rw [decide_eq_true q'] at h5; exact absurd h5 (by decide))
      | (simp at h5; omega)
  cases hwl with
  | cons w1 w2 =>
    cases w2
    cases w1 with
    | list ho hall => exact ⟨_, _, ns, rfl, rfl, ho, ints_of_wellAll ns _ hall, hlen⟩
theorem post_true (l : OpenLaw) (args : List WData) : l.row.toRowW.claim.post args (.bool true) args = true :=
  postW_of (r := l.row.toRowW) (X := (true == true))
    (show WShape.has [] (.bool true) .bool = true by first | rfl | decide | simp [WShape.has, WShape.arms, WShape.armsAll])
    (show (WTm.eq .res (.lit (.bool true))).value [] { args := args, res := some (.bool true), after := args } = some (.bool (true == true)) from w_eq_bool (w_res rfl) w_lit) rfl
theorem attach_call {l : OpenLaw} {n : Nat} {q : Program} {loose : List Str} {XP : (Str → Option Value) → Heap → Prop} {YP : World → Heap → Prop} {d : DefRec}
    (hn : l.most = some n) (hdf : d.params.defaults = [])
    (call : ∀ (w : World) (s₀ s₁ : Shared) (mg mb : Str → Option Value) (fa : Addr) (o : Obj) (pm cd doc : Value) (a : Addr) (vs : List Value) (ns : List Int),
      Ground q loose [] XP w s₀ mg mb s₁.heap → YP w s₁.heap →
      s₁.heap.get? fa = some o → o.data = .func (docDef d.name d.params d.body d.scope pm cd doc) → s₁.heap.CodeRec cd d.name → mg d.name = some (.ref fa) →
      s₁.heap.get? a = some { cls := .type "list", data := .seq vs.toArray } → IntsAre vs ns → ns.length ≤ n → s₁.gens = #[] →
      codeAny (model l.prog w) callerA (.call (.ref fa) ⟨[.ref a], []⟩) (fun r s' => r = .ok (.ret (.bool true)) ∧ OldK s₁.heap s'.heap ∧ s'.os = s₁.os ∧ AllBare s'.gens) s₁) :
    WalkO q loose XP YP l.row.toRowW d [] (fun f vs => PySem.call f vs) := by
  intro w s₀ s₁ mg mb G Y fa o pm cd doc dV kV ho hd hcd hD hmg hg args vals as hpre hlay hrd hwl hlo
  obtain rfl : dV = .none := Dflts.none hD hdf
  obtain rfl : kV = .none := Dflts.noKw hD
  obtain ⟨a, vs, ns, rfl, rfl, hobj, hints, hlen⟩ := script_of hn hpre hwl
  refine enter_call (codeAny_mono (call w s₀ s₁ mg mb fa o pm cd doc a vs ns G Y ho (fd_plain hd) hcd hmg hobj hints hlen hg) fun r s' hq => ?_)
  obtain ⟨rfl, h2, h3, h4⟩ := hq
  exact ⟨.inl ⟨.bool true, .bool true, [], rfl, fun _ => rfl, .bool true, post_true l _, fun _ => ⟨List.Pairwise.nil, fun _ hm => (nomatch hm)⟩⟩, h2, h3, h4⟩
section
variable {prog : Program} {w : World} {A : Around} {E : Value → Shared → Prop} {s : Shared} {K : Frag}
def ledger (h : Heap) (L d : Addr) : List (Addr × Obj) := (List.range h.objs.size).filterMap fun a => if a = L ∨ a = d then none else (h.get? a).map fun o => (a, o)
end
end Att
namespace L2
open PySem PySem.Spec PyProof.Rows
theorem vals_ints : ∀ {vs : List Value} {ns : List Int}, IntsAre vs ns → Vals (ns.map V.int) vs
  | _, _, .nil => .nil
  | _, _, .cons n t h => .cons ⟨t, rfl⟩ (vals_ints h)
def Only (H : Hp) : Prop := ∀ b, H b = none ∨ ∃ o xs, H b = some (.frz o (.lst xs))
theorem law_call {P : Program} {w : World} {K : PySem.W.Frag} {mg mb : Str → Option Value} {CX : CXT} {k : Nat} {fa a : Addr} {fd : FuncData} {x : Str} {sp : Sp} {s₁ : Shared} {vs : List Value} {ns : List Int}
    (KX : K.In s₁.heap) (hns : s₁.heap.Ns mainGlobals mg) (hb : s₁.heap.Ns builtinsNs mb) (hbb : ∀ x : Str, x ≠ "__name__" → mb x = bootBuiltins x) (hlim : s₁.heap.NoLimit) (hg : s₁.gens = #[])
    (ha : s₁.heap.get? a = some { cls := .type "list", data := .seq vs.toArray }) (hi : IntsAre vs ns) (hl : ns.length ≤ sizeLine) (hr : Room k callerA)
    (F : ∀ base : Heap, K.In base → base.Ns mainGlobals mg → FnOk P w K mg base CX k fa fd [x] sp) (hbind : ∀ (s : Shared) (u : Value), BindsTo s fd ⟨[u], []⟩ [(x, u)])
    (hsp : ∀ H : Hp, Only H → SqL K H a (ns.map V.int) → sp [.ref a] H (fun v _ => v = .bl true) fun _ _ _ => False)
    (hCX : ∀ H e s', CX [] H s₁ (fun _ _ _ => False) e s' → False) :
    codeAny (model P w) callerA (.call (.ref fa) ⟨[.ref a], []⟩) (fun r s' => r = .ok (.ret (.bool true)) ∧ OldK s₁.heap s'.heap ∧ s'.os = s₁.os ∧ AllBare s'.gens) s₁ := by
  have rv := vals_ints hi
  have lenV := hi.length
  -- from an abstract heap in which nothing but the script may be tracked
  have core : ∀ H : Hp, Only H → SqL K H a (ns.map V.int) → HOk P w H s₁.heap → (∀ b, H b ≠ none → b = a) → (H a ≠ none → K.lookup a = none) →
      codeAny (model P w) callerA (.call (.ref fa) ⟨[.ref a], []⟩) (fun r s' => r = .ok (.ret (.bool true)) ∧ OldK s₁.heap s'.heap ∧ s'.os = s₁.os ∧ AllBare s'.gens) s₁ := by
    intro H hO hS hok hA hK
    have base_of : ∀ {b : Addr} {o : Obj}, s₁.heap.get? b = some o → H b = none → (hidT s₁.heap H).get? b = some o := fun e n => hidT_get e n
    have noA : ∀ {b : Addr} {o : Obj} {es : Array DictEntry} {ep : Nat}, s₁.heap.get? b = some o → o.data = .dict es ep → H b = none := fun {b o es ep} e d => by
      cases q : H b with
      | none => rfl
      | some u =>
        have e' : b = a := hA b (by rw [q]; simp)
        subst e'
        rw [ha] at e; cases e
        have d' : Data.seq vs.toArray _ = Data.dict es ep := d
        cases d'
    have nsK : ∀ {b : Addr} {m : Str → Option Value}, s₁.heap.Ns b m → (hidT s₁.heap H).Ns b m := fun {b m} ⟨o, es, ep, e, d, r⟩ => ⟨o, es, ep, base_of e (noA e d), d, r⟩
    have hKb : K.In (hidT s₁.heap H) := fun b o e => base_of (KX b o e) (by
      cases q : H b with
      | none => rfl
      | some u =>
        have e' : b = a := hA b (by rw [q]; simp)
        subst e'
        rw [hK (by rw [q]; simp)] at e; cases e)
    have hM : Mod K mg (hidT s₁.heap H) := ⟨hKb, nsK hns, ⟨mb, nsK hb, hbb⟩, let ⟨mc, h1, h2⟩ := hlim; ⟨mc, nsK h1, h2⟩⟩
    have e0 : Env0 P w K mg (hidT s₁.heap H) callerA [] s₁ H := ⟨rfl, hM, fun b o e => of_hidT e, Nat.le_of_eq (hidT_size _ _), trivial, fun b hb => absurd (show b ∈ ([] : List Addr) from hb) (by simp), hok, .of_eq hg⟩
    refine codeAny_mono ((F _ hKb (nsK hns)).run callerA [] s₁ H ⟨[.ref a], []⟩ [.ref a] [.ref a] _ _ hr e0 (hbind s₁ (.ref a)) (.cons rfl .nil) (hsp H hO hS)) fun r s' h => ?_
    cases r with
    | error e => exact (hCX H e s' h).elim
    | ok fl =>
      cases fl with
      | next => exact False.elim h
      | brk => exact False.elim h
      | cont => exact False.elim h
      | ret u =>
        obtain ⟨v, H', os, bare, un, hok', r', q⟩ := h
        have q' : v = .bl true := q
        subst q'
        obtain rfl : u = Value.bool true := r'
        refine ⟨rfl, OldK.of_keep fun b o e => ?_, os, bare⟩
        cases q : H b with
        | none => exact un.keep b o e q (by intro z; exact absurd (show b ∈ ([] : List Addr) from z) (by simp)) (by simp)
        | some u =>
          rcases hO b with z | ⟨ob, xs, z⟩
          · rw [q] at z; cases z
          · have z2 := un.frzs b ob _ z
            obtain ⟨e1, _⟩ := hok b _ z
            obtain ⟨e2, _⟩ := hok' b _ z2
            rw [e] at e1; cases e1
            exact e2
  cases hk : K.lookup a with
  | some o =>
    -- the script is one of the module's own objects
    have e := KX a o hk
    rw [ha] at e
    cases e
    refine core (fun _ => none) (fun _ => .inl rfl) (.inr ⟨_, vs.toArray, _, hk, rfl, rfl, rfl, by rw [List.size_toArray, lenV]; exact hl, by simpa using rv⟩) (fun b u z => by have z' : (none : Option HO) = some u := z; cases z') (fun b z => absurd rfl z) fun z => absurd rfl z
  | none =>
    refine core (fun b => if b = a then some (.frz { cls := .type "list", data := .seq vs.toArray } (.lst (ns.map V.int))) else none) (fun b => ?_) (.inl (.inr ⟨{ cls := .type "list", data := .seq vs.toArray }, if_pos rfl⟩)) (fun b u z => ?_) (fun b z => ?_) fun _ => hk
    · by_cases hb : b = a
      · exact .inr ⟨_, _, if_pos hb⟩
      · exact .inl (if_neg hb)
    · by_cases hb : b = a
      · have z' := (if_pos hb).symm.trans z
        cases z'
        subst hb
        exact ⟨ha, by rw [List.length_map]; exact hl, vs, _, rv, ha⟩
      · have z' := (if_neg hb).symm.trans z
        cases z'
    · by_cases hb : b = a
      · exact hb
      · exact absurd (if_neg hb) z
end L2
namespace L2
open PySem PySem.Spec PyProof.Rows
theorem walk_of {l : PySem.W.OpenLaw} {n k : Nat} {q : Program} {loose : List Str} {XP : (Str → Option Value) → Heap → Prop} {YP : World → Heap → Prop} {d : DefRec} {K : Params → PySem.W.Frag} {CX : World → CXT} {sp : World → Sp} {x : Str}
    (hn : l.most = some n) (hn2 : n ≤ sizeLine) (hdf : d.params.defaults = []) (hr : Room k callerA)
    (hY : ∀ (w : World) (h : Heap), YP w h → (K w.params).In h)
    (F : ∀ (w : World) (mg : Str → Option Value) (fa : Addr) (h : Heap), (K w.params).In h → h.Ns mainGlobals mg → mg d.name = some (.ref fa) →
      ∃ fd : FuncData, (∀ (s : Shared) (u : Value), BindsTo s fd ⟨[u], []⟩ [(x, u)]) ∧
        ∀ base : Heap, (K w.params).In base → base.Ns mainGlobals mg → FnOk l.prog w (K w.params) mg base (CX w) k fa fd [x] (sp w))
    (hsp : ∀ (w : World) (H : Hp) (a : Addr) (ns : List Int), ns.length ≤ n → Only H → SqL (K w.params) H a (ns.map V.int) → sp w [.ref a] H (fun v _ => v = .bl true) fun _ _ _ => False)
    (hCX : ∀ (w : World) (H : Hp) (s : Shared) (e : Value) (s' : Shared), CX w [] H s (fun _ _ _ => False) e s' → False) :
    PySem.W.WalkO q loose XP YP l.row.toRowW d [] (fun f vs => PySem.call f vs) := by
  refine Att.attach_call hn hdf fun w s₀ s₁ mg mb fa o pm cd doc a vs ns G Y ho hd hcd hmg hobj hints hlen hg => ?_
  have KX := hY w _ Y
  obtain ⟨fd, hb, hF⟩ := F w mg fa _ KX G.T.g hmg
  exact law_call KX G.T.g G.T.b G.T.builtins G.T.nolimit hg hobj hints (Nat.le_trans hlen hn2) hr hF hb (fun H hO hS => hsp w H a ns hlen hO hS) fun H e s' => hCX w H s₁ e s'
end L2
namespace L2
open PySem PySem.Spec PyProof.Rows
def inClass (s : Stmt) (j : Nat) : Stmt := match s with
  | .ClassDef _ _ _ body _ _ _ _ _ _ _ => body.getD j (.Pass ⟨0, 0, 0, 0⟩)
  | _ => .Pass ⟨0, 0, 0, 0⟩
def defArgs (s : Stmt) : Arguments := match s with
  | .FunctionDef _ a _ _ _ _ _ _ _ _ => a
  | _ => { posonlyargs := [], args := [], vararg := none, kwonlyargs := [], kw_defaults := [], kwarg := none, defaults := [] }
def defBody (s : Stmt) : List Stmt := match s with
  | .FunctionDef _ _ b _ _ _ _ _ _ _ => b
  | _ => []
def defScope (s : Stmt) : Scope := match s with
  | .FunctionDef _ _ _ _ _ _ sc _ _ _ => sc
  | _ => { kind := .function, names := [], isGenerator := false, isCoroutine := false }
abbrev CX0 : CXT := fun _ _ _ _ _ _ => False
abbrev E0 : XK := fun _ _ _ => False
structure Fun (K : PySem.W.Frag) (x qual : Str) (st : Stmt) (f : Addr) (fd : FuncData) : Prop where
  ex : ∃ (oc : Value) (od : Option Addr) (kV doc pm : Value) (an : Option Addr) (cdv ct : Value) (osl : Array (Option Value)),
    fd = PySem.W.fnOf x qual (defArgs st) (defBody st) (defScope st) .none kV doc pm an cdv ct ∧ K.lookup f = some ⟨oc, od, .func fd, osl⟩ ∧ PySem.W.codeIn K cdv qual = true
  kp : PySem.W.keepIn K (.ref f) = true
section
variable {P : Program} {w : World} {K : PySem.W.Frag} {mg : Str → Option Value} {base : Heap}
theorem Fun.ok {x qual : Str} {st : Stmt} {f : Addr} {fd : FuncData} {N ps : List Str} {k : Nat} {sp : Sp} (F : Fun K x qual st f fd) (S : FnScope N ps (defScope st)) (len : ∀ vs H Q E, sp vs H Q E → vs.length = ps.length)
    (hbody : ∀ (cdv : Value) (A : Around) (outer : List Env) (s : Shared) (H : Hp) (vs : List V) (Q : VK) (E : XK), Room k (A.deeper (envOfC qual (defScope st) s.heap.objs.size f cdv)) → sp vs H Q E →
      ∃ t, PSs (cxOf CX0 P w K mg base N qual (defScope st) f cdv A outer s H E).nox (defBody st) t ∧ t { nx := fun _ H' => Q .non H', rt := Q } (start N vs) H) : FnOk P w K mg base CX0 (k + 1) f fd ps sp := by
  obtain ⟨oc, od, kV, doc, pm, an, cdv, ct, osl, rfl, lk, hcd⟩ := F.ex
  refine fn_of lk hcd S len fun A outer s H vs Q E hr hsp => ?_
  obtain ⟨t, h, q⟩ := hbody cdv A outer s H vs Q E hr hsp
  exact ⟨t, h.nox, q⟩
theorem Fun.binds {x qual : Str} {st : Stmt} {f : Addr} {fd : FuncData} {ps : List Str} (F : Fun K x qual st f fd)
    (h : ∀ (kV doc pm : Value) (an : Option Addr) (cdv ct : Value) (us : List Value), us.length = ps.length → bindArgs (PySem.W.fnOf x qual (defArgs st) (defBody st) (defScope st) .none kV doc pm an cdv ct) ⟨us, []⟩ = pure (ps.zip us)) : Binds K fd ps [] := by
  obtain ⟨oc, od, kV, doc, pm, an, cdv, ct, osl, rfl, lk, hcd⟩ := F.ex
  exact .all (h kV doc pm an cdv ct)
theorem fun_mk {x qual : Str} {st : Stmt} {f : Addr} {oc : Value} {od an : Option Addr} {osl : Array (Option Value)} {kV doc pm cdv ct : Value} (l : K.lookup f = some ⟨oc, od, .func (PySem.W.fnOf x qual (defArgs st) (defBody st) (defScope st) .none kV doc pm an cdv ct), osl⟩)
    (c : PySem.W.codeIn K cdv qual = true) (k : PySem.W.keepIn K (.ref f) = true) : Fun K x qual st f (PySem.W.fnOf x qual (defArgs st) (defBody st) (defScope st) .none kV doc pm an cdv ct) := ⟨⟨oc, od, kV, doc, pm, an, cdv, ct, osl, rfl, l, c⟩, k⟩
end
theorem small1000 {n : Nat} (h : n ≤ 1000) : n < sizeLine := Nat.lt_of_le_of_lt h (by decide)
section
variable {X : Cx}
theorem pv (i : Nat) {x : Str} {pos : Pos} (hN : X.N[i]? = some x := by rfl) (hv : Vis X.env.scope x := by first | exact Or.inl rfl | exact Or.inr (Or.inl rfl) | exact Or.inr (Or.inr rfl)) (hd : (x == ("__debug__" : Str)) = false := by decide)
    (hcd : (x == ("__classdict__" : Str)) = false := by decide) : PE X (.Name x pos) (tVar i) := pe_var hN hv hd hcd
end
def Same (H H' : Hp) : Prop := ∀ b o, H b = some o → H' b = some o
theorem Same.refl (H : Hp) : Same H H := fun _ _ h => h
theorem Same.trans {H H1 H2 : Hp} (a : Same H H1) (b : Same H1 H2) : Same H H2 := fun c o h => b c o (a c o h)
theorem Same.free {H H' : Hp} (e : Same H H') {l : Addr} (h : H' l = Option.none) : H l = Option.none := by
  cases q : H l with
  | none => rfl
  | some o =>
    rw [e l o q] at h
    cases h
theorem Same.seq {K : PySem.W.Frag} {H H' : Hp} {a : Addr} {xs : List V} (e : Same H H') (h : SqL K H a xs) : SqL K H' a xs := by
  rcases h with (h | ⟨o, h⟩) | h
  · exact .inl (.inl (e _ _ h))
  · exact .inl (.inr ⟨o, e _ _ h⟩)
  · exact .inr h
end L2
set_option Elab.async false
set_option linter.all false
set_option maxRecDepth 100000
namespace Bw
open PySem PySem.Spec PyProof.Rows L2
section
variable {X : Cx}
def CDivL (i j : Int) : Prop := 0 < j ∧ j < 2 ^ 62
theorem op_fdivL : OpR X (binaryOp .FloorDiv) (rI CDivL fun i j => .int (i / j)) := opI fun i j _ _ _ _ _ hc q => by
  have h1 : (0 : Int) < j := hc.1
  have h2 : j < 2 ^ 62 := hc.2
  refine floordiv_int (by omega) (by rw [Int.fdiv_eq_ediv_of_nonneg i (by omega)]; exact q) (.inl (PyProof.noPylong_of_log2 ?_))
  have h0 : j.natAbs ≠ 0 := by omega
  have : j.natAbs.log2 < 62 := (Nat.log2_lt h0).mpr (by omega)
  omega
def okV (H : Hp) : V → Prop
  | .non => True
  | .bl _ => True
  | .int _ => True
  | .str _ => True
  | .ref a => (∃ xs, H a = some (.lst xs)) ∨ ∃ xs, H a = some (.tup xs)
  | _ => False
def isIntV : V → Bool
  | .int _ => true
  | .bl _ => true
  | _ => false
def isBoolV : V → Bool
  | .bl _ => true
  | _ => false
def isTupV (H : Hp) : V → Bool
  | .ref a => match H a with
    | some (.tup _) => true
    | _ => false
  | _ => false
theorem okV.ty {K : PySem.W.Frag} {H : Hp} {x : V} (h : okV H x) : ∃ T, TyOf K H x (.type T) ∧ PySem.W.kitOne K (.type T) (.type "int") = some (isIntV x) ∧ PySem.W.kitOne K (.type T) (.type "bool") = some (isBoolV x) ∧ PySem.W.kitOne K (.type T) (.type "tuple") = some (isTupV H x) := by
  cases x with
  | non => exact ⟨_, .non, by kernel_rfl, by kernel_rfl, by kernel_rfl⟩
  | bl b => exact ⟨_, .bl b, by kernel_rfl, by kernel_rfl, by kernel_rfl⟩
  | int i => exact ⟨_, .int i, by kernel_rfl, by kernel_rfl, by kernel_rfl⟩
  | str i => exact ⟨_, .str i, by kernel_rfl, by kernel_rfl, by kernel_rfl⟩
  | ref a =>
    rcases h with ⟨xs, e⟩ | ⟨xs, e⟩
    · have q : isTupV H (.ref a) = false := by simp [isTupV, e]
      rw [q]
      exact ⟨_, .lst e, by kernel_rfl, by kernel_rfl, by kernel_rfl⟩
    · have q : isTupV H (.ref a) = true := by simp [isTupV, e]
      rw [q]
      exact ⟨_, .tup e, by kernel_rfl, by kernel_rfl, by kernel_rfl⟩
  | _ => exact h.elim
theorem isi_gen {pins : List (Addr × Obj)} {σ : L2.St} {H : Hp} {s : Shared} {x : V} {c T : String} {b : Bool} {us : List Value} {Q : VK} (I : Inv X pins σ H s) (r : Vals [x, .ty c] us) (ty : TyOf X.K H x (.type T)) (e : PySem.W.kitOne X.K (.type T) (.type c) = some b) (q : Q (.bl b) H) :
    wpAny (model X.prog X.w) X.A (call (.builtin "isinstance") us) (EP X pins σ Q) X.xe s := by
  obtain ⟨u, w', rfl, rx, rc⟩ := vals2 r
  cases (show w' = Value.type c from rc)
  exact isinst_ok I rx ty e fun tk => ⟨.bl b, H, I.tok _, rfl, q⟩
theorem call_isi_int : CallR X (.builtin "isinstance") (fun xs H Q => ∃ x, xs = [x, .ty "int"] ∧ okV H x ∧ Q (.bl (isIntV x)) H) := by
  intro pins s σ H xs us Q I r h
  obtain ⟨x, rfl, ok, q⟩ := h
  obtain ⟨T, ty, e1, e2, e3⟩ := ok.ty (K := X.K)
  exact isi_gen I r ty e1 q
theorem call_isi_bool : CallR X (.builtin "isinstance") (fun xs H Q => ∃ x, xs = [x, .ty "bool"] ∧ okV H x ∧ Q (.bl (isBoolV x)) H) := by
  intro pins s σ H xs us Q I r h
  obtain ⟨x, rfl, ok, q⟩ := h
  obtain ⟨T, ty, e1, e2, e3⟩ := ok.ty (K := X.K)
  exact isi_gen I r ty e2 q
end
structure Cal (P : Program) (w : World) (K : PySem.W.Frag) (mg : Str → Option Value) (base : Heap) (x : Str) (ps : List Str) (k : Nat) (sp : Sp) : Prop where
  ex : ∃ f fd, FnOk P w K mg base CX0 k f fd ps sp ∧ Binds K fd ps [] ∧ PySem.W.keepIn K (.ref f) = true ∧ mg x = some (.ref f)
theorem same_new {H : Hp} {p : Addr} (h : H p = none) (o : HO) : Same H (upd H p o) := fun b u q => by rw [upd_ne (ne_of_none q h)]; exact q
def But (w : Addr) (H H' : Hp) : Prop := ∀ b o, b ≠ w → H b = some o → H' b = some o
theorem But.refl (w : Addr) (H : Hp) : But w H H := fun _ _ _ h => h
theorem But.trans {w : Addr} {H H1 H2 : Hp} (a : But w H H1) (b : But w H1 H2) : But w H H2 := fun c o n h => b c o n (a c o n h)
theorem But.upd {w : Addr} {H : Hp} (o : HO) : But w H (upd H w o) := fun b u n h => by rw [upd_ne n]; exact h
theorem Same.but {w : Addr} {H H' : Hp} (h : Same H H') : But w H H' := fun b o _ e => h b o e
def Well (H : Hp) (w : Addr) : Prop := ∃ a b c d : Int, H w = some (.lst [.int a, .int b, .int c, .int d])
theorem Well.same {H H' : Hp} {w : Addr} (W : Well H w) (s : Same H H') : Well H' w := by
  obtain ⟨a, b, c, d, h⟩ := W
  exact ⟨a, b, c, d, s _ _ h⟩
theorem Well.ne {H : Hp} {w p : Addr} (W : Well H w) (h : H p = none) : p ≠ w := by
  obtain ⟨a, b, c, d, e⟩ := W
  exact (ne_of_none e h).symm
theorem Well.neL {H : Hp} {w p : Addr} {xs : List V} (W : Well H w) (h : H p = some (.tup xs)) : p ≠ w := by
  obtain ⟨a, b, c, d, e⟩ := W
  exact (ne_of e h (by intro z; cases z)).symm
theorem at_mem {ns : List Int} {i : Int} (h0 : 0 ≤ i) (h : i < ns.length) : ∃ z ∈ ns, atI (ns.map V.int) i = some (.int z) := by
  have hk : i.toNat < ns.length := by omega
  have ek : i = ((i.toNat : Nat) : Int) := by omega
  refine ⟨ns[i.toNat], List.getElem_mem hk, ?_⟩
  have q : atI (ns.map V.int) ((i.toNat : Nat) : Int) = some (.int ns[i.toNat]) := atI_nat (by rw [List.getElem?_map, List.getElem?_eq_getElem hk] <;> rfl)
  rwa [← ek] at q
def cutL (ns : List Int) (lo hi : Int) : List Int := (ns.drop (HT.sIx ns.length 0 (some lo))).take (HT.sIx ns.length ns.length (some hi) - HT.sIx ns.length 0 (some lo))
theorem cutI (ns : List Int) (lo hi : Int) : cutV (ns.map V.int) (some lo) (some hi) = (cutL ns lo hi).map V.int := by
  unfold cutV cutL
  rw [List.length_map, ← List.map_drop, ← List.map_take]
theorem cutI_len (ns : List Int) (lo hi : Int) : (cutL ns lo hi).length ≤ ns.length := by
  unfold cutL
  rw [List.length_take, List.length_drop]
  omega
theorem int_at {ns : List Int} {i : Nat} {x : V} (h : (ns.map V.int)[i]? = some x) : ∃ c, x = .int c := by
  rw [List.getElem?_map] at h
  cases e : ns[i]? with
  | none => rw [e] at h; cases h
  | some c => rw [e] at h; exact ⟨c, (Option.some.inj h).symm⟩
theorem sz8 {n : Nat} (h : n ≤ 1000) : n ≤ sizeLine := Nat.le_of_lt (small1000 h)
section
variable {K : PySem.W.Frag} {ta tb tc te : TE} {tA tB' : TT} {t u : TS} {tr : TA} {D : Ends} {σ : L2.St} {H : Hp} {Q : VK} {QB : Bool → Hp → Prop} {QA : List V → Hp → Prop} {v x y z : V} {i j : Nat} {g : TG} {QS : L2.St → Hp → Prop}
theorem w_seq : tSeq t u D σ H = t { D with nx := u D } σ H := rfl
theorem w_next : tNext D σ H = D.nx σ H := rfl
theorem w_ifS : tIfS tA t u D σ H = tA σ H (fun b H1 => if b = true then t D σ H1 else u D σ H1) := rfl
theorem w_ret : tRet te D σ H = te σ H D.rt := rfl
theorem w_retN : tRetN D σ H = D.rt .non H := rfl
theorem w_drop : tDrop te D σ H = te σ H (fun _ H1 => D.nx σ H1) := rfl
theorem w_asg : tAsg te g D σ H = te σ H (fun x H1 => g x σ H1 D.nx) := rfl
theorem w_gName : gName i v σ H QS = QS (σ.set i (some v)) H := rfl
theorem w_gSub {ts : TSet} : gSub ta tb ts v σ H QS = ta σ H (fun o H1 => tb σ H1 (fun i H2 => ts o i v H2 (fun H3 => QS σ H3))) := rfl
theorem w_var : tVar i σ H Q = ∃ v, σ[i]? = some (some v) ∧ Q v H := rfl
theorem w_c : tC v σ H Q = Q v H := rfl
theorem w_op {r : R2} : tOp r ta tb σ H Q = ta σ H (fun x H1 => tb σ H1 (fun y H2 => r x y H2 Q)) := rfl
theorem w_un {r : V → Hp → VK → Prop} : tUn r ta σ H Q = ta σ H (fun x H1 => r x H1 Q) := rfl
theorem w_rU {f : Int → V} : rU f x H Q = ∃ i, x = .int i ∧ Q (f i) H := rfl
theorem w_rI0 {f : Int → Int → V} : rI0 f x y H Q = ∃ i j, x = .int i ∧ y = .int j ∧ Q (f i j) H := rfl
theorem w_rI {C : Int → Int → Prop} {f : Int → Int → V} : rI C f x y H Q = ∃ i j, x = .int i ∧ y = .int j ∧ C i j ∧ Q (f i j) H := rfl
theorem w_test : tTest te σ H QB = te σ H (fun x H' => ∃ k, x = .bl k ∧ QB k H') := rfl
theorem w_b : L2.tB te σ H QB = te σ H (fun x H1 => ∃ c, x = .bl c ∧ QB c H1) := rfl
theorem w_and : tAnd tA tB' σ H QB = tA σ H (fun c H1 => if c = true then tB' σ H1 QB else QB false H1) := rfl
theorem w_or : tOr tA tB' σ H QB = tA σ H (fun c H1 => if c = true then QB true H1 else tB' σ H1 QB) := rfl
theorem w_not : tNot tA σ H QB = tA σ H (fun c H1 => QB (!c) H1) := rfl
theorem w_andV : tAndV ta tb σ H Q = ta σ H (fun x H1 => ∃ c, x = .bl c ∧ if c = true then tb σ H1 Q else Q (.bl false) H1) := rfl
theorem w_orV : tOrV ta tb σ H Q = ta σ H (fun x H1 => ∃ c, x = .bl c ∧ if c = true then Q (.bl true) H1 else tb σ H1 Q) := rfl
theorem w_notV : tNotV ta σ H Q = ta σ H (fun x H1 => ∃ c, x = .bl c ∧ Q (.bl (!c)) H1) := rfl
theorem w_if : tIf tA ta tb σ H Q = tA σ H (fun c H1 => if c = true then ta σ H1 Q else tb σ H1 Q) := rfl
theorem w_cons : tCons ta tr σ H QA = ta σ H (fun x H1 => tr σ H1 (fun xs H2 => QA (x :: xs) H2)) := rfl
theorem w_nil : tNil σ H QA = QA [] H := rfl
theorem w_tup : tTup tr σ H Q = tr σ H (fun xs H1 => xs.length ≤ sizeLine ∧ ∀ p, H1 p = none → Q (.ref p) (L2.upd H1 p (.tup xs))) := rfl
theorem w_lst : tLst tr σ H Q = tr σ H (fun xs H1 => xs.length ≤ sizeLine ∧ ∀ p, H1 p = none → Q (.ref p) (L2.upd H1 p (.lst xs))) := rfl
theorem w_call {sp : Sp} {dvs : List V} {E : XK} : tCall sp dvs E tr σ H Q = tr σ H (fun vs H1 => sp (vs ++ dvs) H1 Q E) := rfl
theorem w_cB {r : List V → Hp → VK → Prop} : tCB r tr σ H Q = tr σ H (fun vs H1 => r vs H1 Q) := rfl
theorem w_eq : rEq x y H Q = (scal x y = true ∧ Q (.bl (decide (x = y))) H) := rfl
theorem w_ne : rNe x y H Q = (scal x y = true ∧ Q (.bl (!decide (x = y))) H) := rfl
theorem w_s1 {a b : Int} : scal (.int a) (.int b) = true := rfl
theorem w_s2 {a b : Bool} : scal (.bl a) (.bl b) = true := rfl
theorem w_s3 {a b : Str} : scal (.str a) (.str b) = true := rfl
theorem w_s4 {a : Int} : scal (.int a) .non = true := rfl
theorem w_s5 {a : Bool} : scal (.bl a) .non = true := rfl
theorem w_isN : tIsN ta σ H Q = ta σ H (fun x H1 => Q (.bl (decide (x = .non))) H1) := rfl
theorem w_notN : tNotN ta σ H Q = ta σ H (fun x H1 => Q (.bl (!decide (x = .non))) H1) := rfl
theorem w_chain {r r' : R2} : tChain r r' ta tb tc σ H Q = ta σ H (fun x H1 => tb σ H1 (fun y H2 => r x y H2 (fun z H3 => ∃ k, z = .bl k ∧ (if k = true then tc σ H3 (fun w' H4 => r' y w' H4 Q) else Q (.bl false) H3)))) := rfl
theorem w_sl {r : V → Option Int → Option Int → Hp → VK → Prop} {tl th : TO} : tSl r te tl th σ H Q = te σ H (fun x H1 => tl σ H1 (fun l H2 => th σ H2 (fun u H3 => r x l u H3 Q))) := rfl
theorem w_part {QO : Option Int → Hp → Prop} : tPart te σ H QO = te σ H (fun x H1 => ∃ i, x = .int i ∧ QO (some i) H1) := rfl
theorem w_noPart {QO : Option Int → Hp → Prop} : tNoPart σ H QO = QO none H := rfl
theorem w_K {CX : CXT} {P : Program} {w : World} {mg : Str → Option Value} {base : Heap} {N : List Str} {qual : Str} {sc : Scope} {f : Addr} {cd : Value} {A : Around} {outer : List Env} {s : Shared} {H : Hp} {E : XK} : (cxOf CX P w K mg base N qual sc f cd A outer s H E).K = K := rfl
def ForL (K : PySem.W.Frag) (a : Addr) (g : TG) (tb : TS) (D : Ends) (σ : L2.St) (H : Hp) : Prop := ∃ W : Nat → Nat → L2.St → Hp → Prop, (∃ m, W 0 m σ H) ∧ ∀ i m σ H, W i m σ H →
  ((Itl K a).stop i H ∧ D.nx σ H) ∨ ((Itl K a).go i H ∧ ∃ N : L2.St → Hp → Prop, (∀ σ' H', N σ' H' → ∃ m', m' < m ∧ W (i + 1) m' σ' H') ∧ ∀ x H', (Itl K a).yld i H x H' → g x σ H' fun σ2 H2 => tb { D with nx := N, ct := N, bk := D.nx } σ2 H2)
def ForR (lo : Int) (n : Nat) (g : TG) (tb : TS) (D : Ends) (σ : L2.St) (H : Hp) : Prop := ∃ W : Nat → Nat → L2.St → Hp → Prop, (∃ m, W 0 m σ H) ∧ ∀ i m σ H, W i m σ H →
  ((Itr lo n).stop i H ∧ D.nx σ H) ∨ ((Itr lo n).go i H ∧ ∃ N : L2.St → Hp → Prop, (∀ σ' H', N σ' H' → ∃ m', m' < m ∧ W (i + 1) m' σ' H') ∧ ∀ x H', (Itr lo n).yld i H x H' → g x σ H' fun σ2 H2 => tb { D with nx := N, ct := N, bk := D.nx } σ2 H2)
theorem w_forL : tFor (iList K ta) g t D σ H = ta σ H (fun x H1 => ∃ a, x = .ref a ∧ (∃ xs, SqL K H1 a xs) ∧ ForL K a g t D σ H1) := rfl
theorem w_for1 : tFor (iRng1 tr) g t D σ H = tr σ H (fun vs H1 => ∃ j : Int, vs = [.int j] ∧ -(2 ^ 62) ≤ j ∧ j < 2 ^ 62 ∧ ForR 0 j.toNat g t D σ H1) := rfl
theorem w_for2 : tFor (iRng2 tr) g t D σ H = tr σ H (fun vs H1 => ∃ i j : Int, vs = [.int i, .int j] ∧ (-(2 ^ 62) ≤ i ∧ i < 2 ^ 62 ∧ -(2 ^ 62) ≤ j ∧ j < 2 ^ 62) ∧ ForR i (j - i).toNat g t D σ H1) := rfl
theorem ForL.by {a : Addr} {xs : List V} (Pv : Nat → L2.St → Hp → Prop) (h0 : Pv 0 σ H) (hl : ∀ i σ H, i ≤ xs.length → Pv i σ H → SqL K H a xs)
    (hs : ∀ i x σ H, xs[i]? = some x → Pv i σ H → g x σ H fun σ2 H2 => t { D with nx := Pv (i + 1), ct := Pv (i + 1), bk := D.nx } σ2 H2) (hd : ∀ σ H, Pv xs.length σ H → D.nx σ H) : ForL K a g t D σ H := for_list Pv h0 hl hs hd
theorem ForR.by {lo : Int} {n : Nat} (Pv : Nat → L2.St → Hp → Prop) (h0 : Pv 0 σ H)
    (hs : ∀ i σ H, i < n → Pv i σ H → g (.int (lo + i)) σ H fun σ2 H2 => t { D with nx := Pv (i + 1), ct := Pv (i + 1), bk := D.nx } σ2 H2) (hd : ∀ σ H, Pv n σ H → D.nx σ H) : ForR lo n g t D σ H := for_range Pv h0 hs hd
theorem ixl {p : Addr} {xs : List V} {k : Int} (hS : SqL K H p xs) (hv : atI xs k = some v) (q : Q v H) : rIxL K (.ref p) (.int k) H Q := ⟨p, xs, k, v, rfl, rfl, hS, hv, q⟩
theorem setl {p : Addr} {xs : List V} {k : Int} {QH : Hp → Prop} (h : H p = some (.lst xs)) (hj : ixN xs.length k = some j) (q : QH (L2.upd H p (.lst (xs.set j v)))) : rSetL (.ref p) (.int k) v H QH := ⟨p, xs, k, j, rfl, rfl, h, hj, q⟩
end
end Bw
set_option Elab.async false
set_option linter.all false
set_option maxRecDepth 100000
namespace Bw
open PySem PySem.Spec PyProof.Rows L2
def rIsNotB : R2 := fun x y H Q => ∃ c d : Bool, x = .bl c ∧ y = .bl d ∧ Q (.bl (c != d)) H
theorem w_isnotB {x y : V} {H : Hp} {Q : VK} : rIsNotB x y H Q = ∃ c d : Bool, x = .bl c ∧ y = .bl d ∧ Q (.bl (c != d)) H := rfl
def Itr3 (lo c : Int) (n : Nat) : It := ⟨fun i _ => i < n, fun i H x H' => H' = H ∧ x = .int (lo + i * c), fun i _ => n ≤ i⟩
def rngN (i j c : Int) : Nat := if i < j then ((j - i - 1) / c + 1).toNat else 0
def iRng3 (ta : TA) : TI := fun σ H R => ta σ H fun vs H1 => ∃ i j c : Int, vs = [.int i, .int j, .int c] ∧ (-(2 ^ 60) ≤ i ∧ i < 2 ^ 60 ∧ -(2 ^ 60) ≤ j ∧ j < 2 ^ 60 ∧ 0 < c ∧ c < 2 ^ 30) ∧ R (Itr3 i c (rngN i j c)) H1
def ForR3 (lo c : Int) (n : Nat) (g : TG) (tb : TS) (D : Ends) (σ : L2.St) (H : Hp) : Prop := ∃ W : Nat → Nat → L2.St → Hp → Prop, (∃ m, W 0 m σ H) ∧ ∀ i m σ H, W i m σ H →
  ((Itr3 lo c n).stop i H ∧ D.nx σ H) ∨ ((Itr3 lo c n).go i H ∧ ∃ N : L2.St → Hp → Prop, (∀ σ' H', N σ' H' → ∃ m', m' < m ∧ W (i + 1) m' σ' H') ∧ ∀ x H', (Itr3 lo c n).yld i H x H' → g x σ H' fun σ2 H2 => tb { D with nx := N, ct := N, bk := D.nx } σ2 H2)
theorem w_for3 {tr : TA} {g : TG} {t : TS} {D : Ends} {σ : L2.St} {H : Hp} : tFor (iRng3 tr) g t D σ H = tr σ H (fun vs H1 => ∃ i j c : Int, vs = [.int i, .int j, .int c] ∧ (-(2 ^ 60) ≤ i ∧ i < 2 ^ 60 ∧ -(2 ^ 60) ≤ j ∧ j < 2 ^ 60 ∧ 0 < c ∧ c < 2 ^ 30) ∧ ForR3 i c (rngN i j c) g t D σ H1) := rfl
theorem ForR3.by {lo c : Int} {n : Nat} {g : TG} {t : TS} {D : Ends} {σ : L2.St} {H : Hp} (Pv : Nat → L2.St → Hp → Prop) (h0 : Pv 0 σ H)
    (hs : ∀ i σ H, i < n → Pv i σ H → g (.int (lo + i * c)) σ H fun σ2 H2 => t { D with nx := Pv (i + 1), ct := Pv (i + 1), bk := D.nx } σ2 H2) (hd : ∀ σ H, Pv n σ H → D.nx σ H) : ForR3 lo c n g t D σ H := by
  refine ⟨fun i m σ H => m = n - i ∧ i ≤ n ∧ Pv i σ H, ⟨n, by simp, Nat.zero_le _, h0⟩, ?_⟩
  rintro i m σ H ⟨rfl, hi, p⟩
  by_cases hlt : i < n
  · refine .inr ⟨hlt, Pv (i + 1), fun σ' H' p' => ⟨n - (i + 1), by omega, rfl, hlt, p'⟩, fun x H' y => ?_⟩
    obtain ⟨e, y⟩ := y
    subst e y
    exact hs i σ _ hlt p
  · have e : i = n := by omega
    subst e
    exact .inl ⟨Nat.le_refl _, hd σ H p⟩
structure QOk (H : Hp) (p : Addr) (s e : Int) : Prop where
  at_ : H p = some (.tup [.int s, .int e])
  s0 : 0 ≤ s
  s1 : s ≤ 1439
  e0 : 0 ≤ e
  e1 : e ≤ 1439
  ne : s ≠ e
theorem QOk.same {H H' : Hp} {p : Addr} {s e : Int} (q : QOk H p s e) (h : Same H H') : QOk H' p s e := ⟨h _ _ q.at_, q.s0, q.s1, q.e0, q.e1, q.ne⟩
theorem QOk.but {H H' : Hp} {w p : Addr} {s e : Int} (q : QOk H p s e) (W : Well H w) (h : But w H H') : QOk H' p s e := ⟨h _ _ (W.neL q.at_) q.at_, q.s0, q.s1, q.e0, q.e1, q.ne⟩
end Bw
set_option Elab.async false
set_option linter.all false
set_option maxRecDepth 100000
set_option maxHeartbeats 1000000
namespace Bw
open PySem PySem.Spec PyProof.Rows L2
def DSafe (f : Obj → Obj) : Prop := ∀ o, (f o).dict = o.dict ∧ ((f o).isFreed = o.isFreed)
def DK (h h' : Heap) : Prop := ∀ b o, h.get? b = some o → ∃ o', h'.get? b = some o' ∧ o'.dict = o.dict
theorem DK.refl (h : Heap) : DK h h := fun _ o e => ⟨o, e, rfl⟩
theorem DK.trans {h1 h2 h3 : Heap} (a : DK h1 h2) (b : DK h2 h3) : DK h1 h3 := fun c o e => by
  obtain ⟨o1, e1, d1⟩ := a c o e
  obtain ⟨o2, e2, d2⟩ := b c o1 e1
  exact ⟨o2, e2, d2.trans d1⟩
def KD {α : Type} : Sem α → Prop
  | .pure _ => True
  | .raise _ => True
  | .unsupported _ => True
  | .finish _ => True
  | .rule _ k => KD (k ())
  | .at _ k => KD (k ())
  | .load _ _ k => ∀ o, KD (k o)
  | .update _ _ f k => DSafe f ∧ KD (k ())
  | .alloc _ k => ∀ b, KD (k b)
  | .loadIfAlive _ k => ∀ o, KD (k o)
  | .point _ k => KD (k ())
  | .register _ _ => True
  | .fresh k => ∀ t, KD (k t)
  | .ask k => ∀ x, KD (k x)
  | .choose _ _ k => ∀ n, KD (k n)
  | .os _ _ k => ∀ x, KD (k x)
  | .call _ _ _ _ _ => False
  | .handled _ k => ∀ x, KD (k x)
  | .newGen _ k => ∀ n, KD (k n)
  | .genState _ k => ∀ x, KD (k x)
  | .resume _ _ _ _ => False
  | .yield _ _ _ _ => True
  | .stack k => ∀ x, KD (k x)
  | .fork _ _ => True
  | .thread k => ∀ n, KD (k n)
  | .await _ _ _ _ _ => True
theorem KD.bind {α β : Type} {t : Sem α} {f : α → Sem β} (h : KD t) (k : ∀ x, KD (f x)) : KD (t >>= f) := by
  show KD (t.bind f)
  induction t with
  | pure x => exact k x
  | raise _ | unsupported _ | finish _ => trivial
  | rule _ _ ih | «at» _ _ ih | point _ _ ih => exact ih _ h
  | load _ _ _ ih | alloc _ _ ih | loadIfAlive _ _ ih | fresh _ ih | ask _ ih | choose _ _ _ ih | os _ _ _ ih | handled _ _ ih | newGen _ _ ih | genState _ _ ih | stack _ ih | thread _ ih => exact fun x => ih x (h x)
  | update _ _ _ _ ih => exact ⟨h.1, ih _ h.2⟩
  | register _ _ _ | yield _ _ _ _ _ | fork _ _ _ | await _ _ _ _ _ _ => trivial
  | call _ _ _ _ _ _ | resume _ _ _ _ _ => exact h.elim
theorem dk_update {h : Heap} {a : Addr} {f : Obj → Obj} (s : DSafe f) : DK h (h.update a f) := fun b o e => by
  by_cases c : b = a
  · subst c
    refine ⟨f o, Heap.get?_update_self f e ?_, (s o).1⟩
    rw [(s o).2]
    unfold Heap.get? at e
    split at e
    · cases e
    · rename_i hn
      obtain ⟨cl, dd, da, sl⟩ := o
      cases da with
      | freed => exact absurd e (fun z => hn _ _ _ z)
      | _ => rfl
  · exact ⟨o, by rw [Heap.get?_update_other _ _ (fun z => c z.symm)]; exact e, rfl⟩
theorem dk_push {h : Heap} {o : Obj} : DK h (h.push o) := fun b q e => ⟨q, Heap.get?_push_of_some _ e, rfl⟩
theorem wp_kd {M : Model} {Γ : PySem.Ctx} {α : Type} {t : Sem α} {Q : α → Pos → Shared → Prop} {E : Value → Pos → Shared → Prop} (k : KD t) : ∀ {h0 : Heap} {p : Pos} {s : Shared}, DK h0 s.heap → Sem.wp M Γ t Q E p s →
    Sem.wp M Γ t (fun x p' s' => Q x p' s' ∧ DK h0 s'.heap) (fun v p' s' => E v p' s' ∧ DK h0 s'.heap) p s := by
  induction t with
  | pure x => exact fun d w => ⟨w, d⟩
  | raise v => exact fun d w => ⟨w, d⟩
  | unsupported _ | finish _ | register _ _ _ | yield _ _ _ _ _ | fork _ _ _ | await _ _ _ _ _ _ => exact fun _ w => w
  | rule _ _ ih | «at» _ _ ih | point _ _ ih => exact fun d w => ih _ k d w
  | load _ _ _ ih => exact fun d ⟨o, e, w⟩ => ⟨o, e, ih _ (k o) d w⟩
  | alloc _ _ ih => exact fun d w => ih _ (k _) (d.trans dk_push) w
  | loadIfAlive _ _ ih | fresh _ ih | ask _ ih | os _ _ _ ih | handled _ _ ih | newGen _ _ ih | stack _ ih | thread _ ih => exact fun d w => ih _ (k _) d w
  | choose _ _ _ ih => exact fun d ⟨n, w⟩ => ⟨n, ih _ (k _) d w⟩
  | genState _ _ ih => exact fun d ⟨o, e, w⟩ => ⟨o, e, ih _ (k _) d w⟩
  | update _ _ _ _ ih => exact fun d ⟨e, w⟩ => ⟨e, ih _ k.2 (d.trans (dk_update k.1)) w⟩
  | call _ _ _ _ _ _ | resume _ _ _ _ _ => exact k.elim
theorem wpAny_kd {M : Model} {A : Around} {α : Type} {t : Sem α} {Q : α → Shared → Prop} {E : Value → Shared → Prop} {s : Shared} (k : KD t) (h : wpAny M A t Q E s) :
    wpAny M A t (fun x s' => Q x s' ∧ DK s.heap s'.heap) (fun v s' => E v s' ∧ DK s.heap s'.heap) s := fun Γ p hΓ => wp_kd k (DK.refl _) (h Γ p hΓ)
end Bw
set_option Elab.async false
set_option linter.all false
set_option maxRecDepth 100000
set_option maxHeartbeats 1000000
namespace Bw
open PySem PySem.Spec PyProof.Rows L2
section
variable {prog : Program} {w : World} {A : Around} {E : Value → Shared → Prop} {h : Heap} {g : Array GenState} {d : Drawn} {t : Nat} {os : OsState}
variable {nm q : Str} {C N : Addr} {bs bm bmB : List Value} {hdct : Bool} {sn : List Str} {sub : List Value} {ab : Bool} {col : Option Bool} {dd : Option Addr} {k0 k1 k2 k3 k5 : Option Value} {B newId initId : String}
end
section
variable {M : Model} {A : Around} {E : Value → Shared → Prop} {env : Env}
variable {nm q : Str} {C N : Addr} {bs bm : List Value} {hdct : Bool} {sn : List Str} {sub : List Value} {ab : Bool} {col : Option Bool} {dd : Option Addr} {k0 k1 k2 k3 k5 : Option Value} {newId : String}
theorem raiseStmt_any {s : Shared} {x : Sem Value} {Q : Flow → Shared → Prop} (hbase : bm.contains (.type "BaseException") = true) (hh : A.handled = none)
    (h : wpAny M A x (fun v s₁ => ∃ e oe vs, v = .ref e ∧ s₁.heap.get? C = some (excClassObj nm q C N bs bm hdct sn sub ab col dd k0 k1 k2 k3 k5 newId) ∧
      s₁.heap.get? e = some oe ∧ oe.cls = .ref C ∧ oe.data = .fields vs ∧ vs[1]? = some .none ∧ E (.ref e) s₁) E s) :
    wpAny M A (raiseStmt env (some x) none) Q E s := by
  have hcB : (Value.ref C :: bm).contains (.type "BaseException") = true := by rw [List.contains_cons, hbase, Bool.or_true]
  unfold raiseStmt
  refine wpAny_bind (wpAny_mono h (fun v s₁ h₁ => ?_) fun _ _ x => x)
  obtain ⟨e, oe, vs, rfl, hC, he, hcl, hda, hv1, hE⟩ := h₁
  obtain ⟨hp, g, d, tk, os⟩ := s₁
  obtain ⟨oc, od, odt, osl⟩ := oe
  dsimp only at hcl hda
  subst hcl hda
  repeat (first | with_reducible refine wpAny_loadPart_at he ?_ | with_reducible refine wpAny_loadPart_at hC ?_ | (with_reducible refine wpAny_isSubtype_exc hC ?_; rw [hcB]) | wp_step)
  rw [hv1]
  repeat (first | wp_step)
  exact wpAny_raiseNew_none hh hE
end
section
variable {prog : Program} {w : World} {A : Around} {E : Value → Shared → Prop} {s : Shared} {env : Env}
variable {nm q : Str} {C N : Addr} {bs bm bmB : List Value} {hdct : Bool} {sn : List Str} {sub : List Value} {ab : Bool} {col : Option Bool} {dd : Option Addr} {k0 k1 k2 k3 k5 : Option Value} {B newId initId : String}
end
end Bw
set_option Elab.async false
set_option linter.all false
set_option maxRecDepth 100000
set_option maxHeartbeats 1000000
namespace Bw
open PySem PySem.Spec PyProof.Rows L2
theorem ds_map {f : Array Value → Array Value} : DSafe (Obj.mapFields f) := fun o => by
  obtain ⟨oc, od, odt, osl⟩ := o
  cases odt <;> exact ⟨rfl, rfl⟩
theorem kd_load {a : Addr} : KD (load a) := fun _ => trivial
theorem kd_fieldsOf {v : Value} : KD (fieldsOf v) := by
  unfold fieldsOf
  split
  · refine KD.bind kd_load fun o => ?_
    split <;> trivial
  · trivial
theorem kd_field {v : Value} {i : Nat} : KD (field v i) := by
  unfold field
  refine KD.bind kd_fieldsOf fun vs => ?_
  split <;> trivial
theorem kd_setField {v x : Value} {i : Nat} : KD (setField v i x) := by
  unfold setField
  split
  · unfold updateField
    refine KD.bind kd_load fun o => ?_
    split
    · split
      · exact ⟨ds_map, trivial⟩
      · trivial
    · trivial
  · trivial
theorem kd_setFlight {v : Value} {f : Option Addr} : KD (setFlight v f) := by
  unfold setFlight
  refine KD.bind kd_field fun tb => ?_
  split
  · exact kd_setField
  · trivial
theorem kd_under : KD underTheClaimsCaller := by
  unfold underTheClaimsCaller
  first
    | exact KD.bind (fun _ => trivial) fun _ => trivial
    | (repeat (first | exact fun _ => trivial | trivial | refine KD.bind ?_ fun _ => ?_ | split))
theorem kd_behind {env : Env} {outer : List Env} : KD (behindIsImport env outer) := by
  unfold behindIsImport
  split
  · trivial
  split
  · trivial
  exact KD.bind kd_field fun _ => trivial
theorem kd_keptBack {env : Env} {b : Bool} {outer : List Env} : KD (keptBack env b outer) := by
  unfold keptBack
  split
  · split
    · trivial
    · exact KD.bind kd_under fun _ => trivial
  · trivial
theorem kd_ready : ∀ {l : List Env}, KD (readyFrames l)
  | [] => trivial
  | env :: outer => by
    unfold readyFrames
    split
    · refine KD.bind kd_load fun o => ?_
      split
      · trivial
      · refine KD.bind kd_behind fun b => KD.bind kd_keptBack fun v => KD.bind ⟨fun o => ?_, trivial⟩ fun _ => kd_ready
        refine ⟨rfl, ?_⟩
        obtain ⟨oc, od, odt, osl⟩ := o
        cases odt <;> rfl
    · trivial
theorem kd_frameOf {env : Env} : KD (PySem.frameOf env) := by
  unfold PySem.frameOf
  refine KD.bind (show KD frameEnvs from KD.bind (t := stack) (fun _ => trivial) fun _ => trivial) fun l => KD.bind ?_ fun r => ?_
  · unfold frameObject
    split
    · trivial
    · exact KD.bind kd_ready fun _ => trivial
  · split <;> trivial
theorem kd_place {f : Addr} {b : Bool} : KD (entryPlaceOf f b) := by
  unfold entryPlaceOf
  refine KD.bind (t := stack) (fun _ => trivial) fun l => ?_
  split <;> trivial
theorem kd_asIs {n : String} {dt : Data} : KD (newObjAsIs (.type n) dt) := by
  unfold newObjAsIs
  refine KD.bind (t := alloc _) (fun _ => trivial) fun _ => ?_
  trivial
theorem kd_entry {a b c d e : Value} {l : List Value} : KD (EntryCells.newEntry a b c d e l) := by
  unfold EntryCells.newEntry newFields newObj
  dsimp only
  generalize ([a, b, c, d, e] ++ if l.isEmpty = true then List.replicate 6 Value.none else l).toArray = z
  split
  · trivial
  · exact kd_asIs
theorem kd_note {v : Value} {env : Env} : KD (noteFrame v env) := by
  unfold noteFrame
  split
  · refine KD.bind kd_field fun hd => ?_
    dsimp only
    split
    · refine KD.bind kd_field fun x => ?_
      split
      · trivial
      · exact KD.bind kd_setField fun _ => KD.bind kd_frameOf fun _ => KD.bind kd_place fun _ => KD.bind kd_entry fun _ => kd_setField
    · exact KD.bind kd_frameOf fun _ => KD.bind kd_place fun _ => KD.bind kd_entry fun _ => kd_setField
  · trivial
theorem kd_leaving {v : Value} {env : Env} : KD (leaving env v) := KD.bind kd_note fun _ => kd_setFlight
end Bw
set_option Elab.async false
set_option linter.all false
set_option maxRecDepth 100000
namespace Bw
open PySem PySem.Spec PyProof.Rows L2
abbrev vbm : List Value := [.type "ValueError", .type "Exception", .type "BaseException", .type "object"]
theorem obj_at {P : Program} {w : World} {H : Hp} {h : Heap} {a : Addr} {o : HO} (x : ObjOk P w H h a o) : ∃ ob, h.get? a = some ob := by
  cases o with
  | lst xs => exact ⟨_, x.2.choose_spec.choose_spec.2⟩
  | tup xs => exact let ⟨_, _, _, ob, e, _⟩ := x; ⟨ob, e⟩
  | dK kvs => exact let ⟨_, _, _, _, ob, _, _, e, _⟩ := x; ⟨ob, e⟩
  | dT kvs => exact let ⟨_, _, _, _, ob, _, _, e, _⟩ := x; ⟨ob, e⟩
  | set S n => exact let ⟨ob, _, _, _, e, _⟩ := x; ⟨ob, e⟩
  | ins C dx fs => exact let ⟨_, _, _, e, _⟩ := x; ⟨_, e⟩
  | own y => exact x
  | xd fs => exact let ⟨_, ⟨ob, _, _, e, _⟩, _⟩ := x; ⟨ob, e⟩
  | rng lo hi => exact let ⟨_, _, _, e⟩ := x; ⟨_, e⟩
  | frz ob u => exact ⟨ob, x.1⟩
  | tbl ps => exact ⟨_, show h.get? a = some _ from x⟩
  | met f y => exact ⟨_, show h.get? a = some _ from x⟩
  | ext φ => exact x.2.1
section
variable {M : Model} {A : Around} {E : Value → Shared → Prop} {s : Shared}
theorem leaves_onD {base : Heap} {env : Env} {outer : List Env} {L e : Addr} {cls a0 : Value} {Q : Unit → Shared → Prop} (hfr : A.frames = some (env :: outer)) (hf : env.frame = some L) (hfl : Heap.FlyingW base (env :: outer) e cls a0 s.heap)
    (hQ : ∀ h', Heap.FlyingW base outer e cls a0 h' → s.heap.UpToSlots h' → DK s.heap h' → Q () { s with heap := h' }) : wpAny M A (leaving env (.ref e)) Q E s :=
  wpAny_mono (wpAny_kd kd_leaving (wpAny_leaves_onW (Q := fun _ s' => ∃ h', s' = { s with heap := h' } ∧ Heap.FlyingW base outer e cls a0 h' ∧ s.heap.UpToSlots h') (E := E) hfr hf hfl fun h' a b => ⟨h', rfl, a, b⟩))
    (fun _ s' ⟨⟨h', e1, a, b⟩, dk⟩ => by subst e1; exact hQ h' a b dk) fun _ _ x => x.1
theorem looks_onD {base : Heap} {env : Env} {outer : List Env} {L e : Addr} {cls a0 : Value} {Q : Unit → Shared → Prop} (hfr : A.frames = some (env :: outer)) (hf : env.frame = some L) (hfl : Heap.FlyingW base (env :: outer) e cls a0 s.heap)
    (hQ : ∀ h', Heap.HeldW base (env :: outer) e cls a0 L h' → s.heap.UpToSlots h' → DK s.heap h' → Q () { s with heap := h' }) : wpAny M A (noteFrame (.ref e) env) Q E s :=
  wpAny_mono (wpAny_kd kd_note (wpAny_looks_onW (Q := fun _ s' => ∃ h', s' = { s with heap := h' } ∧ Heap.HeldW base (env :: outer) e cls a0 L h' ∧ s.heap.UpToSlots h') (E := E) hfr hf hfl fun h' a b => ⟨h', rfl, a, b⟩))
    (fun _ s' ⟨⟨h', e1, a, b⟩, dk⟩ => by subst e1; exact hQ h' a b dk) fun _ _ x => x.1
theorem landsD {base : Heap} {l : List Env} {e L : Addr} {cls a0 : Value} {Q : Unit → Shared → Prop} (hh : Heap.HeldW base l e cls a0 L s.heap)
    (hQ : ∀ h', Heap.FlyingW base l e cls a0 h' → s.heap.UpToSlots h' → DK s.heap h' → Q () { s with heap := h' }) : wpAny M A (setFlight (.ref e) none) Q E s :=
  wpAny_mono (wpAny_kd kd_setFlight (wpAny_landsW (Q := fun _ s' => ∃ h', s' = { s with heap := h' } ∧ Heap.FlyingW base l e cls a0 h' ∧ s.heap.UpToSlots h') (E := E) hh fun h' a b => ⟨h', rfl, a, b⟩))
    (fun _ s' ⟨⟨h', e1, a, b⟩, dk⟩ => by subst e1; exact hQ h' a b dk) fun _ _ x => x.1
theorem lands_againD {base : Heap} {l : List Env} {e : Addr} {cls a0 : Value} {Q : Unit → Shared → Prop} (hh : Heap.FlyingW base l e cls a0 s.heap)
    (hQ : ∀ h', Heap.FlyingW base l e cls a0 h' → s.heap.UpToSlots h' → DK s.heap h' → Q () { s with heap := h' }) : wpAny M A (setFlight (.ref e) none) Q E s :=
  wpAny_mono (wpAny_kd kd_setFlight (lands_againW (Q := fun _ s' => ∃ h', s' = { s with heap := h' } ∧ Heap.FlyingW base l e cls a0 h' ∧ s.heap.UpToSlots h') (E := E) hh fun h' a b => ⟨h', rfl, a, b⟩))
    (fun _ s' ⟨⟨h', e1, a, b⟩, dk⟩ => by subst e1; exact hQ h' a b dk) fun _ _ x => x.1
theorem leaves_firstD {base : Heap} {env : Env} {outer : List Env} {L e : Addr} {oe : Obj} {vs : Array Value} {a0 : Value} {Q : Unit → Shared → Prop}
    (hfr : A.frames = some (env :: outer)) (hl : s.heap.FunFrames base (env :: outer)) (hf : env.frame = some L)
    (he : s.heap.get? e = some oe) (hkb : base.StaysIn s.heap) (hen : base.get? e = none) (hd : oe.data = .fields vs) (h1 : vs[1]? = some .none) (h0 : vs[0]? = some a0)
    (hQ : ∀ h', Heap.FlyingW base outer e oe.cls a0 h' → s.heap.UpToSlots h' → DK s.heap h' → Q () { s with heap := h' }) : wpAny M A (leaving env (.ref e)) Q E s :=
  wpAny_mono (wpAny_kd kd_leaving (wpAny_leaving_firstW (Q := fun _ s' => ∃ h', s' = { s with heap := h' } ∧ Heap.FlyingW base outer e oe.cls a0 h' ∧ s.heap.UpToSlots h') (E := E) hfr hl hf he hkb hen hd h1 h0
    fun h' hL => let ⟨k1, ⟨_, _, k2⟩, k3, k4⟩ := hL; ⟨h', rfl, ⟨k1, hen, k2, k3⟩, k4⟩))
    (fun _ s' ⟨⟨h', e1, a, b⟩, dk⟩ => by subst e1; exact hQ h' a b dk) fun _ _ x => x.1
end
def CXF (P : Program) (w : World) : CXT := fun outer H s E e s' =>
  ∃ (x : Addr) (cls a0 : Value) (dx : Option Addr) (H' : Hp) (B : Heap), e = .ref x ∧ s'.os = s.os ∧ AllBare s'.gens ∧ Un (frs outer) [] H H' s.heap s'.heap ∧ HOk P w H' s'.heap ∧ Heap.FlyingW B outer x cls a0 s'.heap ∧
    (∀ b u, H' b = some u → ∃ o, B.get? b = some o) ∧ (∀ b o, s.heap.get? b = some o → H b = none → b ∉ frs outer → B.get? b = some o) ∧ (∀ b o, s.heap.get? b = some o → b ∉ frs outer → ∃ o', B.get? b = some o') ∧ (∃ oe, s'.heap.get? x = some oe ∧ oe.dict = dx) ∧ E cls dx H'
theorem ride {P : Program} {w : World} {outer : List Env} {H H' : Hp} {h0 g h2 B : Heap} (un : Un (frs outer) [] H H' h0 g) (hok : HOk P w H' g) (sg : B.StaysIn g) (fr : g.FunFrames B outer)
    (cT : ∀ b u, H' b = some u → ∃ o, B.get? b = some o) (cO : ∀ b o, h0.get? b = some o → H b = none → b ∉ frs outer → B.get? b = some o) (cA : ∀ b o, h0.get? b = some o → b ∉ frs outer → ∃ o', B.get? b = some o')
    (sh : B.StaysIn h2) (up : g.UpToSlots h2) : Un (frs outer) [] H H' h0 h2 ∧ HOk P w H' h2 := by
  have nf : ∀ b ∈ frs outer, ∀ o, g.get? b = some o → ∀ vs, o.data ≠ .fields vs := fun b hb o ho vs hd => by
    obtain ⟨_, o', ho', hn⟩ := fr.mem hb
    rw [ho] at ho'
    cases ho'
    exact hn vs hd
  refine ⟨⟨fun b o q n hb _ => sh b o (cO b o q n hb), fun b o q n hb hx => ?_, un.free, fun b o q hx => ?_, un.tups, un.frzs, un.tbls⟩, fun b u e => ?_⟩
  · obtain ⟨sl, e1⟩ := un.slot b o q n hb hx
    obtain ⟨sl2, e2⟩ := up b _ e1 (nf b hb _ e1)
    exact ⟨sl2, e2⟩
  · by_cases hb : b ∈ frs outer
    · obtain ⟨o', e1⟩ := un.there b o q hx
      obtain ⟨sl2, e2⟩ := up b _ e1 (nf b hb _ e1)
      exact ⟨_, e2⟩
    · obtain ⟨o', e1⟩ := cA b o q hb
      exact ⟨o', sh _ _ e1⟩
  · refine (hok b u e).stay (fun c v hc r => ?_) (fun _ q => q) fun _ _ q => q
    have tr : ∃ u', H' c = some u' := by
      rcases hc with rfl | hc
      · exact ⟨_, e⟩
      · exact ⟨_, hc⟩
    obtain ⟨u', hu⟩ := tr
    obtain ⟨o', e1⟩ := cT c u' hu
    have e2 := sg _ _ e1
    rw [r] at e2
    cases e2
    exact sh _ _ e1
section
variable {X : Cx} {pins : List (Addr × Obj)} {σ : L2.St} {H H' : Hp} {s : Shared} {h2 B : Heap}
theorem out_of (I : Inv X pins σ H s) (hex : X.ex = []) (un : Un (frs X.stack) [] H H' s.heap h2)
    (cO : ∀ b o, s.heap.get? b = some o → H b = none → b ∉ frs X.stack → B.get? b = some o) (cA : ∀ b o, s.heap.get? b = some o → b ∉ frs X.stack → ∃ o', B.get? b = some o') :
    Un (frs X.outer) [] X.H₀ H' X.s₀.heap h2 ∧ (∀ b o, X.s₀.heap.get? b = some o → X.H₀ b = none → b ∉ frs X.outer → B.get? b = some o) ∧ ∀ b o, X.s₀.heap.get? b = some o → b ∉ frs X.outer → ∃ o', B.get? b = some o' := by
  have nx : ∀ b : Addr, b ∉ X.ex := fun b z => by rw [hex] at z; cases z
  have nl : ∀ b o, X.s₀.heap.get? b = some o → b ∉ frs X.outer → b ∉ frs X.stack := fun b o q hb z => by
    rcases List.mem_cons.mp (I.stkSub b z) with e | e
    · exact absurd (Nat.lt_of_lt_of_le (Heap.lt_size q) I.ok.above) (by rw [e]; exact Nat.lt_irrefl _)
    · exact hb e
  have ne : ∀ b : Addr, b ∉ ([] : List Addr) := fun b => by simp
  refine ⟨⟨fun b o q n hb _ => ?_, fun b o q n hb _ => ?_, fun b o q n _ => ?_, fun b o q _ => ?_, fun b xs q => un.tups b xs (I.base.tups b xs q), fun b o u q => un.frzs b o u (I.base.frzs b o u q), fun b ps q => ?_⟩, fun b o q n hb => ?_, fun b o q hb => ?_⟩
  · exact un.keep b o (I.base.keep b o q n hb (nx b)) (I.base.free b o q n (nx b)) (nl b o q hb) (ne b)
  · obtain ⟨sl, e1⟩ := I.base.slot b o q n hb (nx b)
    obtain ⟨sl2, e2⟩ := un.any e1 (I.base.free b o q n (nx b)) (ne b)
    exact ⟨sl2, e2⟩
  · obtain ⟨o', e1⟩ := I.base.there b o q (nx b)
    exact un.free b o' e1 (I.base.free b o q n (nx b)) (ne b)
  · obtain ⟨o', e1⟩ := I.base.there b o q (nx b)
    exact un.there b o' e1 (ne b)
  · obtain ⟨m1, e1⟩ := I.base.tbls b ps q
    obtain ⟨m2, e2⟩ := un.tbls b _ e1
    exact ⟨m1 ++ m2, by rw [e2, Array.append_assoc]⟩
  · exact cO b o (I.base.keep b o q n hb (nx b)) (I.base.free b o q n (nx b)) (nl b o q hb)
  · obtain ⟨o', e1⟩ := I.base.there b o q (nx b)
    exact cA b o' e1 (nl b o q hb)
theorem raised_outD {s' : Shared} {e : Addr} {oe : Obj} {vs : Array Value} {a0 : Value} {E : XK} {F : Value → Shared → Prop} (I : Inv X pins σ H s) (hst : X.stack = X.env :: X.outer) (hf : X.env.frame = some X.env.locals) (hex : X.ex = [])
    (os : s'.os = s.os) (bare : AllBare s'.gens) (un : Un (frs X.stack) [] H H' s.heap s'.heap) (hok : HOk X.prog X.w H' s'.heap) (fe : s.heap.get? e = none) (nH : H' e = none)
    (he : s'.heap.get? e = some oe) (hd : oe.data = .fields vs) (h1 : vs[1]? = some .none) (h0 : vs[0]? = some a0) (hE : E oe.cls oe.dict H') :
    wpAny (model X.prog X.w) X.A (leaving X.env (.ref e)) (fun _ s'' => CXF X.prog X.w X.outer X.H₀ X.s₀ E (.ref e) s'') F s' := by
  have I3 : Inv X pins σ H' s' := I.call' (ch := []) os un hok bare (fun b z => absurd z (by simp))
  have hin : ∀ env ∈ X.stack, ∀ a, env.frame = some a → a ∈ e :: frs X.stack := fun env he a ha => List.mem_cons_of_mem _ (List.mem_filterMap.mpr ⟨env, he, ha⟩)
  have hl : s'.heap.FunFrames (PySem.W.hideAll s'.heap (e :: frs X.stack)) X.stack := PySem.W.funFrames_hide I3.stack hin
  have hkb : (PySem.W.hideAll s'.heap (e :: frs X.stack)).StaysIn s'.heap := fun b o q => PySem.W.of_hideAll _ q
  have hen : (PySem.W.hideAll s'.heap (e :: frs X.stack)).get? e = none := PySem.W.hideAll_none _ (List.mem_cons_self ..)
  have nb : ∀ b o, s.heap.get? b = some o → b ≠ e := fun b o q z => by rw [z, fe] at q; cases q
  refine leaves_firstD (base := PySem.W.hideAll s'.heap (e :: frs X.stack)) (outer := X.outer) (L := X.env.locals) (by rw [← hst]; exact I.ok.frames) (by rw [← hst]; exact hl) hf he hkb hen hd h1 h0 fun h2 fl up dk => ?_
  have cT : ∀ b u, H' b = some u → ∃ o, (PySem.W.hideAll s'.heap (e :: frs X.stack)).get? b = some o := fun b u q => by
    obtain ⟨o, ho⟩ := obj_at (hok b u q)
    refine ⟨o, PySem.W.hideAll_get _ ho fun z => ?_⟩
    rcases List.mem_cons.mp z with y | y
    · rw [y, nH] at q; cases q
    · rw [I3.stkFree b y] at q; cases q
  have cO : ∀ b o, s.heap.get? b = some o → H b = none → b ∉ frs X.stack → (PySem.W.hideAll s'.heap (e :: frs X.stack)).get? b = some o := fun b o q n hb =>
    PySem.W.hideAll_get _ (un.keep b o q n hb (by simp)) fun z => (List.mem_cons.mp z).elim (nb b o q) hb
  have cA : ∀ b o, s.heap.get? b = some o → b ∉ frs X.stack → ∃ o', (PySem.W.hideAll s'.heap (e :: frs X.stack)).get? b = some o' := fun b o q hb => by
    obtain ⟨o', q'⟩ := un.there b o q (by simp)
    exact ⟨o', PySem.W.hideAll_get _ q' fun z => (List.mem_cons.mp z).elim (nb b o q) hb⟩
  obtain ⟨un1, hok1⟩ := ride (P := X.prog) (w := X.w) (H := H) (H' := H') (h0 := s.heap) (g := s'.heap) un hok hkb hl cT cO cA fl.1 up
  obtain ⟨un2, cO2, cA2⟩ := out_of I hex un1 cO cA
  exact ⟨e, oe.cls, a0, oe.dict, H', _, rfl, os.trans I.os, bare, un2, hok1, fl, cT, cO2, cA2, dk e oe he, hE⟩
theorem passed_out {s' : Shared} {e : Value} {E : XK} {F : Value → Shared → Prop} (I : Inv X pins σ H s) (hst : X.stack = X.env :: X.outer) (hf : X.env.frame = some X.env.locals) (hex : X.ex = [])
    (hx : CXF X.prog X.w X.stack H s E e s') :
    wpAny (model X.prog X.w) X.A (leaving X.env e) (fun _ s'' => CXF X.prog X.w X.outer X.H₀ X.s₀ E e s'') F s' := by
  obtain ⟨x, cls, a0, dx, H', B, rfl, os, bare, un, hok, fl, cT, cO, cA, ⟨oe, hoe, hdx⟩, hE⟩ := hx
  have fl' := fl
  rw [hst] at fl'
  refine leaves_onD (base := B) (outer := X.outer) (by rw [← hst]; exact I.ok.frames) hf fl' fun h2 fl2 up dk => ?_
  obtain ⟨un1, hok1⟩ := ride (P := X.prog) (w := X.w) un hok fl.1 fl.2.2.1 cT cO cA fl2.1 up
  obtain ⟨un2, cO2, cA2⟩ := out_of I hex un1 cO cA
  obtain ⟨oe2, hoe2, hd2⟩ := dk x oe hoe
  exact ⟨x, cls, a0, dx, H', B, rfl, os.trans I.os, bare, un2, hok1, fl2, cT, cO2, cA2, ⟨oe2, hoe2, hd2.trans hdx⟩, hE⟩
end
abbrev cxX (P : Program) (w : World) (K : PySem.W.Frag) (mg : Str → Option Value) (base : Heap) (N : List Str) (qual : Str) (sc : Scope) (f : Addr) (cdv : Value) (A : Around) (outer : List Env) (s : Shared) (H : Hp) (E : XK) : Cx :=
  cxOf (CXF P w) P w K mg base N qual sc f cdv A outer s H E
section
variable {P : Program} {w : World} {K : PySem.W.Frag} {mg : Str → Option Value} {base : Heap} {N : List Str} {qual : Str} {sc : Scope} {f : Addr} {cdv : Value} {A : Around} {outer : List Env} {s : Shared} {H : Hp} {E : XK}
theorem passX : Passes (CXF P w) (cxX P w K mg base N qual sc f cdv A outer s H E) E := fun pins σ H1 s1 e s' I hx => passed_out I rfl rfl rfl hx
theorem pass00 {X : Cx} : Passes (CXF P w) X E0 := fun pins σ H1 s1 e s' I hx => by
  obtain ⟨_, _, _, _, _, _, _, _, _, _, _, _, _, _, _, _, hE⟩ := hx
  exact hE.elim
theorem FnOk.up {k : Nat} {fd : FuncData} {ps : List Str} {sp : Sp} {CX : CXT} (F : FnOk P w K mg base CX0 k f fd ps sp) : FnOk P w K mg base CX k f fd ps sp :=
  ⟨F.len, fun A outer s H args us vs Q E hr he hb hv hs => codeAny_mono (F.run A outer s H args us vs Q E hr he hb hv hs) fun r s' q => by
    cases r with
    | ok fl => cases fl <;> exact q
    | error e => exact (show False from q).elim⟩
theorem Fun.okX {x qual : Str} {st : Stmt} {fd : FuncData} {ps : List Str} {k : Nat} {sp : Sp} (F : Fun K x qual st f fd) (S : FnScope N ps (defScope st)) (len : ∀ vs H Q E, sp vs H Q E → vs.length = ps.length)
    (hbody : ∀ (cdv : Value) (A : Around) (outer : List Env) (s : Shared) (H : Hp) (vs : List V) (Q : VK) (E : XK), Room k (A.deeper (envOfC qual (defScope st) s.heap.objs.size f cdv)) → sp vs H Q E →
      ∃ t, PSs (cxX P w K mg base N qual (defScope st) f cdv A outer s H E) (defBody st) t ∧ t { nx := fun _ H' => Q .non H', rt := Q } (L2.start N vs) H) : FnOk P w K mg base (CXF P w) (k + 1) f fd ps sp := by
  obtain ⟨oc, od, kV, doc, pm, an, cdv, ct, osl, rfl, lk, hcd⟩ := F.ex
  exact fn_of lk hcd S len fun A outer s H vs Q E hr hsp => hbody cdv A outer s H vs Q E hr hsp
end
theorem own_obj {K : PySem.W.Frag} {h : Heap} {C : Addr} {bmB : List Value} {nw : String} (Z : K.In h) (q : PySem.W.excIn K C bmB nw = true) :
    ∃ bm N nm qn bs hd sn sub ab col dd k0 k1 k2 k3 k5 mN, h.get? C = some (excClassObj nm qn C N bs bm hd sn sub ab col dd k0 k1 k2 k3 k5 nw) ∧ h.Ns N mN ∧ mN "__init__" = none ∧ OwnTail h bmB bm := by
  unfold PySem.W.excIn at q
  split at q
  · rename_i dd cd sl lk
    split at q
    · rename_i C' bm k0 k1 k2 k3 n k5 hm hs
      simp only [Bool.and_eq_true, beq_iff_eq, Bool.not_eq_true'] at q
      obtain ⟨⟨⟨⟨⟨z1, z2⟩, z3⟩, z4⟩, z5⟩, z6⟩ := q
      subst z1 z2
      obtain ⟨nm, bs, mro, ns, qn, hd, sn, sub, ab, col, del⟩ := cd
      dsimp only at hm z3 z5 z6
      subst hm z3
      obtain ⟨l⟩ := sl
      dsimp only at hs
      subst hs
      exact ⟨bm, ns, nm, qn, bs, hd, sn, sub, ab, col, dd, k0, k1, k2, k3, k5, h.nsMap ns, Z _ _ lk, .of_isNs (PySem.W.isNs_of_in Z z5), PySem.W.nsMap_none_of_in Z z5 z6, PySem.W.tail_of_in Z z4⟩
    · exact absurd q Bool.false_ne_true
  · exact absurd q Bool.false_ne_true
def tRaise (R : Hp → Prop) : TS := fun _ _ H => R H
section
variable {X : Cx} {pins : List (Addr × Obj)} {σ : L2.St} {H H' : Hp} {s : Shared}
abbrev cxE (X : Cx) (v : Value) : Cx := { X with A := X.A.mark (some v), calm := false }
theorem inv_mark (I : Inv X pins σ H s) (v : Value) : Inv (cxE X v) pins σ H s :=
  ⟨⟨I.ok.mod, I.ok.kind, I.ok.glob, I.ok.blt, I.ok.above, I.ok.inj, I.ok.has, I.ok.cab, (fun z => nomatch z), I.ok.frames, I.ok.stk, I.ok.exf, I.ok.bs, I.ok.bsz, I.ok.noex, I.ok.exfs, I.ok.funs, I.ok.frf⟩, I.os, I.bare, I.base, I.loc, I.cell, I.free, I.freeC, I.pin, I.hok, I.len⟩
theorem inv_unmark {v : Value} (ok : X.Ok) (I : Inv (cxE X v) pins σ H s) : Inv X pins σ H s :=
  ⟨ok, I.os, I.bare, I.base, I.loc, I.cell, I.free, I.freeC, I.pin, I.hok, I.len⟩
theorem goes {M : Model} {A : Around} {E : Value → Shared → Prop} {n : Str} {i : Nat} {pos : Pos} {Q : Unit → Shared → Prop} (I : Inv X pins σ H s) (hN : X.N.Nodup) (hi : X.N[i]? = some n) (hl : X.env.kindOf n = some .local)
    (h : ∀ s', Inv X pins (σ.set i none) H s' → Q () s') : wpAny M A (do bindName X.env n .none; unbindBehindTheSuite X.env n pos) Q E s := by
  obtain ⟨m, hn, hl'⟩ := id I.loc
  have hiσ : i < σ.length := by rw [I.len]; exact (List.getElem?_eq_some_iff.mp hi).1
  refine wpAny_nameGoes_keeps hl hn (by rw [I.ok.kind]; rfl) fun h' v hn' hs => h _ ?_
  have ltL : ∀ b o, X.s₀.heap.get? b = some o → b ≠ X.env.locals := fun b o e => Nat.ne_of_lt (Nat.lt_of_lt_of_le (Heap.lt_size e) I.ok.above)
  have hok : HOk X.prog X.w H h' := fun b ob e => by
    refine (I.hok b ob e).stay (fun c w' hc q => (hs.2 c ?_).trans q) (fun _ q => q) fun _ _ q => q
    intro z
    rcases hc with y | y
    · rw [← y, z, I.free] at e; cases e
    · rw [z, I.free] at y; cases y
  refine ⟨I.ok, I.os, I.bare, ⟨fun b o e k hb hx => ?_, fun b o e k hb hx => ?_, I.base.free, fun b o e hx => ?_, I.base.tups, I.base.frzs, I.base.tbls⟩, ⟨_, hn', fun j y v' e1 e2 e3 => ?_⟩, fun y c e => ?_, I.free, I.freeC, fun p hp => ?_, hok, ?_⟩
  · exact (hs.2 b (ltL b o e)).trans (I.base.keep b o e k hb hx)
  · obtain ⟨sl, q⟩ := I.base.slot b o e k hb hx
    exact ⟨sl, (hs.2 b (ltL b o e)).trans q⟩
  · obtain ⟨o', q⟩ := I.base.there b o e hx
    exact ⟨o', (hs.2 b (ltL b o e)).trans q⟩
  · by_cases hj : j = i
    · rw [hj, List.getElem?_set_self hiσ] at e2
      cases e2
    · rw [List.getElem?_set_ne (Ne.symm hj)] at e2
      obtain ⟨u, r, q⟩ := hl' j y v' e1 e2 e3
      refine ⟨u, r, ?_⟩
      rcases q with ⟨k, e⟩ | ⟨k, c, e, z⟩
      · have ny : y ≠ n := fun z => hj (nodup_ix hN e1 (z ▸ hi))
        exact .inl ⟨k, by show (if y = n then v else m y) = some u; rw [if_neg ny]; exact e⟩
      · exact .inr ⟨k, c, e, z.sameBut hs (I.cne y c e)⟩
  · obtain ⟨w', z⟩ := I.cell y c e
    exact ⟨w', z.sameBut hs (I.cne y c e)⟩
  · obtain ⟨e, k, ne, nf, d⟩ := I.pin p hp
    exact ⟨(hs.2 p.1 ne).trans e, k, ne, nf, d⟩
  · rw [List.length_set]; exact I.len
def excAt (x : Addr) (cls : Value) (h : Heap) : Prop := ∃ ob, h.get? x = some ob ∧ ob.cls = cls
def excAtD (x : Addr) (cls : Value) (dx : Option Addr) (h : Heap) : Prop := ∃ ob, h.get? x = some ob ∧ ob.cls = cls ∧ ob.dict = dx ∧ ∃ vs, ob.data = .fields vs
def hoExcD (x : Addr) (cls : Value) (dx : Option Addr) : HO := .ext (excAtD x cls dx)
def tTry (K : PySem.W.Frag) (CB : Addr) (i : Nat) (sp : Sp) (t : TA) (ts : TS) : TS := fun D σ H => t σ H fun vs H1 => sp vs H1 (fun _ H2 => D.nx σ H2) fun cls dx H2 => PySem.W.exmOne K cls (.ref CB) = some true ∧
  ∀ x, H2 x = none → ts { nx := fun σ' H3 => D.nx (σ'.set i none) H3, rt := D.rt, bk := fun σ' H3 => D.bk (σ'.set i none) H3, ct := fun σ' H3 => D.ct (σ'.set i none) H3 } (σ.set i (some (.ref x))) (L2.upd H2 x (hoExcD x cls dx))
end
end Bw
set_option Elab.async false
set_option linter.all false
set_option maxRecDepth 100000
set_option maxHeartbeats 400000
namespace Bw
open PySem PySem.Spec PyProof.Rows L2
section
variable {prog : Program} {w : World} {A : Around} {E : Value → Shared → Prop} {K : PySem.W.Frag} {h : Heap} {g : Array GenState} {d : Drawn} {t : Nat} {os : OsState} {x C : Addr}
structure ExcK (K : PySem.W.Frag) (C : Addr) : Prop where
  ga : PySem.W.findIn K (.ref C) "__getattribute__" = some (some (.builtin "BaseException.__getattribute__"))
  gt : PySem.W.findIn K (.ref C) "__getattr__" = some none
  cl : PySem.W.findIn K (.ref C) "__class__" = some (some (.builtin "object.__class__"))
  mB : PySem.W.mroIn K C (.type "BaseException") = some true
  mO : PySem.W.mroIn K C (.type "object") = some true
  cls : (PySem.W.clsIn K C).isSome = true
theorem excAtD.at {cls : Value} {dx : Option Addr} (p : excAtD x cls dx h) : excAt x cls h := let ⟨ob, a, b, _⟩ := p; ⟨ob, a, b⟩
theorem exc_ty {cls : Value} (p : excAt x cls h) (M : Model) : PySem.W.Looks M h (typeOf (.ref x)) cls := by
  obtain ⟨ob, h1, h2⟩ := p
  exact h2 ▸ (PySem.W.Looks.ld h1).andThen .now
theorem exc_get {tp : Value} {R : Result → Shared → Prop} (Z : K.In h) (F : ExcK K C) (p : excAt x (.ref C) h) (hq : R (.ok (.ret (.ref C))) ⟨h, g, d, t, os⟩) :
    codeAny (model prog w) A (.call (.builtin "getset_descriptor.__get__") ⟨[.builtin "object.__class__", .ref x, tp], []⟩) R ⟨h, g, d, t, os⟩ := by
  have L0 := exc_ty p (model prog w)
  have L1 := PySem.W.looks_mroIn (M := model prog w) Z F.mO
  refine codeAny_call_builtin PySem.W.KF.slot_gs.plain PySem.W.KF.entry_gs (PySem.W.KF.slot_gs.check _ _ _ _ _ _ _ _ PySem.W.KF.type_class (PySem.W.KF.args_gs _ _ _) ?_)
  unfold Builtin.«getset_descriptor.__get__» Builtin.Getset_descriptor.descrGet
  rw [PySem.W.dga_obj]
  refine wpAny_bind (wpAny_pure ?_)
  unfold Builtin.Getset_descriptor.descrGetter Builtin.Getset_descriptor.descrCheckInstance Builtin.Getset_descriptor.descrNameAndClass isInstance
  simp only [PySem.W.KF.owner_class]
  repeat lk
  refine ⟨Code.quiet_builtin _ (by decide +kernel), codeAny_builtin PySem.W.KF.entry_class ?_⟩
  unfold Builtin.«object.__class__» shownTypeOf
  repeat lk
  exact hq
theorem exc_entry {tk : Tok} {Q : Fin → Shared → Prop} (Z : K.In h) (F : ExcK K C) (p : excAt x (.ref C) h) (hq : Q (.done (.ret (.ref C))) ⟨h, g, d, t, os⟩) :
    wpAny (model prog w) A (Builtin.«object.__getattribute__» ⟨[.ref x, .str "__class__" tk], []⟩) Q E ⟨h, g, d, t, os⟩ := by
  have L0 := exc_ty p (model prog w)
  have L1 := PySem.W.looks_findIn (M := model prog w) Z F.cl
  have hT5 : (⟨h, g, d, t, os⟩ : Shared).TypeIs (.builtin "object.__class__") "getset_descriptor" := PySem.F.typeOf_object_class
  have f5 := PySem.F.typeOf_object_class
  have f6 := PySem.F.slot_gs_get.lookup
  have f7 := PySem.F.slot_gs_set.lookup
  repeat (any_goals (first | assumption | (with_reducible refine PySem.W.Looks.at (by assumption) ?_) | wp_step))
  refine exc_get Z F p ?_
  repeat (any_goals (first | assumption | wp_step))
theorem exc_isB {M : Model} (Z : K.In h) (F : ExcK K C) (p : excAt x (.ref C) h) : PySem.W.Looks M h (isInstance (.ref x) (.type "BaseException")) true := (exc_ty p M).andThen (PySem.W.looks_mroIn Z F.mB)
theorem ga_kind : builtinKind "BaseException.__getattribute__" = some .slot := by decide +kernel
theorem ga_split : splitId "BaseException.__getattribute__" = some ("BaseException", "__getattribute__") := by decide +kernel
theorem exc_check {M : Model} {nameV : Value} {Q : Unit → Shared → Prop} (Z : K.In h) (F : ExcK K C) (p : excAt x (.ref C) h) (hq : Q () ⟨h, g, d, t, os⟩) :
    wpAny M A (checkBuiltinCall "BaseException.__getattribute__" ⟨[.ref x, nameV], []⟩) Q E ⟨h, g, d, t, os⟩ := by
  have ha := PySem.F.args_bexc_ga (.ref x) nameV
  simp only [checkBuiltinCall, ga_kind, ga_split]
  refine wpAny_bind ((exc_isB (M := M) Z F p).here (s := ⟨h, g, d, t, os⟩) ?_)
  repeat wp_step
  exact hq
theorem exc_call {tk : Tok} {R : Result → Shared → Prop} (Z : K.In h) (F : ExcK K C) (p : excAt x (.ref C) h) (hq : R (.ok (.ret (.ref C))) ⟨h, g, d, t, os⟩) :
    codeAny (model prog w) A (.call (.builtin "BaseException.__getattribute__") ⟨[.ref x, .str "__class__" tk], []⟩) R ⟨h, g, d, t, os⟩ :=
  codeAny_call_builtin PySem.F.excAttr_ValueError.ga.plain PySem.F.entry_bexc_ga (exc_check Z F p (exc_entry Z F p hq))
theorem exc_by {tk : Tok} {Q : Value → Shared → Prop} (Z : K.In h) (F : ExcK K C) (p : excAt x (.ref C) h) (hq : Q (.ref C) ⟨h, g, d, t, os⟩) :
    wpAny (model prog w) A (getAttrBy (.ref x) (.str "__class__" tk) false) Q E ⟨h, g, d, t, os⟩ := by
  have L0 := exc_ty p (model prog w)
  have L1 := PySem.W.looks_findIn (M := model prog w) Z F.ga
  have L2 := PySem.W.looks_findIn (M := model prog w) Z F.gt
  have f3 := PySem.F.excAttr_ValueError.ga.bind (.ref x)
  have hx2 : (Value.builtin "BaseException.__getattribute__" == Value.builtin "object.__getattribute__") = false := by decide +kernel
  have hx1 : (onTheHeap (Value.ref C) && Value.builtin "BaseException.__getattribute__" == Value.builtin "object.__getattribute__") = false := by rw [hx2]; rfl
  repeat (any_goals (first | assumption | (with_reducible refine PySem.W.Looks.at (by assumption) ?_) | wp_step))
  refine exc_call Z F p ?_
  repeat (any_goals (first | assumption | wp_step))
theorem exc_attr {Q : Option Value → Shared → Prop} (Z : K.In h) (F : ExcK K C) (p : excAt x (.ref C) h) (hq : Q (some (.ref C)) ⟨h, g, d, t + 1, os⟩) :
    wpAny (model prog w) A (getAttr? (.ref x) "__class__") Q E ⟨h, g, d, t, os⟩ := by
  unfold getAttr? getAttrBy?
  repeat (any_goals (first | assumption | with_reducible apply exc_by Z F p | wp_step))
theorem kitx_exc (F : ExcK K C) : PySem.W.KitX K (.ref x) (.ref C) (excAt x (.ref C)) where
  ty := fun M _ _ p => exc_ty p M
  it := fun M h' Z _ => by
    obtain ⟨cd, hcd⟩ := Option.isSome_iff_exists.mp F.cls
    unfold PySem.W.clsIn at hcd
    split at hcd
    · rename_i lk
      intro A' Q' E' s' k q
      unfold isType loadHead
      exact wpAny_bind (wpAny_loadPart (k _ _ (Z _ _ lk)) (wpAny_pure q))
    · cases hcd
  ne := fun h' tp dd its n sl Z htp => by
    obtain ⟨cd, hcd⟩ := Option.isSome_iff_exists.mp F.cls
    refine Bool.eq_false_iff.mpr fun q => ?_
    have e : C = tp := Value.ref.inj (beq_iff_eq.mp q)
    subst e
    unfold PySem.W.clsIn at hcd
    split at hcd
    · rename_i lk
      have z := (Z _ _ lk).symm.trans htp
      cases z
    · cases hcd
  ca := fun {prog w A E Q s} Z p k => by
    obtain ⟨h1, g1, d1, t1, os1⟩ := s
    exact exc_attr Z F p k
end
section
variable {X : Cx}
def XAt (H : Hp) (x C : Addr) : Prop := ∃ dx, H x = some (hoExcD x (.ref C) dx)
def rIsiE (K : PySem.W.Frag) (C : Addr) : List V → Hp → VK → Prop := fun xs H Q => ∃ (x : Addr) (c : V) (cv : Value) (b : Bool), xs = [.ref x, c] ∧ RelV c cv ∧ XAt H x C ∧ PySem.W.kitOne K (.ref C) cv = some b ∧ Q (.bl b) H
theorem call_isiE {C : Addr} (F : ExcK X.K C) : CallR X (.builtin "isinstance") (rIsiE X.K C) := by
  intro pins s σ H xs us Q I r h
  obtain ⟨x, c, cv, b, rfl, rc, ⟨dx, hx⟩, e, q⟩ := h
  obtain ⟨u, w', rfl, rx, rc'⟩ := vals2 r
  cases (show u = Value.ref x from rx)
  have hw : w' = cv := by
    cases c with
    | ref a => exact (show w' = Value.ref a from rc').trans (show cv = Value.ref a from rc).symm
    | ty n => exact (show w' = Value.type n from rc').trans (show cv = Value.type n from rc).symm
    | non => exact (show w' = Value.none from rc').trans (show cv = Value.none from rc).symm
    | bl z => exact (show w' = Value.bool z from rc').trans (show cv = Value.bool z from rc).symm
    | int i =>
      obtain ⟨t, rfl⟩ := rc
      exact absurd e (by unfold PySem.W.kitOne PySem.W.kitCls; simp)
    | str i =>
      obtain ⟨t, rfl⟩ := rc
      exact absurd e (by unfold PySem.W.kitOne PySem.W.kitCls; simp)
    | byt i =>
      obtain ⟨t, rfl⟩ := rc
      exact absurd e (by unfold PySem.W.kitOne PySem.W.kitCls; simp)
    | flt i =>
      obtain ⟨t, rfl⟩ := rc
      exact absurd e (by unfold PySem.W.kitOne PySem.W.kitCls; simp)
  subst hw
  have hp : excAt x (.ref C) s.heap := ((show ObjOk X.prog X.w H s.heap x (.ext (excAtD x (.ref C) dx)) from I.hok x _ hx).1).at
  exact PySem.W.kia_one (kitx_exc F) I.kIn hp e (fun z => nomatch z) fun tk => ⟨.bl b, H, I.tok _, rfl, q⟩
def rIsiT (K : PySem.W.Frag) (C : Addr) : List V → Hp → VK → Prop := fun xs H Q => ∃ (x tp : Addr) (cs : List Addr) (b : Bool), xs = [.ref x, .ref tp] ∧ XAt H x C ∧ H tp = some (.tup (cs.map V.ref)) ∧ PySem.W.kitAny K (.ref C) (cs.map Value.ref) = some b ∧ Q (.bl b) H
theorem vals_refs : ∀ {cs : List Addr} {us : List Value}, Vals (cs.map V.ref) us → us = cs.map Value.ref
  | [], _, .nil => rfl
  | a :: cs, _, .cons r t => by
    cases (show _ = Value.ref a from r)
    rw [vals_refs t]
    rfl
theorem call_isiT {C : Addr} (F : ExcK X.K C) : CallR X (.builtin "isinstance") (rIsiT X.K C) := by
  intro pins s σ H xs us Q I r h
  obtain ⟨x, tp, cs, b, rfl, ⟨dx, hx⟩, ht, e, q⟩ := h
  obtain ⟨u, w', rfl, rx, rc'⟩ := vals2 r
  cases (show u = Value.ref x from rx)
  cases (show w' = Value.ref tp from rc')
  have hp : excAt x (.ref C) s.heap := ((show ObjOk X.prog X.w H s.heap x (.ext (excAtD x (.ref C) dx)) from I.hok x _ hx).1).at
  obtain ⟨_, its, rv, o, ho, hc, n, hd⟩ := (show ObjOk X.prog X.w H s.heap tp (.tup (cs.map V.ref)) from I.hok tp _ ht)
  have hv := vals_refs rv
  subst hv
  obtain ⟨oc, dd, dt, sl⟩ := o
  dsimp only at hc hd
  subst hc hd
  exact PySem.W.kia_tup (kitx_exc F) I.kIn hp ho e (fun z => nomatch z) fun tk => ⟨.bl b, H, I.tok _, rfl, q⟩
end
structure CalX (P : Program) (w : World) (K : PySem.W.Frag) (mg : Str → Option Value) (base : Heap) (x : Str) (ps : List Str) (k : Nat) (sp : Sp) : Prop where
  ex : ∃ f fd, FnOk P w K mg base (CXF P w) k f fd ps sp ∧ Binds K fd ps [] ∧ PySem.W.keepIn K (.ref f) = true ∧ mg x = some (.ref f)
theorem pe_calN {X : Cx} {x : Str} {ps : List Str} {k : Nat} {sp : Sp} {e : Expr} {es : List Expr} {t : TA} {p pos : Pos} (C : CalX X.prog X.w X.K X.mg X.base x ps k sp) (hr : Room k X.A) (hg : Gl X x) (ha : PA X (e :: es) t)
    (hdb : (x == ("__debug__" : Str)) = false := by decide) (he : starEach (e :: es) X.env = (false, eval e X.env) :: starEach es X.env := by rfl) (hpl : (backTo pos (starEach es X.env)).any (·.1) = false := by rfl) :
    PE X (.Call (.Name x p) (e :: es) [] pos) (tCall sp [] E0 t) := by
  obtain ⟨f, fd, F, b, kp, m⟩ := C.ex
  exact pe_call F hr hg m kp b .nil pass00 ha hdb he hpl
theorem pe_calX {P : Program} {w : World} {K : PySem.W.Frag} {mg : Str → Option Value} {base : Heap} {N : List Str} {qual : Str} {sc : Scope} {f : Addr} {cdv : Value} {A : Around} {outer : List Env} {s : Shared} {H : Hp} {E : XK}
    {x : Str} {ps : List Str} {k : Nat} {sp : Sp} {e : Expr} {es : List Expr} {t : TA} {p pos : Pos} (C : CalX P w K mg base x ps k sp) (hr : Room k (cxX P w K mg base N qual sc f cdv A outer s H E).A) (hg : Gl (cxX P w K mg base N qual sc f cdv A outer s H E) x)
    (ha : PA (cxX P w K mg base N qual sc f cdv A outer s H E) (e :: es) t)
    (hdb : (x == ("__debug__" : Str)) = false := by decide) (he : starEach (e :: es) (cxX P w K mg base N qual sc f cdv A outer s H E).env = (false, eval e (cxX P w K mg base N qual sc f cdv A outer s H E).env) :: starEach es (cxX P w K mg base N qual sc f cdv A outer s H E).env := by rfl)
    (hpl : (backTo pos (starEach es (cxX P w K mg base N qual sc f cdv A outer s H E).env)).any (·.1) = false := by rfl) :
    PE (cxX P w K mg base N qual sc f cdv A outer s H E) (.Call (.Name x p) (e :: es) [] pos) (tCall sp [] E t) := by
  obtain ⟨f', fd, F, b, kp, m⟩ := C.ex
  exact pe_call F hr hg m kp b .nil passX ha hdb he hpl
theorem w_raise {R : Hp → Prop} {D : Ends} {σ : L2.St} {H : Hp} : tRaise R D σ H = R H := rfl
theorem w_try {K : PySem.W.Frag} {CB : Addr} {i : Nat} {sp : Sp} {t : TA} {ts : TS} {D : Ends} {σ : L2.St} {H : Hp} : tTry K CB i sp t ts D σ H = t σ H (fun vs H1 => sp vs H1 (fun _ H2 => D.nx σ H2) fun cls dx H2 => PySem.W.exmOne K cls (.ref CB) = some true ∧
  ∀ x, H2 x = none → ts { nx := fun σ' H3 => D.nx (σ'.set i none) H3, rt := D.rt, bk := fun σ' H3 => D.bk (σ'.set i none) H3, ct := fun σ' H3 => D.ct (σ'.set i none) H3 } (σ.set i (some (.ref x))) (L2.upd H2 x (hoExcD x cls dx))) := rfl
theorem w_KX {K : PySem.W.Frag} {P : Program} {w : World} {mg : Str → Option Value} {base : Heap} {N : List Str} {qual : Str} {sc : Scope} {f : Addr} {cd : Value} {A : Around} {outer : List Env} {s : Shared} {H : Hp} {E : XK} : (cxX P w K mg base N qual sc f cd A outer s H E).K = K := rfl
theorem at_memV {xs : List V} {i : Int} (h0 : 0 ≤ i) (h : i < xs.length) : ∃ z ∈ xs, atI xs i = some z := by
  have hk : i.toNat < xs.length := by omega
  have ek : i = ((i.toNat : Nat) : Int) := by omega
  refine ⟨xs[i.toNat], List.getElem_mem hk, ?_⟩
  have q : atI xs ((i.toNat : Nat) : Int) = some xs[i.toNat] := atI_nat (List.getElem?_eq_getElem hk)
  rwa [← ek] at q
theorem boot_ValueError : bootBuiltins "ValueError" = some (.type "ValueError") := by decide +kernel
end Bw
set_option Elab.async false
set_option linter.all false
set_option maxRecDepth 100000
set_option maxHeartbeats 1000000
namespace Bw
open PySem PySem.Spec PyProof.Rows L2
section
variable {X : Cx}
def Flew (X : Cx) (pins : List (Addr × Obj)) (σ : L2.St) (E : XK) (e : Value) (s' : Shared) : Prop := ∃ H1 s1, Inv X pins σ H1 s1 ∧ CXF X.prog X.w X.stack H1 s1 E e s'
def PBE (X : Cx) (e : Expr) (t : XK → TE) : Prop :=
  ∀ (pins : List (Addr × Obj)) (s : Shared) (σ : L2.St) (H : Hp) (Q : VK) (E : XK), Inv X pins σ H s → t E σ H Q → wpAny (model X.prog X.w) X.A (eval e X.env) (EP X pins σ Q) (Flew X pins σ E) s
def PBS (X : Cx) (st : Stmt) (t : XK → TS) : Prop :=
  ∀ (pins : List (Addr × Obj)) (s : Shared) (σ : L2.St) (H : Hp) (D : Ends) (E : XK), Inv X pins σ H s → t E D σ H → wpAny (model X.prog X.w) X.A (exec st X.env) (SP X pins D) (Flew X pins σ E) s
def tBMake (C : Addr) (sp : Sp) (dvs : List V) (t : TA) : XK → TE := fun E σ H Q => t σ H fun vs H1 => ∀ x dx, H1 x = none → H1 dx = none → dx ≠ x →
  sp (.ref x :: (vs ++ dvs)) (upd (upd H1 dx (.own x)) x (.ins C dx [])) (fun v H2 => v = .non ∧ Q (.ref x) H2) E
theorem pbe_make {x : Str} {k : Nat} {f C : Addr} {fd : FuncData} {ps : List Str} {sp : Sp} {ds : List Value} {dvs : List V} {e : Expr} {es : List Expr} {t : TA} {p pos : Pos} (hnx : ∀ v s, ¬ X.xe v s) (M : Mk X.K C f)
    (F : FnOk X.prog X.w X.K X.mg X.base (CXF X.prog X.w) k f fd ps sp) (hr : Room (k + 1) X.A) (hg : Gl X x) (hm : X.mg x = some (.ref C)) (hb : Binds X.K fd ps ds) (hd : Vals dvs ds) (ha : PA X (e :: es) t)
    (hdb : (x == ("__debug__" : Str)) = false := by decide) (he : starEach (e :: es) X.env = (false, eval e X.env) :: starEach es X.env := by rfl) (hpl : (backTo pos (starEach es X.env)).any (·.1) = false := by rfl) :
    PBE X (.Call (.Name x p) (e :: es) [] pos) (tBMake C sp dvs t) := by
  intro pins s0 σ H0 Q E I0 h
  refine wpAny_Call_Name_kw (ld_glob I0 hg hm ?_ hdb)
  refine PySem.W.callWith_K (h₀ := X.base) I0.ok.mod.kin M.kp (wpAny_mono (ha pos pins s0 σ H0 _ I0 h) (fun us s q1 => ?_) fun _ _ z => (hnx _ _ z).elim) he hpl
  obtain ⟨vs, H, I, r, h⟩ := q1
  refine ⟨I.kIn, ?_⟩
  have hq := h (s.heap.objs.size + 1) s.heap.objs.size (I.hok.fresh (Nat.le_succ _)) (I.hok.fresh (Nat.le_refl _)) (Nat.ne_of_lt (Nat.lt_succ_self _))
  have I2 := Inv.made (C := C) I
  have r2 : Vals (V.ref (s.heap.objs.size + 1) :: (vs ++ dvs)) (Value.ref (s.heap.objs.size + 1) :: (us ++ ds)) := .cons rfl (r.append hd)
  have hl : (Value.ref (s.heap.objs.size + 1) :: us ++ ds).length = ps.length := by
    have e := r2.length
    rw [F.len _ _ _ _ hq] at e
    exact e.symm
  refine wpAny_call (make_map (f := f) I.kIn M.makes M.init (beq_iff_eq.mp M.fn) (codeAny_mono (F.run _ X.stack _ _ ⟨Value.ref (s.heap.objs.size + 1) :: us, []⟩ (Value.ref (s.heap.objs.size + 1) :: (us ++ ds)) _ _ E (hr.make C us [])
    (I2.env0.make C us []) (hb _ (Value.ref (s.heap.objs.size + 1) :: us) I2.kIn hl) r2 hq) fun r s' hq' => ?_))
  cases r with
  | error e => exact ⟨_, _, I2, hq'⟩
  | ok fl =>
    cases fl with
    | ret u =>
      obtain ⟨v, H', I3, rv, ev, q3⟩ := I2.after hq'
      subst ev
      exact ⟨rv, ⟨V.ref (s.heap.objs.size + 1), H', I3, rfl, q3⟩⟩
    | next => exact False.elim hq'
    | brk => exact False.elim hq'
    | cont => exact False.elim hq'
theorem pbs_expr {e : Expr} {t : XK → TE} {pos : Pos} (he : PBE X e t) (hsw : swapsWith e none pos.line X.env = pure false := by rfl) : PBS X (.Expr e pos) (fun E => tDrop (t E)) := by
  intro pins s σ H D E I h
  exact wpAny_Expr_any (thn (he pins s σ H _ E I h) fun v s1 ⟨x, H1, I1, _, q⟩ => ⟨σ, H1, I1, q⟩) I.quiet hsw
def tTryB (K : PySem.W.Frag) (CB : Addr) (i : Nat) (tb : XK → TS) (ts : TS) : TS := fun D σ H => tb (fun cls dx H2 => PySem.W.exmOne K cls (.ref CB) = some true ∧
  ∀ x, H2 x = none → ts { nx := fun σ' H3 => D.nx (σ'.set i none) H3, rt := D.rt, bk := fun σ' H3 => D.bk (σ'.set i none) H3, ct := fun σ' H3 => D.ct (σ'.set i none) H3 } (σ.set i (some (.ref x))) (L2.upd H2 x (hoExcD x cls dx))) D σ H
theorem ps_tryB {cn n : Str} {i : Nat} {CB : Addr} {st : Stmt} {tb : XK → TS} {b₀ : Stmt} {suite : List Stmt} {ts : TS} {cp hpos tpos : Pos}
    (hst : X.stack = X.env :: X.outer) (hf : X.env.frame = some X.env.locals) (hnx : ∀ v s, ¬ X.xe v s) (hb : PBS X st tb)
    (hgC : Gl X cn) (hmC : X.mg cn = some (.ref CB)) (hN : X.N.Nodup) (hi : X.N[i]? = some n) (hl : X.env.scope.names.lookup n = some .local) (hs : ∀ v : Value, PSs (cxE X v) (b₀ :: suite) ts)
    (hdc : (cn == ("__debug__" : Str)) = false := by decide) :
    PS X (.Try [st] [.ExceptHandler (some (.Name cn cp)) (some n) (b₀ :: suite) hpos] [] [] tpos) (tTryB X.K CB i tb ts) := by
  intro pins s σ H D I h
  refine wpAny_Try_except (wpAny_execs_cons (wpAny_mono (hb pins s σ H _ _ I h) (fun fl s' q => ?_) fun ev s' hq => ?_))
  · cases fl with
    | next => exact wpAny_execs_nil (wpAny_execs_nil q)
    | brk => exact q
    | cont => exact q
    | ret u => exact q
  obtain ⟨H1, s1, I1, hq1⟩ := hq
  obtain ⟨x', cls, a0, dx, H2, B, rfl, os, bare, un, hok, fl, cT, cO, cA, ⟨oe0, hoe0, hdx0⟩, hm1, hE⟩ := hq1
  have fl' := fl
  rw [hst] at fl'
  refine looks_onD (base := B) (outer := X.outer) (L := X.env.locals) (by rw [← hst]; exact I1.ok.frames) hf fl' fun h4 held4 up4 dk4 => ?_
  refine landsD held4 fun h5 fl5 up5 dk5 => ?_
  rw [← hst] at fl5
  obtain ⟨un5, hok5⟩ := ride (P := X.prog) (w := X.w) un hok fl.1 fl.2.2.1 cT cO cA fl5.1 (up4.trans up5)
  have I5 : Inv X pins σ H2 { s' with heap := h5 } := I1.call' (s' := { s' with heap := h5 }) (ch := []) os un5 hok5 bare (fun b z => absurd z (by simp))
  have X5 := inv_mark I5 (.ref x')
  have ty5 : PySem.W.Looks (model X.prog X.w) h5 (typeOf (.ref x')) cls := by
    obtain ⟨ob, hob, hc⟩ := fl5.there
    subst hc
    exact (PySem.W.Looks.ld hob).andThen .now
  refine wpAny_handleBy_cons (codeAny_handlers_test (ld_glob X5 hgC hmC ((PySem.W.exm_one I5.kIn ty5 hm1).here ?_) hdc)) (by intro z; cases z)
  refine codeAny_handlers_suite_as ?_
  refine lands_againD fl5 fun h6 fl6 up6 dk6 => ?_
  obtain ⟨un6, hok6⟩ := ride (P := X.prog) (w := X.w) un5 hok5 fl5.1 fl5.2.2.1 cT cO cA fl6.1 up6
  obtain ⟨ob, vs6, hob, hcl, hdt6, _⟩ := fl6.first
  have hdx : ob.dict = dx := by
    obtain ⟨o1, g1, d1⟩ := dk4 x' oe0 hoe0
    obtain ⟨o2, g2, d2⟩ := dk5 x' o1 g1
    obtain ⟨o3, g3, d3⟩ := dk6 x' o2 g2
    rw [hob] at g3
    cases g3
    rw [d3, d2, d1, hdx0]
  have nH : H2 x' = none := by
    cases z : H2 x' with
    | none => rfl
    | some u =>
      obtain ⟨o, ho⟩ := cT x' u z
      rw [fl.2.1] at ho
      cases ho
  have nS : ∀ o, s1.heap.get? x' ≠ some o := fun o ho => by
    by_cases hx' : x' ∈ frs X.stack
    · obtain ⟨_, o', ho', hn'⟩ := fl6.2.2.1.mem hx'
      obtain ⟨oe, ws, hoe, _, hoed, _⟩ := fl6.first
      rw [hoe] at ho'
      cases ho'
      exact hn' _ hoed
    · obtain ⟨o', ho'⟩ := cA x' o ho hx'
      rw [fl.2.1] at ho'
      cases ho'
  have hT : ∀ b u, H2 b = some u → L2.upd H2 x' (hoExcD x' cls dx) b = some u := fun b u z => by rw [upd_ne (ne_of_none z nH)]; exact z
  have un7 : Un (frs X.stack) [] H1 (L2.upd H2 x' (hoExcD x' cls dx)) s1.heap h6 :=
    ⟨un6.keep, un6.slot, fun b o q n hx => by
      have nb : b ≠ x' := fun z => nS o (by rw [← z]; exact q)
      rw [upd_ne nb]
      exact un6.free b o q n hx, un6.there, fun b xs z => hT _ _ (un6.tups b xs z), fun b o u z => hT _ _ (un6.frzs b o u z), fun b ps z => by
      obtain ⟨m1, e1⟩ := un6.tbls b ps z
      exact ⟨m1, hT _ _ e1⟩⟩
  have hok7 : HOk X.prog X.w (L2.upd H2 x' (hoExcD x' cls dx)) h6 := fun b u z => by
    by_cases hbx : b = x'
    · subst hbx
      rw [upd_same] at z
      cases z
      exact ⟨⟨ob, hob, hcl, hdx, vs6, hdt6⟩, ⟨ob, hob⟩, fun h1 h2 ⟨o1, q1, q2⟩ k => ⟨o1, k _ q1, q2⟩⟩
    · rw [upd_ne hbx] at z
      exact (hok6 b u z).stay (fun _ _ _ q => q) (fun c q => hT _ _ q) fun c xs q => hT _ _ q
  have I6 : Inv X pins σ (L2.upd H2 x' (hoExcD x' cls dx)) { s' with heap := h6 } := I1.call' (s' := { s' with heap := h6 }) (ch := []) os un7 hok7 bare (fun b z => absurd z (by simp))
  refine store_ok (X := cxE X (.ref x')) (inv_mark I6 (.ref x')) hN hi (.inl hl) (v := .ref x') rfl (fun s7 I7 => ?_) (.inr hl)
  refine wpAny_mono (hs (.ref x') pins s7 _ _ _ I7 (hE x' nH)) (fun f8 s8 q8 => ?_) fun _ _ z => (hnx _ _ z).elim
  cases f8 with
  | next =>
    obtain ⟨σ8, H8, I8, q8⟩ := q8
    exact goes (inv_unmark I1.ok I8) hN hi hl fun s9 I9 => ⟨_, H8, I9, q8⟩
  | brk =>
    obtain ⟨σ8, H8, I8, q8⟩ := q8
    exact goes (inv_unmark I1.ok I8) hN hi hl fun s9 I9 => ⟨_, H8, I9, q8⟩
  | cont =>
    obtain ⟨σ8, H8, I8, q8⟩ := q8
    exact goes (inv_unmark I1.ok I8) hN hi hl fun s9 I9 => ⟨_, H8, I9, q8⟩
  | ret u =>
    obtain ⟨v, σ8, H8, I8, r8, q8⟩ := q8
    exact goes (inv_unmark I1.ok I8) hN hi hl fun s9 I9 => ⟨v, _, H8, I9, r8, q8⟩
end
end Bw
set_option Elab.async false
set_option linter.all false
set_option maxRecDepth 100000
set_option maxHeartbeats 1000000
namespace Bw
open PySem PySem.Spec PyProof.Rows L2
theorem lookup_mem {α : Type} {x : Str} {c : α} : ∀ {l : List (Str × α)}, l.lookup x = some c → (x, c) ∈ l
  | [], h => by simp at h
  | (n, k) :: r, h => by
    rw [List.lookup_cons] at h
    cases hx : x == n with
    | true =>
      rw [hx] at h
      have e : x = n := by simpa using hx
      have e2 : k = c := by simpa using h
      subst e e2
      exact List.mem_cons_self
    | false =>
      rw [hx] at h
      exact List.mem_cons_of_mem _ (lookup_mem h)
theorem mem_lookup {α : Type} {x : Str} {c : α} : ∀ {l : List (Str × α)}, (x, c) ∈ l → ∃ c', l.lookup x = some c'
  | [], h => by cases h
  | (n, k) :: r, h => by
    rw [List.lookup_cons]
    cases hx : x == n with
    | true => exact ⟨k, rfl⟩
    | false =>
      rcases List.mem_cons.mp h with e | e
      · cases e
        simp at hx
      · exact mem_lookup e
theorem closure_run {env : Env} : ∀ (names : List (Str × NameKind)) (acc : List (Str × Addr)), (∀ y ∈ names, y.2 = .free → ∃ c, env.cells.lookup y.1 = some c) →
    ∃ cl : List (Str × Addr), (forIn (m := Sem) names acc fun (x : Str × NameKind) r =>
        if (x.2 == NameKind.free) = true then do let a ← cellOf env x.1; pure (ForInStep.yield ((x.1, a) :: r)) else pure (ForInStep.yield r)) = pure cl ∧
      (∀ p ∈ cl, p ∈ acc ∨ env.cells.lookup p.1 = some p.2) ∧ (∀ p ∈ acc, p ∈ cl) ∧ ∀ x, (x, NameKind.free) ∈ names → ∃ c, (x, c) ∈ cl
  | [], acc, _ => ⟨acc, rfl, fun p hp => .inl hp, fun p hp => hp, fun x hx => by cases hx⟩
  | (n, k) :: r, acc, h => by
    by_cases hk : k = .free
    · subst hk
      obtain ⟨c, hc⟩ := h (n, .free) List.mem_cons_self rfl
      obtain ⟨cl, e, h1, h2, h3⟩ := closure_run r ((n, c) :: acc) fun y hy => h y (List.mem_cons_of_mem _ hy)
      have hc' : cellOf env n = pure c := by unfold cellOf; rw [hc]
      refine ⟨cl, ?_, fun p hp => ?_, fun p hp => h2 p (List.mem_cons_of_mem _ hp), fun x hx => ?_⟩
      · rw [List.forIn_cons]
        simp only [beq_self_eq_true, if_true, hc', pure_bind]
        exact e
      · rcases h1 p hp with z | z
        · rcases List.mem_cons.mp z with rfl | z
          · exact .inr hc
          · exact .inl z
        · exact .inr z
      · rcases List.mem_cons.mp hx with z | z
        · cases z
          exact ⟨c, h2 _ List.mem_cons_self⟩
        · exact h3 x z
    · obtain ⟨cl, e, h1, h2, h3⟩ := closure_run r acc fun y hy => h y (List.mem_cons_of_mem _ hy)
      have hb : (k == NameKind.free) = false := by simpa using hk
      refine ⟨cl, ?_, h1, h2, fun x hx => ?_⟩
      · rw [List.forIn_cons]
        simp only [hb, Bool.false_eq_true, if_false, pure_bind]
        exact e
      · rcases List.mem_cons.mp hx with z | z
        · cases z
          exact absurd rfl hk
        · exact h3 x z
theorem closure_of {env : Env} {scope : Scope} (h : ∀ y ∈ scope.names, y.2 = .free → ∃ c, env.cells.lookup y.1 = some c) :
    ∃ cl, closureFor scope env = pure cl ∧ (∀ x c, cl.lookup x = some c → env.cells.lookup x = some c) ∧ ∀ x, (x, NameKind.free) ∈ scope.names → ∃ c, cl.lookup x = some c := by
  obtain ⟨cl, e, h1, h2, h3⟩ := closure_run (env := env) scope.names [] h
  refine ⟨cl, ?_, fun x c hx => ?_, fun x hx => ?_⟩
  · unfold closureFor
    simp only [bind_pure]
    exact e
  · rcases h1 _ (lookup_mem hx) with z | z
    · cases z
    · exact z
  · obtain ⟨c, hc⟩ := h3 x hx
    exact mem_lookup hc
theorem relabel_mem {scope : Scope} {env : Env} {x : Str} {k : NameKind} (h : (relabel scope env).names.lookup x = some k) : (x, k) ∈ scope.names ∨ (k = .cell ∧ (x, NameKind.free) ∈ scope.names) := by
  obtain ⟨⟨n, k'⟩, hm, e⟩ := List.mem_map.mp (lookup_mem h)
  dsimp only at e
  split at e
  · rename_i hc
    simp only [Bool.and_eq_true, beq_iff_eq] at hc
    obtain ⟨⟨rfl, _⟩, _⟩ := hc
    cases e
    exact .inr ⟨rfl, hm⟩
  · cases e
    exact .inl hm
abbrev blk (X : Cx) (N : List Str) (scope : Scope) (cl : List (Str × Addr)) (C : Addr) (s : Shared) (H : Hp) (fp : List Addr) : Cx :=
  { prog := X.prog, w := X.w, K := X.K, mg := X.mg, base := X.base, A := X.A, N := N, s₀ := s, H₀ := H, env := compEnvC scope cl C X.env, outer := X.stack, stack := X.stack, ex := fp, fn := fun _ => false, calm := X.calm, pn := [], xe := fun _ _ => False }
def pick (ix : List (Option Nat)) (σ : L2.St) : L2.St := ix.map fun o => o.bind fun j => (σ[j]?).getD none
def PTs (X : Cx) (ifs : List Expr) (t : TT) : Prop :=
  ∀ (pins : List (Addr × Obj)) (s : Shared) (σ : L2.St) (H : Hp) (Q : Bool → Hp → Prop), Inv X pins σ H s → t σ H Q →
    wpAny (model X.prog X.w) X.A (forIn ifs true fun c r => if r = true then do let ok ← isTrue c X.env (eval c X.env); pure (ForInStep.yield ok) else pure (ForInStep.yield r)) (TP X pins σ Q) X.xe s
def tYes : TT := fun _ H Q => Q true H
theorem pts_nil {X : Cx} : PTs X [] tYes := fun pins s σ H Q I h => wpAny_tests_nil ⟨H, I, h⟩
def tComp (wi : TI) (ix : List (Option Nat)) (g : TG) (tt : TT) (te : TE) : TE := fun σ H Q => wi σ H fun J H1 => ∃ W : Nat → Nat → List V → L2.St → Hp → Prop, (∃ m, W 0 m [] (pick ix σ) H1) ∧ ∀ i m acc σ H, W i m acc σ H →
  (J.stop i H ∧ ∀ D, H D = none → Q (.ref D) (upd H D (.lst acc))) ∨
  (J.go i H ∧ acc.length < sizeLine ∧ ∃ N : List V → L2.St → Hp → Prop, (∀ acc' σ' H', N acc' σ' H' → ∃ m', m' < m ∧ W (i + 1) m' acc' σ' H') ∧
    ∀ x H', J.yld i H x H' → g x σ H' fun σ2 H2 => tt σ2 H2 fun b H3 => if b = true then te σ2 H3 fun y H4 => N (acc ++ [y]) σ2 H4 else N acc σ2 H3)
section
variable {prog : Program} {w : World} {A : Around} {R : Result → Shared → Prop} {s : Shared}
theorem codeAny_compLoopT {elt target iter : Expr} {ifs : List Expr} {scope : Scope} {pos : Pos} {it acc : Value} {env : Env} (I : Nat → Shared → Prop)
    (turn : ∀ n s, I n s → wpAny (model prog w) A (pyNext it) (fun r s₁ => match r with
      | none => R (.ok .next) s₁
      | some v => wpAny (model prog w) A (letOwnedTupleGo target it v) (fun _ s₁ => wpAny (model prog w) A (assign target env v) (fun _ s₂ =>
          wpAny (model prog w) A (forIn ifs true fun c r => if r = true then do let ok ← isTrue c env (eval c env); pure (ForInStep.yield ok) else pure (ForInStep.yield r)) (fun ok s₃ =>
            if ok = true then wpAny (model prog w) A (eval elt env) (fun x s₄ =>
              wpAny (model prog w) A (call (.builtin "list.append") [acc, x]) (fun _ s₅ => ∃ m, m < n ∧ I m s₅) (fun _ _ => False) s₄) (fun _ _ => False) s₃
            else ∃ m, m < n ∧ I m s₃) (fun _ _ => False) s₂) (fun _ _ => False) s₁) (fun _ _ => False) s₁) (fun _ _ => False) s)
    (n : Nat) (h : I n s) :
    codeAny (model prog w) A (.compLoop (.ListComp elt [⟨target, iter, ifs, 0⟩] scope pos) 0 it acc env) R s := by
  refine codeAny_loop rfl I (fun n s hI => ?_) n h
  show wpAny _ A ((compTurn (.ListComp elt [⟨target, iter, ifs, 0⟩] scope pos) 0 it acc env).onRaise (fun x => do noteFrame x env; theTreesLotGoes x)) _ _ s
  refine wpAny_noted ?_
  rw [compTurn_list]
  refine wpAny_bind (wpAny_standAt (wpAny_bind (wpAny_mono (turn n s hI) (fun r s₁ h₁ => ?_) fun _ _ h' => h'.elim)))
  cases r with
  | none => exact wpAny_pure h₁
  | some v =>
    refine wpAny_bind (wpAny_mono h₁ (fun _ s₁ h₁ => ?_) fun _ _ h' => h'.elim)
    refine wpAny_bind (wpAny_mono h₁ (fun _ s₂ h₂ => wpAny_bind (wpAny_mono h₂ (fun ok s₃ h₃ => ?_) fun _ _ h' => h'.elim)) fun _ _ h' => h'.elim)
    cases ok with
    | false => exact wpAny_pure ⟨rfl, h₃⟩
    | true =>
      exact wpAny_bind (wpAny_bind (wpAny_mono h₃ (fun x s₄ h₄ => wpAny_bind (wpAny_mono h₄ (fun _ s₅ h₅ => wpAny_pure (wpAny_pure ⟨rfl, h₅⟩)) fun _ _ h' => h'.elim)) fun _ _ h' => h'.elim))
end
section
variable {X : Cx} {pins : List (Addr × Obj)} {σ : L2.St} {H : Hp} {s : Shared} {N : List Str} {scope : Scope} {cl : List (Str × Addr)} {C : Addr} {fp : List Addr}
theorem blk_ok (I : Inv X pins σ H s) (hkind : scope.kind = .function) (hcell : ∀ y ∈ scope.names, y.2 ≠ .cell) (h1 : ∀ x c, cl.lookup x = some c → X.env.cells.lookup x = some c)
    (h2 : ∀ x, (x, NameKind.free) ∈ scope.names → ∃ c, cl.lookup x = some c) (hC : s.heap.objs.size ≤ C) (hf : ∀ b ∈ fp, FpOk X pins H b) (hb : ∀ b ∈ fp, b < s.heap.objs.size) : (blk X N scope cl C s H fp).Ok where
  mod := I.ok.mod
  kind := hkind
  glob := I.ok.glob
  blt := I.ok.blt
  above := hC
  inj := fun x y c a b => I.ok.inj x y c (h1 x c a) (h1 y c b)
  has := fun x hx => by
    have : (x, NameKind.free) ∈ scope.names := by
      rcases hx with z | z
      · rcases relabel_mem z with q | ⟨_, q⟩
        · exact absurd rfl (hcell _ q)
        · exact q
      · rcases relabel_mem z with q | ⟨e, q⟩
        · exact q
        · cases e
    exact h2 x this
  cab := fun x c hx => by cases hx
  hd := I.ok.hd
  frames := I.ok.frames
  stk := .inl rfl
  exf := fun b hm => ⟨Nat.ne_of_lt (Nat.lt_of_lt_of_le (hb b hm) hC), fun x c e => (hf b hm).2.2.2.2.1 x c (h1 x c e)⟩
  bs := I.bs
  bsz := Nat.le_trans I.ok.bsz I.sz
  noex := fun b o e hm => by
    rcases (hf b hm).2.2.2.1 with z | z
    · exact I.ok.noex b o e z
    · exact absurd (Nat.lt_of_lt_of_le (Heap.lt_size e) (Nat.le_trans I.ok.bsz z)) (Nat.lt_irrefl _)
  exfs := fun b hm hs => (List.mem_cons.mp (I.stkSub b hs)).elim (hf b hm).2.1 (hf b hm).2.2.1
  funs := I.stack
  frf := I.stkFree
end
theorem lookup_relabel_free {env : Env} : ∀ {names : List (Str × NameKind)} {x : Str}, names.lookup x = some .free →
    (names.map fun (n, k) => if (k == NameKind.free && env.scope.kind == .function && env.kindOf n == some .cell) then (n, NameKind.cell) else (n, k)).lookup x = some .cell ∨
    (names.map fun (n, k) => if (k == NameKind.free && env.scope.kind == .function && env.kindOf n == some .cell) then (n, NameKind.cell) else (n, k)).lookup x = some .free
  | [], _, h => by simp at h
  | (n, k) :: r, x, h => by
    have ih := @lookup_relabel_free env r x
    rw [List.map_cons]
    cases hx : x == n with
    | true =>
      simp only [List.lookup_cons, hx] at h
      cases h
      by_cases hc : (NameKind.free == NameKind.free && env.scope.kind == .function && env.kindOf n == some .cell) = true
      · left; simp only [hc, if_true, List.lookup_cons, hx]
      · right; simp only [Bool.not_eq_true] at hc; simp only [hc, Bool.false_eq_true, if_false, List.lookup_cons, hx]
    | false =>
      simp only [List.lookup_cons, hx] at h
      by_cases hc : (k == NameKind.free && env.scope.kind == .function && env.kindOf n == some .cell) = true
      · simp only [hc, if_true, List.lookup_cons, hx]; exact ih h
      · simp only [Bool.not_eq_true] at hc; simp only [hc, Bool.false_eq_true, if_false, List.lookup_cons, hx]; exact ih h
section
variable {X : Cx}
structure Gone (X : Cx) (pins : List (Addr × Obj)) (H : Hp) (C : Addr) : Prop where
  n : H C = none
  l : C ≠ X.env.locals
  y : X.s₀.heap.objs.size ≤ C
  c : ∀ x c, X.env.cells.lookup x = some c → c ≠ C
  p : ∀ p ∈ X.pn ++ pins, p.1 ≠ C
theorem Gone.inv {pins : List (Addr × Obj)} {σ : L2.St} {H : Hp} {s : Shared} {C : Addr} {h' : Heap} (G : Gone X pins H C) (I : Inv X pins σ H s) (hs : Heap.SameBut C s.heap h') : Inv X pins σ H { s with heap := h' } :=
  I.turned (t' := s.toks) (fun b o hb e => (hs.2 b hb).trans e) G.n G.l (.inr G.y) G.c G.p
theorem comp_run {elt iter tg : Expr} {ifs : List Expr} {scope : Scope} {pos ppos : Pos} {wi : TI} {g : TG} {tt : TT} {te : TE} {use : Option (Value → Sem Unit)} {Q' : Value → Shared → Prop} {pins : List (Addr × Obj)} {s : Shared} {σ : L2.St} {H : Hp} {Q : VK} (N : List Str) (ix : List (Option Nat)) (hc : X.calm = true) (hkind : scope.kind = .function) (hcell : ∀ y ∈ scope.names, y.2 ≠ .cell)
    (hnames : ∀ y ∈ scope.names, y.2 = .local → scope.names.lookup y.1 = some .local) (hfree : ∀ y ∈ scope.names, y.2 = .free → X.env.kindOf y.1 = some .cell ∨ X.env.kindOf y.1 = some .free)
    (hlen : ix.length = N.length) (hcap : ∀ (i j : Nat) (x : Str), ix[i]? = some (some j) → N[i]? = some x → X.N[j]? = some x ∧ scope.names.lookup x = some .free) (hi : PI X tg iter wi)
    (hb : ∀ cl C s H fp, PG (blk X N scope cl C s H fp) tg g ∧ PTs (blk X N scope cl C s H fp) ifs tt ∧ PE (blk X N scope cl C s H fp) elt te)
    (hs : ∀ x, foldedSetIterable iter X.env x = pure x) (I : Inv X pins σ H s) (h : tComp wi ix g tt te σ H Q)
    (hend : ∀ (D C : Addr) (H' : Hp) (s4 : Shared) (mC : Str → Option Value), Inv X pins σ H' s4 → s4.heap.Ns C mC → Gone X pins H' C → Q (.ref D) H' → compPost (model X.prog X.w) X.A X.xe use Q' (.ref D) C (.ok .next) s4) :
    wpAny (model X.prog X.w) X.A (comprehension (.ListComp elt [⟨tg, iter, ifs, 0⟩] scope pos) scope X.env ppos (newList []) false (eval iter X.env) use) Q' X.xe s := by
  obtain ⟨cl, hclos, hcl1, hcl2⟩ := closure_of (env := X.env) (scope := scope) fun y hy e => I.ok.has _ (hfree y hy e)
  refine wpAny_comprehension_free rfl hs hclos hkind hnames (thn (hi pins s σ H _ I h) fun v s1 h1 => thn h1 fun itv s2 h2 => ?_)
  obtain ⟨it, fp, tn, J, H2, e, I2, T, st2, f2, W, ⟨m0, w0⟩, turn⟩ := h2
  subst e
  refine wpAny_newObj_type (wpAny_newFunctionEnv hcell (by intro y hy; simp at hy) (fun h₁ hns₁ hsb₁ => ?_) hkind)
  dsimp only at hns₁ hsb₁ ⊢
  generalize hH2 : s2.heap.push { cls := .type "list", dict := none, data := .seq ([] : List Value).toArray } = HH at hns₁ hsb₁ ⊢
  have hC : HH.objs.size = s2.heap.objs.size + 1 := by rw [← hH2, Heap.size_push]
  have hDC : s2.heap.objs.size ≠ HH.objs.size := by rw [hC]; exact Nat.ne_of_lt (Nat.lt_succ_self _)
  have hCle : s2.heap.objs.size ≤ HH.objs.size := by rw [hC]; exact Nat.le_succ _
  have below : ∀ b, b < s2.heap.objs.size → b ≠ HH.objs.size ∧ b ≠ s2.heap.objs.size := fun b hb => ⟨by rw [hC]; exact Nat.ne_of_lt (Nat.lt_succ_of_lt hb), Nat.ne_of_lt hb⟩
  have hfp : ∀ b ∈ fp, b < s2.heap.objs.size := fun b hm => by
    obtain ⟨o, e, _⟩ := T.obj _ _ st2 b hm
    exact Heap.lt_size e
  have old : ∀ b o, s2.heap.get? b = some o → h₁.get? b = some o := fun b o e => hsb₁.extBut b o (below b (Heap.lt_size e)).1 (Heap.get?_push_of_some _ (hH2 ▸ Heap.get?_push_of_some _ e))
  have hacc : h₁.get? s2.heap.objs.size = some { cls := .type "list", data := .seq ([] : List Value).toArray } := hsb₁.extBut _ _ hDC (Heap.get?_push_of_some _ (hH2 ▸ Heap.get?_push_size _ rfl))
  generalize hD : s2.heap.objs.size = D at hDC hCle hacc ⊢
  generalize hCC : HH.objs.size = C at hns₁ hsb₁ hDC hCle ⊢
  have hDle : s2.heap.objs.size ≤ D := by rw [hD]; exact Nat.le_refl _
  have hCle' : s2.heap.objs.size ≤ C := by rw [hD]; exact hCle
  obtain ⟨bg, bt, be⟩ := hb cl C s2 H2 fp
  have ok := blk_ok (N := N) I2 hkind hcell hcl1 hcl2 hCle' f2 hfp
  have notY : ∀ b, s2.heap.objs.size ≤ b → b ∉ frs X.stack := fun b hle hm => by
    rcases List.mem_cons.mp (I2.stkSub b hm) with z | z
    · exact absurd (Nat.lt_of_lt_of_le I2.lt (z ▸ hle)) (Nat.lt_irrefl _)
    · exact I2.nofs hle z
  -- the block's invariant at its entry
  have I4 : Inv (blk X N scope cl C s2 H2 fp) [(D, { cls := .type "list", data := .seq ([] : List Value).toArray })] (pick ix σ) H2 { s2 with heap := h₁, toks := s2.toks + ([] : List (Str × Value)).length } := by
    refine ⟨ok, rfl, I2.bare, Un.kept old, ⟨_, hns₁, fun i x v e1 e2 e3 => ?_⟩, fun x c e => ?_, I2.hok.fresh hCle', fun x c e => I2.freeC x c (hcl1 x c e), fun p hp => ?_, I2.hok.kept old, ?_⟩
    · have q : ∃ j, ix[i]? = some (some j) ∧ σ[j]? = some (some v) := by
        unfold pick at e2
        rw [List.getElem?_map] at e2
        cases z : ix[i]? with
        | none => rw [z] at e2; cases e2
        | some o =>
          rw [z] at e2
          cases o with
          | none => cases e2
          | some j =>
            refine ⟨j, rfl, ?_⟩
            have e2' : (σ[j]?).getD none = some v := Option.some.inj e2
            cases z2 : σ[j]? with
            | none => rw [z2] at e2'; cases e2'
            | some w' => rw [z2] at e2'; exact congrArg some e2'
      obtain ⟨j, q1, q2⟩ := q
      obtain ⟨n1, n2⟩ := hcap i j x q1 e1
      obtain ⟨m, hn, hl⟩ := I2.loc
      have hmem := lookup_mem n2
      have hkx := hfree _ hmem rfl
      have hvis : Vis X.env.scope x := by
        rcases hkx with z | z
        · exact .inr (.inl z)
        · exact .inr (.inr z)
      obtain ⟨u, ru, lk⟩ := hl j x v n1 q2 hvis
      refine ⟨u, ru, .inr ⟨lookup_relabel_free n2, ?_⟩⟩
      obtain ⟨c, hcc⟩ := hcl2 x hmem
      rcases lk with ⟨k, _⟩ | ⟨_, c', e', z⟩
      · rcases hkx with z | z <;> · rw [k] at z; cases z
      · rw [hcl1 x c hcc] at e'
        cases e'
        obtain ⟨o, ho, hd⟩ := z
        exact ⟨c, hcc, o, old _ _ ho, hd⟩
    · obtain ⟨v, o, ho, hd⟩ := I2.cell x c (hcl1 x c e)
      exact ⟨v, o, old _ _ ho, hd⟩
    · have e : p = (D, { cls := .type "list", data := .seq ([] : List Value).toArray }) := by simpa using hp
      subst e
      exact ⟨hacc, I2.hok.fresh hDle, hDC, notY D hDle, fun v z => by cases z⟩
    · unfold pick
      rw [List.length_map]
      exact hlen
  have stat : ∀ {pl : List (Addr × Obj)} {H' : Hp}, (∀ p ∈ pl, p.1 ∉ fp) → (∀ b ∈ fp, H' b = none) → ∀ b ∈ fp, FpOk (blk X N scope cl C s2 H2 fp) pl H' b := fun {pl H'} hpl hn b hm =>
    ⟨hn b hm, (ok.exf b hm).1, ok.exfs b hm, .inl hm, (ok.exf b hm).2, fun p hp e => hpl p (by simpa using hp) (e ▸ hm)⟩
  have nfp : D ∉ fp := fun hm => absurd (Nat.lt_of_lt_of_le (hfp D hm) hDle) (Nat.lt_irrefl _)
  have nfpP : ∀ (o : Obj), ∀ p ∈ [(D, o)], p.1 ∉ fp := fun o p hp => by
    have e : p = (D, o) := by simpa using hp
    subst e
    exact nfp
  have loop : ∀ s3 : Shared, s3 = { s2 with heap := h₁, toks := s2.toks + ([] : List (Str × Value)).length } →
      codeAny (model X.prog X.w) X.A (.compLoop (.ListComp elt [⟨tg, iter, ifs, 0⟩] scope pos) 0 (.ref it) (.ref D) (compEnvC scope cl C X.env)) (compPost (model X.prog X.w) X.A X.xe use Q' (.ref D) C) s3 := by
    rintro s3 rfl
    refine codeAny_compLoopT (fun n s' => ∃ i σ' H' acc its nn, Inv (blk X N scope cl C s2 H2 fp) [(D, { cls := .type "list", data := .seq its nn })] σ' H' s' ∧ Vals acc its.toList ∧ tn i s'.heap ∧ (∀ b ∈ fp, H' b = none) ∧ acc.length ≤ sizeLine ∧ W i n acc σ' H') ?_ m0
      ⟨0, pick ix σ, H2, [], #[], 0, I4, .nil, T.keep _ _ _ st2 fun b _ o e => old b o e, fun b hm => (f2 b hm).1, Nat.zero_le _, w0⟩
    rintro n s3 ⟨i, σ3, H3, acc, its, nn, I3, rv, st3, fr3, hz, w3⟩
    rcases turn i n acc σ3 H3 w3 with ⟨stop, qn⟩ | ⟨go, hlt, NN, hN, step⟩
    · refine thn (T.done (blk X N scope cl C s2 H2 fp) rfl rfl rfl hc i _ s3 σ3 H3 (fun _ _ => False) I3 (stat (nfpP _) fr3) st3 stop) fun r s4 ⟨hr, I5⟩ => ?_
      subst hr
      obtain ⟨eD, nD, _⟩ := I5.pin (D, { cls := .type "list", data := .seq its nn }) (by simp)
      obtain ⟨mC, hnC, _⟩ := I5.loc
      -- back in the def's own frame
      have hne : ∀ b u, H3 b = some u → b ≠ D := fun b u q z => by rw [z, nD] at q; cases q
      have un : Un (frs X.stack) fp H2 (upd H3 D (.lst acc)) s2.heap s4.heap := by
        have b := I5.base
        have neD : ∀ b o, s2.heap.get? b = some o → b ≠ D := fun b o e => Nat.ne_of_lt (Nat.lt_of_lt_of_le (Heap.lt_size e) hDle)
        refine ⟨b.keep, b.slot, fun b' o q n' hx => ?_, b.there, fun b' xs q => ?_, fun b' o u q => ?_, fun b' ps q => ?_⟩
        · rw [upd_ne (neD b' o q)]
          exact b.free b' o q n' hx
        · have q' := b.tups b' xs q
          rw [upd_ne (hne _ _ q')]
          exact q'
        · have q' := b.frzs b' o u q
          rw [upd_ne (hne _ _ q')]
          exact q'
        · obtain ⟨more, q'⟩ := b.tbls b' ps q
          exact ⟨more, by rw [upd_ne (hne _ _ q')]; exact q'⟩
      have hokD : HOk X.prog X.w (upd H3 D (.lst acc)) s4.heap := fun b u e => by
        by_cases hbD : b = D
        · subst hbD
          rw [upd_same] at e
          cases e
          exact ⟨hz, its.toList, nn, rv, by simpa using eD⟩
        · rw [upd_ne hbD] at e
          refine (I5.hok b u e).stay (fun _ _ _ q => q) (fun c r => ?_) fun c xs r => ?_
          · rw [upd_ne (fun z => by rw [z, nD] at r; cases r)]; exact r
          · rw [upd_ne (fun z => by rw [z, nD] at r; cases r)]; exact r
      have IX : Inv X pins σ (upd H3 D (.lst acc)) s4 := I2.call' I5.os un hokD I5.bare fun b hm => ⟨(f2 b hm).2.2.2.1, (f2 b hm).2.1, (f2 b hm).2.2.2.2.1, (f2 b hm).2.2.2.2.2⟩
      refine hend D C _ s4 mC IX hnC ⟨?_, Nat.ne_of_gt (Nat.lt_of_lt_of_le I2.lt hCle'), Nat.le_trans I2.sz hCle', fun x c e z => ?_, fun p hp z => ?_⟩ (qn D nD)
      · rw [upd_ne (Ne.symm hDC)]
        exact I5.free
      · obtain ⟨v, o, ho, _⟩ := I2.cell x c e
        exact absurd (Nat.lt_of_lt_of_le (Heap.lt_size ho) (z ▸ hCle')) (Nat.lt_irrefl _)
      · exact absurd (Nat.lt_of_lt_of_le (Heap.lt_size (I2.pin p hp).1) (z ▸ hCle')) (Nat.lt_irrefl _)
    · refine thn (T.item (blk X N scope cl C s2 H2 fp) rfl rfl rfl hc i _ s3 σ3 H3 (fun _ _ => False) I3 (stat (nfpP _) fr3) st3 go) fun r s4 ⟨u, hr, h4⟩ => ?_
      subst hr
      refine thn h4 fun _ s5 ⟨x, H5, I5, r5, y5, st5, fr5⟩ => ?_
      have I5' := I5.pinned (stat (nfpP _) fr5) (T.obj _ _ st5)
      refine thn (bg _ s5 σ3 H5 x u _ I5' r5 (step x H5 y5)) fun _ s6 ⟨σ6, H6, I6, q6⟩ => ?_
      refine thn (bt _ s6 σ6 H6 _ I6 q6) fun b s7 ⟨H7, I7, q7⟩ => ?_
      have after : ∀ {o : Obj} {σ8 : L2.St} {H8 : Hp} {s8 : Shared}, Inv (blk X N scope cl C s2 H2 fp) ([(D, o)] ++ pinsAt fp s5.heap) σ8 H8 s8 → tn (i + 1) s8.heap ∧ ∀ b ∈ fp, H8 b = none := fun {o σ8 H8 s8} I8 => by
        refine ⟨T.keep _ _ _ st5 fun b hb o e => (I8.pin (b, o) (List.mem_append_right _ (List.mem_append_right _ (mem_pinsAt hb e)))).1, fun b hb => ?_⟩
        obtain ⟨o, e, d⟩ := T.obj _ _ st5 b hb
        exact (I8.pin (b, o) (List.mem_append_right _ (List.mem_append_right _ (mem_pinsAt hb e)))).2.1
      cases b with
      | false =>
        simp only [Bool.false_eq_true, if_false] at q7 ⊢
        obtain ⟨m', hm, w7⟩ := hN acc σ6 H7 q7
        exact ⟨m', hm, i + 1, σ6, H7, acc, its, nn, I7.unpinned, rv, (after I7).1, (after I7).2, hz, w7⟩
      | true =>
        simp only [if_true] at q7 ⊢
        refine thn (be _ s7 σ6 H7 _ I7 q7) fun yv s8 ⟨y, H8, I8, r8, q8⟩ => ?_
        obtain ⟨eD, nD, _⟩ := I8.pin (D, { cls := .type "list", data := .seq its nn }) (by simp)
        have hl : acc.length = its.size := by have := rv.length; simpa using this
        refine wpAny_list_append_plain (hsz := by omega) ⟨nn, eD⟩ fun h9 ⟨n9, e9⟩ hs9 => ?_
        obtain ⟨m', hm, w9⟩ := hN _ _ _ q8
        have J1 : Inv (blk X N scope cl C s2 H2 fp) (pinsAt fp s5.heap) σ6 H8 s8 := I8.pins_of fun p hp => I8.pin p (List.mem_append_right _ (List.mem_append_right _ hp))
        have nc : ∀ x c, cl.lookup x = some c → c ≠ D := fun x c e z => by
          obtain ⟨v, o, ho, _⟩ := I2.cell x c (hcl1 x c e)
          exact absurd (Nat.lt_of_lt_of_le (Heap.lt_size ho) (z ▸ hDle)) (Nat.lt_irrefl _)
        have J2 : Inv (blk X N scope cl C s2 H2 fp) (pinsAt fp s5.heap) σ6 H8 { s8 with heap := h9 } := J1.turned (t' := s8.toks) (fun b o hb e => hs9.extBut b o hb e) nD hDC (.inr hDle) nc fun p hp z => by
          have hp' : p ∈ pinsAt fp s5.heap := by simpa using hp
          exact nfp (z ▸ (of_pinsAt hp').1)
        have J3 : Inv (blk X N scope cl C s2 H2 fp) ([(D, { cls := .type "list", data := .seq (its.push yv) n9 })] ++ pinsAt fp s5.heap) σ6 H8 { s8 with heap := h9 } := J2.pins_of fun p hp => by
          rcases List.mem_append.mp hp with hp | hp
          · have e : p = (D, { cls := .type "list", data := .seq (its.push yv) n9 }) := by simpa using hp
            subst e
            exact ⟨e9, nD, hDC, notY D hDle, fun v z => by cases z⟩
          · exact J2.pin p (List.mem_append_right _ hp)
        refine ⟨m', hm, i + 1, σ6, H8, acc ++ [y], its.push yv, n9, J3.unpinned, ?_, (after J3).1, (after J3).2, by rw [List.length_append, List.length_singleton]; omega, w9⟩
        rw [Array.toList_push]
        exact rv.append (.cons r8 .nil)
  exact codeAny_compStart_list (loop _ rfl) (T.self _ 0 _ _ _ (T.keep _ _ _ st2 fun b _ o e => old b o e) (loop _ rfl))
theorem pe_comp {elt iter tg : Expr} {ifs : List Expr} {scope : Scope} {pos : Pos} {wi : TI} {g : TG} {tt : TT} {te : TE} (N : List Str) (ix : List (Option Nat)) (hc : X.calm = true) (hkind : scope.kind = .function) (hcell : ∀ y ∈ scope.names, y.2 ≠ .cell)
    (hnames : ∀ y ∈ scope.names, y.2 = .local → scope.names.lookup y.1 = some .local) (hfree : ∀ y ∈ scope.names, y.2 = .free → X.env.kindOf y.1 = some .cell ∨ X.env.kindOf y.1 = some .free)
    (hlen : ix.length = N.length) (hcap : ∀ (i j : Nat) (x : Str), ix[i]? = some (some j) → N[i]? = some x → X.N[j]? = some x ∧ scope.names.lookup x = some .free) (hi : PI X tg iter wi)
    (hb : ∀ cl C s H fp, PG (blk X N scope cl C s H fp) tg g ∧ PTs (blk X N scope cl C s H fp) ifs tt ∧ PE (blk X N scope cl C s H fp) elt te)
    (hs : ∀ x, foldedSetIterable iter X.env x = pure x := by intro _; rfl) : PE X (.ListComp elt [⟨tg, iter, ifs, 0⟩] scope pos) (tComp wi ix g tt te) := by
  intro pins s σ H Q I h
  rw [eval_ListComp]
  exact comp_run (use := none) N ix hc hkind hcell hnames hfree hlen hcap hi hb hs I h fun D C H' s4 mC I4 hn G q => ⟨mC, hn, fun h' hs' => ⟨.ref D, H', G.inv I4 hs', rfl, q⟩⟩
end
theorem comp_list {K : PySem.W.Frag} {a : Addr} {xs : List V} {g : TG} {tt : TT} {te : TE} {σ : L2.St} {H : Hp} {Q : VK} (Pv : Nat → List V → L2.St → Hp → Prop) (hz : xs.length ≤ sizeLine) (h0 : Pv 0 [] σ H) (hl : ∀ i acc σ H, i ≤ xs.length → Pv i acc σ H → SqL K H a xs)
    (hs : ∀ i x acc σ H, xs[i]? = some x → Pv i acc σ H → g x σ H fun σ2 H2 => tt σ2 H2 fun b H3 => if b = true then te σ2 H3 fun y H4 => Pv (i + 1) (acc ++ [y]) σ2 H4 else Pv (i + 1) acc σ2 H3)
    (hacc : ∀ i acc σ H, Pv i acc σ H → acc.length ≤ i) (hd : ∀ acc σ H, Pv xs.length acc σ H → ∀ D, H D = none → Q (.ref D) (upd H D (.lst acc))) :
    ∃ W : Nat → Nat → List V → L2.St → Hp → Prop, (∃ m, W 0 m [] σ H) ∧ ∀ i m acc σ H, W i m acc σ H →
      ((Itl K a).stop i H ∧ ∀ D, H D = none → Q (.ref D) (upd H D (.lst acc))) ∨
      ((Itl K a).go i H ∧ acc.length < sizeLine ∧ ∃ N : List V → L2.St → Hp → Prop, (∀ acc' σ' H', N acc' σ' H' → ∃ m', m' < m ∧ W (i + 1) m' acc' σ' H') ∧
        ∀ x H', (Itl K a).yld i H x H' → g x σ H' fun σ2 H2 => tt σ2 H2 fun b H3 => if b = true then te σ2 H3 fun y H4 => N (acc ++ [y]) σ2 H4 else N acc σ2 H3) := by
  refine ⟨fun i m acc σ H => m = xs.length - i ∧ i ≤ xs.length ∧ Pv i acc σ H, ⟨xs.length, by simp, Nat.zero_le _, h0⟩, ?_⟩
  rintro i m acc σ H ⟨rfl, hi, p⟩
  have q := hl i acc σ H hi p
  have ha := hacc i acc σ H p
  by_cases hlt : i < xs.length
  · refine .inr ⟨⟨xs, xs[i], q, by simp [hlt]⟩, by omega, Pv (i + 1), fun acc' σ' H' p' => ⟨xs.length - (i + 1), by omega, rfl, hlt, p'⟩, fun x H' y => ?_⟩
    obtain ⟨e, y⟩ := y
    subst e
    exact hs i x acc σ _ (y xs q) p
  · have e : i = xs.length := by omega
    subst e
    exact .inl ⟨⟨xs, q, Nat.le_refl _⟩, hd acc σ H p⟩
theorem comp_range {lo : Int} {n : Nat} {g : TG} {tt : TT} {te : TE} {σ : L2.St} {H : Hp} {Q : VK} (Pv : Nat → List V → L2.St → Hp → Prop) (hz : n ≤ sizeLine) (h0 : Pv 0 [] σ H)
    (hs : ∀ i acc σ H, i < n → Pv i acc σ H → g (.int (lo + i)) σ H fun σ2 H2 => tt σ2 H2 fun b H3 => if b = true then te σ2 H3 fun y H4 => Pv (i + 1) (acc ++ [y]) σ2 H4 else Pv (i + 1) acc σ2 H3)
    (hacc : ∀ i acc σ H, Pv i acc σ H → acc.length ≤ i) (hd : ∀ acc σ H, Pv n acc σ H → ∀ D, H D = none → Q (.ref D) (upd H D (.lst acc))) :
    ∃ W : Nat → Nat → List V → L2.St → Hp → Prop, (∃ m, W 0 m [] σ H) ∧ ∀ i m acc σ H, W i m acc σ H →
      ((Itr lo n).stop i H ∧ ∀ D, H D = none → Q (.ref D) (upd H D (.lst acc))) ∨
      ((Itr lo n).go i H ∧ acc.length < sizeLine ∧ ∃ N : List V → L2.St → Hp → Prop, (∀ acc' σ' H', N acc' σ' H' → ∃ m', m' < m ∧ W (i + 1) m' acc' σ' H') ∧
        ∀ x H', (Itr lo n).yld i H x H' → g x σ H' fun σ2 H2 => tt σ2 H2 fun b H3 => if b = true then te σ2 H3 fun y H4 => N (acc ++ [y]) σ2 H4 else N acc σ2 H3) := by
  refine ⟨fun i m acc σ H => m = n - i ∧ i ≤ n ∧ Pv i acc σ H, ⟨n, by simp, Nat.zero_le _, h0⟩, ?_⟩
  rintro i m acc σ H ⟨rfl, hi, p⟩
  have ha := hacc i acc σ H p
  by_cases hlt : i < n
  · refine .inr ⟨hlt, by omega, Pv (i + 1), fun acc' σ' H' p' => ⟨n - (i + 1), by omega, rfl, hlt, p'⟩, fun x H' y => ?_⟩
    obtain ⟨e, y⟩ := y
    subst e y
    exact hs i acc σ _ hlt p
  · have e : i = n := by omega
    subst e
    exact .inl ⟨Nat.le_refl _, hd acc σ H p⟩
def capB (XN : List Str) (scope : Scope) : List Str → List (Option Nat) → Bool
  | _, [] => true
  | [], _ => true
  | _ :: r, none :: s => capB XN scope r s
  | x :: r, some j :: s => decide (XN[j]? = some x) && decide (scope.names.lookup x = some .free) && capB XN scope r s
theorem capB_ok {XN : List Str} {scope : Scope} : ∀ {N : List Str} {ix : List (Option Nat)}, capB XN scope N ix = true → ∀ (i j : Nat) (x : Str), ix[i]? = some (some j) → N[i]? = some x → XN[j]? = some x ∧ scope.names.lookup x = some .free
  | [], [], _, i, j, x, h1, _ => by simp at h1
  | _ :: _, [], _, i, j, x, h1, _ => by simp at h1
  | [], _ :: _, _, i, j, x, _, h2 => by simp at h2
  | y :: r, none :: s, h, i, j, x, h1, h2 => by
    cases i with
    | zero => simp at h1
    | succ i => exact capB_ok (N := r) (ix := s) h i j x (by simpa using h1) (by simpa using h2)
  | y :: r, some k :: s, h, i, j, x, h1, h2 => by
    have h' : (decide (XN[k]? = some y) && decide (scope.names.lookup y = some .free) && capB XN scope r s) = true := h
    rw [Bool.and_eq_true, Bool.and_eq_true, decide_eq_true_eq, decide_eq_true_eq] at h'
    cases i with
    | zero =>
      simp at h1 h2
      subst h1 h2
      exact h'.1
    | succ i => exact capB_ok h'.2 i j x (by simpa using h1) (by simpa using h2)
def compOk (XN : List Str) (sc scope : Scope) (N : List Str) (ix : List (Option Nat)) : Bool :=
  decide (scope.kind = .function) && decide (∀ y ∈ scope.names, y.2 ≠ .cell) && decide (∀ y ∈ scope.names, y.2 = .local → scope.names.lookup y.1 = some .local) &&
    decide (∀ y ∈ scope.names, y.2 = .free → sc.names.lookup y.1 = some .cell ∨ sc.names.lookup y.1 = some .free) && decide (ix.length = N.length) && capB XN scope N ix
section
variable {X : Cx}
theorem pe_compB {elt iter tg : Expr} {ifs : List Expr} {scope : Scope} {pos : Pos} {wi : TI} {g : TG} {tt : TT} {te : TE} (N : List Str) (ix : List (Option Nat)) (hc : X.calm = true) (hk : compOk X.N X.env.scope scope N ix = true) (hi : PI X tg iter wi)
    (hb : ∀ cl C s H fp, PG (blk X N scope cl C s H fp) tg g ∧ PTs (blk X N scope cl C s H fp) ifs tt ∧ PE (blk X N scope cl C s H fp) elt te)
    (hs : ∀ x, foldedSetIterable iter X.env x = pure x := by intro _; rfl) : PE X (.ListComp elt [⟨tg, iter, ifs, 0⟩] scope pos) (tComp wi ix g tt te) := by
  unfold compOk at hk
  simp only [Bool.and_eq_true, decide_eq_true_eq] at hk
  obtain ⟨⟨⟨⟨⟨h1, h2⟩, h3⟩, h4⟩, h5⟩, h6⟩ := hk
  exact pe_comp N ix hc h1 h2 h3 h4 h5 (capB_ok h6) hi hb hs
end
end Bw
set_option Elab.async false
set_option linter.all false
set_option maxRecDepth 100000
set_option maxHeartbeats 1000000
namespace Bw
open PySem PySem.Spec PyProof.Rows L2
section
variable {X : Cx}
theorem ep_str {pins : List (Addr × Obj)} {σ : L2.St} {H : Hp} {s : Shared} {Q : VK} {u : Str} {t : Tok} {k : Nat} (I : Inv X pins σ H s) (q : Q (.str u) H) : EP X pins σ Q (.str u t) { s with toks := k } := ⟨.str u, H, I.tok k, ⟨t, rfl⟩, q⟩
def rSlS : V → Option Int → Option Int → Hp → VK → Prop := fun x lo hi H Q => ∃ u, x = .str u ∧ u.length ≤ sizeLine ∧ Q (.str (Txt.slice u lo hi)) H
theorem sl_str : SlR X rSlS := by
  intro pins s σ H x v vl vu lo hi sl Q I rx hs pl pu h
  obtain ⟨u, rfl, hz, q⟩ := h
  obtain ⟨t, rfl⟩ := rx
  refine ⟨"str", _, PySem.F.slot_str_getitem.lookup, typeIs_str _ _ _, ?_⟩
  obtain ⟨os, hos, hcs, hds⟩ := hs
  cases pl with
  | none =>
    cases pu with
    | none => exact wpAny_getItem_str_slice (l := none) (u := none) (st := none) ⟨os, hos, hcs, hds⟩ rfl (post_val_or_str ⟨Nat.le_trans (Txt.slice_le u _ _) hz, fun t' k => ep_str I q⟩)
    | int j tj => exact wpAny_getItem_str_slice (l := none) (u := some (j, tj)) (st := none) ⟨os, hos, hcs, hds⟩ rfl (post_val_or_str ⟨Nat.le_trans (Txt.slice_le u _ _) hz, fun t' k => ep_str I q⟩)
  | int i ti =>
    cases pu with
    | none => exact wpAny_getItem_str_slice (l := some (i, ti)) (u := none) (st := none) ⟨os, hos, hcs, hds⟩ rfl (post_val_or_str ⟨Nat.le_trans (Txt.slice_le u _ _) hz, fun t' k => ep_str I q⟩)
    | int j tj => exact wpAny_getItem_str_slice (l := some (i, ti)) (u := some (j, tj)) (st := none) ⟨os, hos, hcs, hds⟩ rfl (post_val_or_str ⟨Nat.le_trans (Txt.slice_le u _ _) hz, fun t' k => ep_str I q⟩)
def rJoin : V → List V → Hp → VK → Prop := fun x xs H Q => ∃ u l ts, x = .str u ∧ xs = [.ref l] ∧ H l = some (.lst (ts.map V.str)) ∧ JoinOk u ts = true ∧ Q (.str (Txt.join u ts)) H
theorem vals_str : ∀ {ts : List Str} {us : List Value}, Vals (ts.map V.str) us → ∃ l : List (Str × Tok), us = strValues l ∧ l.map (·.1) = ts
  | [], _, r => by
    rw [List.map_nil] at r
    cases r
    exact ⟨[], rfl, rfl⟩
  | a :: ts, _, r => by
    rw [List.map_cons] at r
    cases r with
    | cons r1 r2 =>
      obtain ⟨t, rfl⟩ := r1
      obtain ⟨l, rfl, e⟩ := vals_str r2
      exact ⟨(a, t) :: l, rfl, by rw [List.map_cons, e]⟩
theorem mt_join : MtR X "str.join" rJoin := by
  intro pins s σ H x xs v us Q I rx rv h
  obtain ⟨u, l, ts, rfl, rfl, hl, hz, q⟩ := h
  obtain ⟨t, rfl⟩ := rx
  cases rv with
  | cons r1 r2 =>
    cases r2
    cases r1
    obtain ⟨_, its, n, r, e⟩ := I.hok l _ hl
    obtain ⟨ll, rfl, e2⟩ := vals_str r
    exact SC.join (D := l) (l := ll) ⟨_, e, rfl, n, rfl⟩ e2 hz fun t' k => ep_str I q
end
end Bw
set_option Elab.async false
set_option linter.all false
set_option maxRecDepth 100000
set_option maxHeartbeats 1000000
namespace Bw
open PySem PySem.Spec PyProof.Rows L2
section
variable {K : PySem.W.Frag} {ta te : TE} {tr : TA} {wi : TI} {ix : List (Option Nat)} {g : TG} {tt : TT} {σ : L2.St} {H : Hp} {Q : VK} {QB : Bool → Hp → Prop}
def CompL (K : PySem.W.Frag) (a : Addr) (g : TG) (tt : TT) (te : TE) (Q : VK) (σ : L2.St) (H : Hp) : Prop := ∃ W : Nat → Nat → List V → L2.St → Hp → Prop, (∃ m, W 0 m [] σ H) ∧ ∀ i m acc σ H, W i m acc σ H →
  ((Itl K a).stop i H ∧ ∀ D, H D = none → Q (.ref D) (L2.upd H D (.lst acc))) ∨
  ((Itl K a).go i H ∧ acc.length < sizeLine ∧ ∃ N : List V → L2.St → Hp → Prop, (∀ acc' σ' H', N acc' σ' H' → ∃ m', m' < m ∧ W (i + 1) m' acc' σ' H') ∧
    ∀ x H', (Itl K a).yld i H x H' → g x σ H' fun σ2 H2 => tt σ2 H2 fun b H3 => if b = true then te σ2 H3 fun y H4 => N (acc ++ [y]) σ2 H4 else N acc σ2 H3)
def CompR (lo : Int) (n : Nat) (g : TG) (tt : TT) (te : TE) (Q : VK) (σ : L2.St) (H : Hp) : Prop := ∃ W : Nat → Nat → List V → L2.St → Hp → Prop, (∃ m, W 0 m [] σ H) ∧ ∀ i m acc σ H, W i m acc σ H →
  ((Itr lo n).stop i H ∧ ∀ D, H D = none → Q (.ref D) (L2.upd H D (.lst acc))) ∨
  ((Itr lo n).go i H ∧ acc.length < sizeLine ∧ ∃ N : List V → L2.St → Hp → Prop, (∀ acc' σ' H', N acc' σ' H' → ∃ m', m' < m ∧ W (i + 1) m' acc' σ' H') ∧
    ∀ x H', (Itr lo n).yld i H x H' → g x σ H' fun σ2 H2 => tt σ2 H2 fun b H3 => if b = true then te σ2 H3 fun y H4 => N (acc ++ [y]) σ2 H4 else N acc σ2 H3)
theorem w_compL : tComp (iList K ta) ix g tt te σ H Q = ta σ H (fun x H1 => ∃ a, x = .ref a ∧ (∃ xs, SqL K H1 a xs) ∧ CompL K a g tt te Q (pick ix σ) H1) := rfl
theorem w_comp1 : tComp (iRng1 tr) ix g tt te σ H Q = tr σ H (fun vs H1 => ∃ j : Int, vs = [.int j] ∧ -(2 ^ 62) ≤ j ∧ j < 2 ^ 62 ∧ CompR 0 j.toNat g tt te Q (pick ix σ) H1) := rfl
theorem w_comp2 : tComp (iRng2 tr) ix g tt te σ H Q = tr σ H (fun vs H1 => ∃ i j : Int, vs = [.int i, .int j] ∧ (-(2 ^ 62) ≤ i ∧ i < 2 ^ 62 ∧ -(2 ^ 62) ≤ j ∧ j < 2 ^ 62) ∧ CompR i (j - i).toNat g tt te Q (pick ix σ) H1) := rfl
theorem w_yes : tYes σ H QB = QB true H := rfl
theorem w_pick0 : pick [] σ = [] := rfl
theorem w_pickN : pick (none :: ix) σ = none :: pick ix σ := rfl
theorem w_pickS {j : Nat} : pick (some j :: ix) σ = ((σ[j]?).getD none) :: pick ix σ := rfl
theorem w_bm {T : String} {r : V → List V → Hp → VK → Prop} : tBM K T r ta tr σ H Q = ta σ H (fun x H1 => tyV K T x H1 ∧ tr σ H1 (fun xs H2 => r x xs H2 Q)) := rfl
theorem w_bm0 {T : String} {r : V → List V → Hp → VK → Prop} : tBM0 K T r ta σ H Q = ta σ H (fun x H1 => tyV K T x H1 ∧ r x [] H1 Q) := rfl
theorem w_tyS {u : Str} : tyV K "str" (.str u) H = True := by simp [tyV]
theorem w_addS {u v : Str} : (∃ i j, V.str u = .str i ∧ V.str v = .str j ∧ i.length + j.length ≤ sizeLine ∧ Q (.str (i ++ j)) H) = (u.length + v.length ≤ sizeLine ∧ Q (.str (u ++ v)) H) := by simp
theorem w_slS {u : Str} {lo hi : Option Int} : rSlS (.str u) lo hi H Q = (u.length ≤ sizeLine ∧ Q (.str (Txt.slice u lo hi)) H) := by simp [rSlS]
theorem w_blkK {X : Cx} {N : List Str} {scope : Scope} {cl : List (Str × Addr)} {C : Addr} {s : Shared} {fp : List Addr} : (blk X N scope cl C s H fp).K = X.K := rfl
theorem CompL.by {a : Addr} {xs : List V} (Pv : Nat → List V → L2.St → Hp → Prop) (hz : xs.length ≤ sizeLine) (h0 : Pv 0 [] σ H) (hl : ∀ i acc σ H, i ≤ xs.length → Pv i acc σ H → SqL K H a xs)
    (hs : ∀ i x acc σ H, xs[i]? = some x → Pv i acc σ H → g x σ H fun σ2 H2 => tt σ2 H2 fun b H3 => if b = true then te σ2 H3 fun y H4 => Pv (i + 1) (acc ++ [y]) σ2 H4 else Pv (i + 1) acc σ2 H3)
    (hacc : ∀ i acc σ H, Pv i acc σ H → acc.length ≤ i) (hd : ∀ acc σ H, Pv xs.length acc σ H → ∀ D, H D = none → Q (.ref D) (L2.upd H D (.lst acc))) : CompL K a g tt te Q σ H := comp_list Pv hz h0 hl hs hacc hd
theorem CompR.by {lo : Int} {n : Nat} (Pv : Nat → List V → L2.St → Hp → Prop) (hz : n ≤ sizeLine) (h0 : Pv 0 [] σ H)
    (hs : ∀ i acc σ H, i < n → Pv i acc σ H → g (.int (lo + i)) σ H fun σ2 H2 => tt σ2 H2 fun b H3 => if b = true then te σ2 H3 fun y H4 => Pv (i + 1) (acc ++ [y]) σ2 H4 else Pv (i + 1) acc σ2 H3)
    (hacc : ∀ i acc σ H, Pv i acc σ H → acc.length ≤ i) (hd : ∀ acc σ H, Pv n acc σ H → ∀ D, H D = none → Q (.ref D) (L2.upd H D (.lst acc))) : CompR lo n g tt te Q σ H := comp_range Pv hz h0 hs hacc hd
theorem ixs {u : Str} {k : Int} {c : Nat} (hz : u.length ≤ sizeLine) (hv : atI u.cps.toList k = some c) (q : Q (.str ⟨#[c]⟩) H) : rIxS (.str u) (.int k) H Q := ⟨u, k, c, rfl, rfl, hz, hv, q⟩
end
theorem gl_of {X : Cx} {x : Str} (h : X.env.kindOf x = some .globalImplicit) : Gl X x := h
def tStrs (xs : List Str) : TA := fun _ H Q => Q (xs.map V.str) H
theorem w_strs {xs : List Str} {σ : L2.St} {H : Hp} {Q : List V → Hp → Prop} : tStrs xs σ H Q = Q (xs.map V.str) H := rfl
def Well3 (H : Hp) (w : Addr) : Prop := ∃ a b c : Int, H w = some (.lst [.int a, .int b, .int c])
theorem Well3.same {H H' : Hp} {w : Addr} (W : Well3 H w) (s : Same H H') : Well3 H' w := by
  obtain ⟨a, b, c, h⟩ := W
  exact ⟨a, b, c, s _ _ h⟩
theorem Well3.ne {H : Hp} {w p : Addr} (W : Well3 H w) (h : H p = none) : p ≠ w := by
  obtain ⟨a, b, c, e⟩ := W
  exact (ne_of_none e h).symm
def goodN (u : Str) : Prop := 1 ≤ u.length ∧ u.length ≤ 8 ∧ ∀ c ∈ u.cps.toList, 97 ≤ c ∧ c ≤ 122
instance (u : Str) : Decidable (goodN u) := by unfold goodN; infer_instance
def letters : Str := "abcdefghijklmnopqrstuvwxyz"
theorem letter_at {i : Int} (h0 : 0 ≤ i) (h1 : i < 26) : ∃ c, atI letters.cps.toList i = some c ∧ 97 ≤ c ∧ c ≤ 122 := by
  have h : ∀ k : Fin 26, ∃ c, c < 123 ∧ atI letters.cps.toList ((k.val : Nat) : Int) = some c ∧ 97 ≤ c ∧ c ≤ 122 := by
    intro k
    refine ⟨97 + k.val, ?_⟩
    revert k
    decide +kernel
  obtain ⟨c, _, e, q⟩ := h ⟨i.toNat, by omega⟩
  have e2 : ((i.toNat : Nat) : Int) = i := by omega
  rw [e2] at e
  exact ⟨c, e, q⟩
theorem join_one : ∀ ts : List Str, (∀ t ∈ ts, ∃ c, t = ⟨#[c]⟩ ∧ 97 ≤ c ∧ c ≤ 122) → (Str.join Str.empty ts).length = ts.length ∧ ∀ c ∈ (Str.join Str.empty ts).cps.toList, 97 ≤ c ∧ c ≤ 122
  | [], _ => ⟨rfl, fun c hc => by cases hc⟩
  | [x], h => by
    obtain ⟨c, rfl, q⟩ := h x List.mem_cons_self
    refine ⟨rfl, fun c' hc => ?_⟩
    have e : c' = c := by simpa [Str.join] using hc
    subst e
    exact q
  | x :: y :: r, h => by
    obtain ⟨i1, i2⟩ := join_one (y :: r) fun t ht => h t (List.mem_cons_of_mem _ ht)
    obtain ⟨c, rfl, q⟩ := h x List.mem_cons_self
    show ((⟨#[c]⟩ : Str) ++ Str.empty ++ Str.join Str.empty (y :: r)).length = _ ∧ ∀ c' ∈ ((⟨#[c]⟩ : Str) ++ Str.empty ++ Str.join Str.empty (y :: r)).cps.toList, _
    refine ⟨?_, fun c' hc => ?_⟩
    · rw [Str.length_append, Str.length_append, i1]
      show 1 + 0 + (y :: r).length = (y :: r).length + 1
      omega
    · have hc' : c' ∈ ((#[c] ++ #[]) ++ (Str.join Str.empty (y :: r)).cps).toList := hc
      rw [Array.toList_append] at hc'
      rcases List.mem_append.mp hc' with z | z
      · have e : c' = c := by simpa using z
        subst e
        exact q
      · exact i2 c' z
theorem join_good {ts : List Str} (h : ∀ t ∈ ts, ∃ c, t = ⟨#[c]⟩ ∧ 97 ≤ c ∧ c ≤ 122) (h1 : 1 ≤ ts.length) (h8 : ts.length ≤ 8) : JoinOk Str.empty ts = true ∧ goodN (Txt.join Str.empty ts) := by
  obtain ⟨i1, i2⟩ := join_one ts h
  have hj : Txt.join Str.empty ts = Str.join Str.empty ts := StrLaws.glued_eq_join _ _
  refine ⟨?_, ?_⟩
  · unfold JoinOk Builtin.Str.tooLong
    rw [StrLaws.joinTotal]
    have hs : ∀ l : List Str, (∀ t ∈ l, ∃ c, t = ⟨#[c]⟩ ∧ 97 ≤ c ∧ c ≤ 122) → (l.map (·.length)).sum = l.length := by
      intro l
      induction l with
      | nil => intro _; rfl
      | cons x r ih =>
        intro hl
        obtain ⟨c, rfl, _⟩ := hl x List.mem_cons_self
        rw [List.map_cons, List.sum_cons, ih fun t ht => hl t (List.mem_cons_of_mem _ ht), List.length_cons]
        show 1 + r.length = r.length + 1
        omega
    rw [hs ts h]
    have e : Str.empty.length = 0 := rfl
    rw [e]
    have z : (1000 : Nat) < sizeLine := by decide
    rw [Bool.not_eq_true', decide_eq_false_iff_not]
    omega
  · rw [hj]
    exact ⟨by omega, by omega, i2⟩
end Bw
set_option Elab.async false
set_option linter.all false
set_option maxRecDepth 100000
set_option maxHeartbeats 1000000
namespace Bw
open PySem PySem.Spec PyProof.Rows L2
structure CalC (P : Program) (w : World) (K : PySem.W.Frag) (mg : Str → Option Value) (base : Heap) (x : Str) (C : Addr) (ps : List Str) (k : Nat) (sp : Sp) : Prop where
  ex : ∃ f fd, FnOk P w K mg base (CXF P w) k f fd ps sp ∧ Binds K fd ps [] ∧ Mk K C f ∧ mg x = some (.ref C)
structure CalM (P : Program) (w : World) (K : PySem.W.Frag) (mg : Str → Option Value) (base : Heap) (C : Addr) (m : Str) (ps : List Str) (k : Nat) (sp : Sp) : Prop where
  ex : ∃ f fd, FnOk P w K mg base (CXF P w) k f fd ps sp ∧ Binds K fd ps [] ∧ Meth K C m f ∧ Cls K C
section
variable {X : Cx} {x m : Str} {C : Addr} {ps : List Str} {k : Nat} {sp : Sp} {e o : Expr} {es : List Expr} {ta : TE} {t : TA} {p pos apos : Pos} {E : XK}
def tMethD (Mm : Addr → Sp → Prop) (m : Str) (E : XK) (ta : TE) (t : TA) : TE := fun σ H Q => ta σ H fun x H1 => ∃ a C dx fs sp, x = .ref a ∧ H1 a = some (.ins C dx fs) ∧ fs.lookup m = none ∧ Mm C sp ∧
  t σ H1 fun vs H2 => sp (x :: vs) H2 Q E
theorem w_methD {Mm : Addr → Sp → Prop} {σ : L2.St} {H : Hp} {Q : VK} : tMethD Mm m E ta t σ H Q = ta σ H (fun x H1 => ∃ a C dx fs sp, x = .ref a ∧ H1 a = some (.ins C dx fs) ∧ fs.lookup m = none ∧ Mm C sp ∧
  t σ H1 fun vs H2 => sp (x :: vs) H2 Q E) := rfl
structure MkN (K : PySem.W.Frag) (C : Addr) : Prop where
  makes : PySem.W.makesIn K C = true
  init : PySem.W.findIn K (.ref C) "__init__" = some (some (.builtin "object.__init__"))
  kp : PySem.W.keepIn K (.ref C) = true
def tMakeN (C : Addr) : TE := fun _ H Q => ∀ x dx, H x = none → H dx = none → dx ≠ x → Q (.ref x) (L2.upd (L2.upd H dx (.own x)) x (.ins C dx []))
theorem w_makeN {σ : L2.St} {H : Hp} {Q : VK} : tMakeN C σ H Q = ∀ x dx, H x = none → H dx = none → dx ≠ x → Q (.ref x) (L2.upd (L2.upd H dx (.own x)) x (.ins C dx [])) := rfl
end
def rIsiV (K : PySem.W.Frag) : List V → Hp → VK → Prop := fun xs H Q => ∃ (x : V) (c : Addr) (t : Value) (b : Bool), xs = [x, .ref c] ∧ TyOf K H x t ∧ PySem.W.kitOne K t (.ref c) = some b ∧ Q (.bl b) H
theorem call_isiV {X : Cx} : CallR X (.builtin "isinstance") (rIsiV X.K) := by
  intro pins s σ H xs us Q I r h
  obtain ⟨x, c, t, b, rfl, ty, e, q⟩ := h
  obtain ⟨u, w', rfl, rx, rc⟩ := vals2 r
  cases (show w' = Value.ref c from rc)
  exact isinst_ok I rx ty e fun tk => ⟨.bl b, H, I.tok _, rfl, q⟩
section
variable {X : Cx}
end
section
variable {K : PySem.W.Frag} {C : Addr} {sp : Sp} {dvs : List V} {E : XK} {ta tv : TE} {t : TA} {f : Str} {σ : L2.St} {H : Hp} {Q : VK} {D : Ends} {n : Nat} {ts : TGs} {v : V} {QS : L2.St → Hp → Prop} {g : TG}
theorem w_make : tMake C sp dvs E t σ H Q = t σ H (fun vs H1 => ∀ x dx, H1 x = none → H1 dx = none → dx ≠ x →
  sp (.ref x :: (vs ++ dvs)) (L2.upd (L2.upd H1 dx (.own x)) x (.ins C dx [])) (fun v H2 => v = .non ∧ Q (.ref x) H2) E) := rfl
theorem w_fld : tFld K ta f σ H Q = ta σ H (fun x H1 => ∃ a C dx fs v, x = .ref a ∧ H1 a = some (.ins C dx fs) ∧ Cls K C ∧ NoAttr K C f ∧ fs.lookup f = some v ∧ Q v H1) := rfl
theorem w_gTup : gTup K n ts v σ H QS = ∃ a xs, v = .ref a ∧ SqT K H a xs ∧ xs.length = n ∧ ts xs σ H QS := rfl
theorem w_gCons {vs : List V} : gCons g ts vs σ H QS = ∃ v r, vs = v :: r ∧ g v σ H (fun σ' H' => ts r σ' H' QS) := rfl
theorem w_sFld : sFld K ta tv f D σ H = tv σ H (fun y H1 => ta σ H1 (fun x H2 => ∃ a C dx fs, x = .ref a ∧ H2 a = some (.ins C dx fs) ∧ Cls K C ∧ NoAttr K C f ∧ fs.length < 1000 ∧
  D.nx σ (L2.upd H2 a (.ins C dx (putF f y fs))))) := rfl
theorem w_gNil {vs : List V} : gNil vs σ H QS = (vs = [] ∧ QS σ H) := rfl
end
end Bw
namespace Bw
open PySem PySem.Spec PyProof.Rows L2
section
variable {X : Cx} {x : Str} {ps : List Str} {k : Nat} {sp : Sp} {p pos : Pos}
end
theorem made_same {H : Hp} {x dx : Addr} {o o' : HO} (hx : H x = none) (hd : H dx = none) : Same H (L2.upd (L2.upd H dx o) x o') := fun b u q => by
  rw [upd_ne (ne_of_none q hx), upd_ne (ne_of_none q hd)]
  exact q
structure ClsK (K : PySem.W.Frag) (C : Addr) : Prop where
  cl : Cls K C
  ha : PySem.W.findIn K (.ref C) "__class__" = some (some (.builtin "object.__class__"))
  hn : PySem.W.specialIn K (.builtin "object.__class__") "__get__" = some (some (.builtin "getset_descriptor.__get__"))
  ht : PySem.W.takesIn K (.builtin "object.__class__") = some true
  hm : PySem.W.mroIn K C (.type "object") = some true
theorem ClsK.ty {K : PySem.W.Frag} {C : Addr} (c : ClsK K C) {H : Hp} {a dx : Addr} {fs : List (Str × V)} (e : H a = some (.ins C dx fs)) : TyOf K H (.ref a) (.ref C) := .ins e c.cl c.ha c.hn c.ht c.hm
theorem isiV_at {X : Cx} {K : PySem.W.Frag} (hK : X.K = K) : CallR X (.builtin "isinstance") (rIsiV K) := by
  subst hK
  exact call_isiV
end Bw
set_option Elab.async false
set_option linter.all false
set_option maxRecDepth 100000
set_option maxHeartbeats 1000000
namespace Bw
open PySem PySem.Spec PyProof.Rows L2
def isStar : Expr → Bool
  | .Starred _ _ => true
  | _ => false
theorem star_plain : ∀ (e : Expr) (es : List Expr) (env : Env), isStar e = false → starEach (e :: es) env = (false, eval e env) :: starEach es env := by
  intro e es env h
  cases e <;> first | rfl | (cases h)
def noStar : List Expr → Bool
  | [] => true
  | e :: r => !isStar e && noStar r
theorem plain_any {pos : Pos} {env : Env} : ∀ {es : List Expr}, noStar es = true → (backTo pos (starEach es env)).any (·.1) = false
  | [], _ => rfl
  | e :: r, h => by
    have h' : (!isStar e) = true ∧ noStar r = true := by simpa [noStar] using h
    rw [star_plain e r env (by simpa using h'.1)]
    have ih := plain_any (pos := pos) (env := env) h'.2
    have e1 : backTo pos ((false, eval e env) :: starEach r env) = (false, eval e env) :: backTo pos (starEach r env) := rfl
    rw [e1, List.any_cons, ih]
    rfl
theorem pa_c {X : Cx} {e : Expr} {es : List Expr} {te : TE} {t : TA} (ha : PE X e te) (hr : PA X es t) (hs : isStar e = false := by rfl) : PA X (e :: es) (tCons te t) := pa_cons ha hr (star_plain e es X.env hs)
structure QA (X : Cx) (es : List Expr) (t : TA) : Prop where
  h : PA X es t
theorem qa_nil {X : Cx} : QA X [] tNil := ⟨pa_nil⟩
theorem qa_c {X : Cx} {e : Expr} {es : List Expr} {te : TE} {t : TA} (ha : PE X e te) (hr : QA X es t) (hs : isStar e = false := by rfl) : QA X (e :: es) (tCons te t) := ⟨pa_c ha hr.h hs⟩
theorem pa_of {X : Cx} {es : List Expr} {t : TA} (h : QA X es t) : PA X es t := h.h
end Bw
set_option Elab.async false
set_option linter.all false
set_option maxRecDepth 100000
set_option maxHeartbeats 1000000
namespace Bw
open PySem PySem.Spec PyProof.Rows L2
def wholeV : V → Bool
  | .int _ => true
  | _ => false
def fromV (x : V) (lo : Int) : Bool := match x with
  | .int i => decide (lo ≤ i)
  | _ => false
theorem okV.same {H H' : Hp} {x : V} (h : okV H x) (s : Same H H') : okV H' x := by
  cases x with
  | ref a =>
    rcases h with ⟨xs, e⟩ | ⟨xs, e⟩
    · exact .inl ⟨xs, s _ _ e⟩
    · exact .inr ⟨xs, s _ _ e⟩
  | non => trivial
  | bl _ => trivial
  | int _ => trivial
  | str _ => trivial
  | _ => exact h.elim
theorem okV.lst {H : Hp} {p : Addr} {xs : List V} (h : H p = some (.lst xs)) : okV H (.ref p) := .inl ⟨_, h⟩
theorem okV.tup {H : Hp} {p : Addr} {xs : List V} (h : H p = some (.tup xs)) : okV H (.ref p) := .inr ⟨_, h⟩
def tCut (t u : TS) : TS := fun D σ H => ∃ M : L2.St → Hp → Prop, t { D with nx := M } σ H ∧ ∀ σ' H', M σ' H' → u D σ' H'
theorem w_cut {t u : TS} {D : Ends} {σ : L2.St} {H : Hp} : tCut t u D σ H = ∃ M : L2.St → Hp → Prop, t { D with nx := M } σ H ∧ ∀ σ' H', M σ' H' → u D σ' H' := rfl
end Bw
set_option Elab.async false
set_option linter.all false
set_option maxRecDepth 100000
set_option maxHeartbeats 1000000
namespace Bw
open PySem PySem.Spec PyProof.Rows L2
def plainS (u : Str) : Bool := u.cps.all (· < 128)
def Its (u : Str) : It := ⟨fun i _ => i < u.cps.size, fun i H x H' => H' = H ∧ ∃ c, u.cps[i]? = some c ∧ x = .str ⟨#[c]⟩, fun i _ => u.cps.size ≤ i⟩
theorem turn_str {P : Program} {w : World} {K : PySem.W.Frag} {tg : Expr} (u : Str) (t : Tok) (it : Addr) : Turn P w K tg (Its u) [it] it (fun i h => h.IsStrIter it "str_ascii_iterator" u t i) where
  mem := by simp
  obj := fun i h st b hb => by
    have e : b = it := by simpa using hb
    subst e
    obtain ⟨o, e, c, d⟩ := st
    exact ⟨o, e, fun v z => by rw [d] at z; cases z⟩
  keep := fun i h h' st k => by
    obtain ⟨o, e, c, d⟩ := st
    exact ⟨o, k it (by simp) o e, c, d⟩
  item := by
    intro X hP hw hK hc i pins s σ H E I hf st hg
    subst hP hw hK
    have hx : u.cps[i]? = some u.cps[i] := Array.getElem?_eq_getElem hg
    obtain ⟨f0, f1, f2, f3, f4, f5⟩ := hf it (by simp)
    refine wpAny_pyNext_ascii_item st hx fun h' st' sb => ?_
    have I1 : Inv X pins σ H { s with heap := h', toks := s.toks + 1 } := I.turned (t' := s.toks + 1) (fun b o hb e => (sb.2 b hb).trans e) f0 f1 f3 f4 f5
    obtain ⟨o, e, c, d⟩ := id st'
    exact ⟨_, rfl, go_of (s := { s with heap := h', toks := s.toks + 1 }) e c d (by decide) ⟨.str ⟨#[u.cps[i]]⟩, H, I1, ⟨_, rfl⟩, ⟨rfl, _, hx, rfl⟩, st', fun b hb => (hf b hb).1⟩⟩
  done := by
    intro X hP hw hK hc i pins s σ H E I hf st hg
    subst hP hw hK
    obtain ⟨f0, f1, f2, f3, f4, f5⟩ := hf it (by simp)
    exact wpAny_pyNext_ascii_end (I.ok.hd hc) st (Array.getElem?_eq_none hg) fun h' eb => ⟨rfl, I.turned (t' := s.toks) (fun b o hb e => eb b o hb e) f0 f1 f3 f4 f5⟩
  self := fun _ _ _ _ _ st h => wpAny_pyIter_striter_ascii st h
def iStr (tl : TE) : TI := fun σ H R => tl σ H fun x H1 => ∃ u, x = .str u ∧ plainS u = true ∧ R (Its u) H1
theorem pi_str {X : Cx} {tg l : Expr} {tl : TE} (hl : PE X l tl) : PI X tg l (iStr tl) := by
  intro pins s σ H R I h
  refine thn (hl pins s σ H _ I h) fun v s1 ⟨x, H1, I1, r1, q1⟩ => ?_
  obtain ⟨u, e, hp, q⟩ := q1
  subst e
  obtain ⟨t, rfl⟩ := r1
  refine wpAny_pyIter_ascii hp ?_
  refine ⟨s1.heap.objs.size, [s1.heap.objs.size], _, _, H1, rfl, I1.kept (t' := s1.toks) fun b o e => Heap.get?_push_of_some _ e, turn_str u t _, ⟨_, Heap.get?_push_size _ rfl, rfl, rfl⟩, fun b hb => ?_, q⟩
  have e : b = s1.heap.objs.size := by simpa using hb
  subst e
  exact I1.fpOk (Nat.le_refl _) (I1.hok.fresh (Nat.le_refl _))
section
variable {K : PySem.W.Frag} {ta te : TE} {ix : List (Option Nat)} {g : TG} {tt : TT} {σ : L2.St} {H : Hp} {Q : VK}
def CompS (u : Str) (g : TG) (tt : TT) (te : TE) (Q : VK) (σ : L2.St) (H : Hp) : Prop := ∃ W : Nat → Nat → List V → L2.St → Hp → Prop, (∃ m, W 0 m [] σ H) ∧ ∀ i m acc σ H, W i m acc σ H →
  ((Its u).stop i H ∧ ∀ D, H D = none → Q (.ref D) (L2.upd H D (.lst acc))) ∨
  ((Its u).go i H ∧ acc.length < sizeLine ∧ ∃ N : List V → L2.St → Hp → Prop, (∀ acc' σ' H', N acc' σ' H' → ∃ m', m' < m ∧ W (i + 1) m' acc' σ' H') ∧
    ∀ x H', (Its u).yld i H x H' → g x σ H' fun σ2 H2 => tt σ2 H2 fun b H3 => if b = true then te σ2 H3 fun y H4 => N (acc ++ [y]) σ2 H4 else N acc σ2 H3)
theorem w_compS : tComp (iStr ta) ix g tt te σ H Q = ta σ H (fun x H1 => ∃ u, x = .str u ∧ plainS u = true ∧ CompS u g tt te Q (pick ix σ) H1) := rfl
theorem CompS.by {u : Str} (Pv : Nat → List V → L2.St → Hp → Prop) (hz : u.cps.size ≤ sizeLine) (h0 : Pv 0 [] σ H)
    (hs : ∀ i c acc σ H, u.cps[i]? = some c → Pv i acc σ H → g (.str ⟨#[c]⟩) σ H fun σ2 H2 => tt σ2 H2 fun b H3 => if b = true then te σ2 H3 fun y H4 => Pv (i + 1) (acc ++ [y]) σ2 H4 else Pv (i + 1) acc σ2 H3)
    (hacc : ∀ i acc σ H, Pv i acc σ H → acc.length ≤ i) (hd : ∀ acc σ H, Pv u.cps.size acc σ H → ∀ D, H D = none → Q (.ref D) (L2.upd H D (.lst acc))) : CompS u g tt te Q σ H := by
  refine ⟨fun i m acc σ H => m = u.cps.size - i ∧ i ≤ u.cps.size ∧ Pv i acc σ H, ⟨u.cps.size, by simp, Nat.zero_le _, h0⟩, ?_⟩
  rintro i m acc σ H ⟨rfl, hi, p⟩
  have ha := hacc i acc σ H p
  by_cases hlt : i < u.cps.size
  · refine .inr ⟨hlt, by omega, Pv (i + 1), fun acc' σ' H' p' => ⟨u.cps.size - (i + 1), by omega, rfl, hlt, p'⟩, fun x H' y => ?_⟩
    obtain ⟨e, c, hc, y⟩ := y
    subst e y
    exact hs i c acc σ _ hc p
  · have e : i = u.cps.size := by omega
    subst e
    exact .inl ⟨Nat.le_refl _, hd acc σ H p⟩
end
theorem bools_at : ∀ {bs : List Bool} {its : List Value}, Vals (bs.map V.bl) its → ∀ (i : Nat) (v : Value), its[i]? = some v → ∃ b : Bool, bs[i]? = some b ∧ v = Value.bool b
  | [], _, r, i, v, h => by
    rw [List.map_nil] at r
    cases r
    simp at h
  | b :: bs, _, r, i, v, h => by
    rw [List.map_cons] at r
    cases r with
    | cons r1 r2 =>
      cases i with
      | zero =>
        simp at h
        subst h
        exact ⟨b, rfl, r1⟩
      | succ i => exact bools_at r2 i v (by simpa using h)
theorem call_all {X : Cx} (hc : X.calm = true) : CallR X (.builtin "all") (fun xs H Q => ∃ (a : Addr) (bs : List Bool), xs = [.ref a] ∧ SqL X.K H a (bs.map V.bl) ∧ Q (.bl (bs.all id)) H) := by
  intro pins s σ H xs us Q I r h
  obtain ⟨a, bs, rfl, hS, q⟩ := h
  obtain ⟨u, rfl, ru⟩ := vals1 r
  cases ru
  obtain ⟨its, rv, pl, hz⟩ := I.list hS
  have hl : s.heap.IsList a its.toArray := pl.isList
  have hlt : a < s.heap.objs.size := by obtain ⟨_, e, _⟩ := hl; exact Heap.lt_size e
  refine call_all_walk (wpAny_pyIter_list hl ?_)
  refine ⟨s.heap.objs.size, [s.heap.objs.size, a], [s.heap.objs.size], its.toArray.size, _, _, fun i => (bs[i]?).getD true, rfl, Walks.list (A := X.A.in1) (I.ok.hd hc) _ a (Nat.ne_of_lt hlt) its.toArray,
    ⟨⟨_, Heap.get?_push_size _ rfl, rfl, rfl⟩, hl.push _⟩, fun i v s' Q' E' hP hQ => ?_, fun h' tk hk => ?_⟩
  · obtain ⟨b, e, rfl⟩ := bools_at rv i v (by simpa using hP)
    simp only [e, Option.getD_some] at hQ
    exact wpAny_truthy_bool hQ
  · have hn : its.toArray.size = bs.length := by
      have := rv.length
      rw [List.length_map] at this
      simpa using this.symm
    have e : ((List.range its.toArray.size).all fun i => (bs[i]?).getD true) = bs.all id := by
      rw [hn, Bool.eq_iff_iff, List.all_eq_true, List.all_eq_true]
      constructor
      · intro z b hb
        obtain ⟨i, hi, rfl⟩ := List.getElem_of_mem hb
        have := z i (List.mem_range.mpr hi)
        simpa [List.getElem?_eq_getElem hi] using this
      · intro z i hi
        have hi' := List.mem_range.mp hi
        simp only [List.getElem?_eq_getElem hi', Option.getD_some]
        exact z _ (List.getElem_mem hi')
    rw [e]
    refine ⟨.bl _, H, I.kept (t' := tk) fun b o eb => hk b o (fun hm => by rw [List.mem_singleton.mp hm] at eb; exact Nat.lt_irrefl _ (Heap.lt_size eb)) (Heap.get?_push_of_some _ eb), rfl, q⟩
def okN (H : Hp) : V → Prop
  | .non => True
  | .bl _ => True
  | .int _ => True
  | .str u => plainS u = true ∧ u.length ≤ 1000
  | .ref a => (∃ xs, H a = some (.lst xs)) ∨ (∃ xs, H a = some (.tup xs)) ∨ ∃ kvs, H a = some (.dK kvs)
  | _ => False
def isStrV : V → Bool
  | .str _ => true
  | _ => false
theorem okN.ty {K : PySem.W.Frag} {H : Hp} {x : V} (h : okN H x) : ∃ T, TyOf K H x (.type T) ∧ PySem.W.kitOne K (.type T) (.type "str") = some (isStrV x) := by
  cases x with
  | non => exact ⟨_, .non, by kernel_rfl⟩
  | bl b => exact ⟨_, .bl b, by kernel_rfl⟩
  | int i => exact ⟨_, .int i, by kernel_rfl⟩
  | str i => exact ⟨_, .str i, by kernel_rfl⟩
  | ref a =>
    rcases h with ⟨xs, e⟩ | ⟨xs, e⟩ | ⟨xs, e⟩
    · exact ⟨_, .lst e, by kernel_rfl⟩
    · exact ⟨_, .tup e, by kernel_rfl⟩
    · exact ⟨_, .dK e, by kernel_rfl⟩
  | _ => exact h.elim
theorem call_isi_str {X : Cx} : CallR X (.builtin "isinstance") (fun xs H Q => ∃ x, xs = [x, .ty "str"] ∧ okN H x ∧ Q (.bl (isStrV x)) H) := by
  intro pins s σ H xs us Q I r h
  obtain ⟨x, rfl, ok, q⟩ := h
  obtain ⟨T, ty, e⟩ := ok.ty (K := X.K)
  exact isi_gen I r ty e q
theorem okN.same {H H' : Hp} {x : V} (h : okN H x) (s : Same H H') : okN H' x := by
  cases x with
  | ref a =>
    rcases h with ⟨xs, e⟩ | ⟨xs, e⟩ | ⟨xs, e⟩
    · exact .inl ⟨xs, s _ _ e⟩
    · exact .inr (.inl ⟨xs, s _ _ e⟩)
    · exact .inr (.inr ⟨xs, s _ _ e⟩)
  | non => trivial
  | bl _ => trivial
  | int _ => trivial
  | str _ => exact h
  | _ => exact h.elim
theorem okN.but {H H' : Hp} {x : V} {w : Addr} (h : okN H x) (W : Well3 H' w) (s : But w H H') : okN H' x := by
  cases x with
  | ref a =>
    by_cases ha : a = w
    · obtain ⟨b, c, d, q⟩ := W
      exact .inl ⟨_, by rw [ha]; exact q⟩
    · rcases h with ⟨xs, e⟩ | ⟨xs, e⟩ | ⟨xs, e⟩
      · exact .inl ⟨xs, s _ _ ha e⟩
      · exact .inr (.inl ⟨xs, s _ _ ha e⟩)
      · exact .inr (.inr ⟨xs, s _ _ ha e⟩)
  | non => trivial
  | bl _ => trivial
  | int _ => trivial
  | str _ => exact h
  | _ => exact h.elim
def nameB : V → Bool
  | .str u => decide (goodN u)
  | _ => false
theorem in_letters {c : Nat} (h : c < 128) : (!(Builtin.Str.occurrences letters ⟨#[c]⟩ 0 letters.length 1).isEmpty) = decide (97 ≤ c ∧ c ≤ 122) := by
  have q : ∀ k : Fin 128, (!(Builtin.Str.occurrences letters ⟨#[k.val]⟩ 0 letters.length 1).isEmpty) = decide (97 ≤ k.val ∧ k.val ≤ 122) := by decide +kernel
  exact q ⟨c, h⟩
def LetS (u : Str) : Prop := ∀ c ∈ u.cps.toList, 97 ≤ c ∧ c ≤ 122
def Sm (u : Str) : Prop := plainS u = true ∧ u.length ≤ 100
theorem plain_iff {u : Str} : plainS u = true ↔ ∀ c ∈ u.cps.toList, c < 128 := by
  unfold plainS
  rw [Array.all_eq_true']
  constructor
  · intro h c hc
    have := h c (by simpa using hc)
    simpa using this
  · intro h c hc
    have := h c (by simpa using hc)
    simpa using this
theorem LetS.plain {u : Str} (h : LetS u) : plainS u = true := plain_iff.mpr fun c hc => by have := h c hc; omega
theorem good_let {u : Str} (h : goodN u) : LetS u := h.2.2
theorem good_sm {u : Str} (h : goodN u) : Sm u := ⟨(good_let h).plain, by have := h.2.1; omega⟩
theorem slice_mem {u : Str} {l r : Option Int} {c : Nat} (h : c ∈ (Txt.slice u l r).cps.toList) : c ∈ u.cps.toList := by
  unfold Txt.slice at h
  split at h
  · exact h
  · simp only [List.mem_filterMap] at h
    obtain ⟨i, _, e⟩ := h
    exact Array.mem_toList_iff.mpr (Array.mem_of_getElem? e)
theorem app_toList (u v : Str) : (u ++ v).cps.toList = u.cps.toList ++ v.cps.toList := by
  show (u.cps ++ v.cps).toList = _
  rw [Array.toList_append]
def badC (u : Str) : Prop := ∃ c ∈ u.cps.toList, ¬ (97 ≤ c ∧ c ≤ 122)
instance (u : Str) : Decidable (badC u) := by unfold badC; infer_instance
theorem badC.no {u : Str} (h : badC u) : ¬ goodN u := fun g => by
  obtain ⟨c, hc, n⟩ := h
  exact n (g.2.2 c hc)
theorem badC.l {u : Str} (h : badC u) (v : Str) : badC (u ++ v) := by
  obtain ⟨c, hc, n⟩ := h
  exact ⟨c, by rw [app_toList]; exact List.mem_append.mpr (.inl hc), n⟩
theorem badC.r {v : Str} (h : badC v) (u : Str) : badC (u ++ v) := by
  obtain ⟨c, hc, n⟩ := h
  exact ⟨c, by rw [app_toList]; exact List.mem_append.mpr (.inr hc), n⟩
theorem name_all {u : Str} (h : plainS u = true) : (u.cps.toList.map fun c => !(Builtin.Str.occurrences letters ⟨#[c]⟩ 0 letters.length 1).isEmpty).all id = decide (∀ c ∈ u.cps.toList, 97 ≤ c ∧ c ≤ 122) := by
  rw [Bool.eq_iff_iff, List.all_eq_true, decide_eq_true_eq]
  constructor
  · intro z c hc
    have q := z _ (List.mem_map.mpr ⟨c, hc, rfl⟩)
    rw [in_letters (plain_iff.mp h c hc)] at q
    simpa using q
  · intro z b hb
    obtain ⟨c, hc, rfl⟩ := List.mem_map.mp hb
    rw [in_letters (plain_iff.mp h c hc)]
    simpa using z c hc
section
variable {X : Cx} {x : Str} {C : Addr} {ps : List Str} {k : Nat} {sp : Sp} {e : Expr} {es : List Expr} {t : TA} {p pos : Pos}
variable {K : PySem.W.Frag} {σ : L2.St} {H : Hp} {Q : VK} {D : Ends} {CB : Addr} {i : Nat} {tb : XK → TS} {ts : TS} {E : XK} {dvs : List V}
theorem w_tryB : tTryB K CB i tb ts D σ H = tb (fun cls dx H2 => PySem.W.exmOne K cls (.ref CB) = some true ∧
  ∀ x, H2 x = none → ts { nx := fun σ' H3 => D.nx (σ'.set i none) H3, rt := D.rt, bk := fun σ' H3 => D.bk (σ'.set i none) H3, ct := fun σ' H3 => D.ct (σ'.set i none) H3 } (σ.set i (some (.ref x))) (L2.upd H2 x (hoExcD x cls dx))) D σ H := rfl
theorem w_bmake : tBMake C sp dvs t E σ H Q = t σ H (fun vs H1 => ∀ x dx, H1 x = none → H1 dx = none → dx ≠ x →
  sp (.ref x :: (vs ++ dvs)) (L2.upd (L2.upd H1 dx (.own x)) x (.ins C dx [])) (fun v H2 => v = .non ∧ Q (.ref x) H2) E) := rfl
def tNoKeys : TE := fun _ H0 Q0 => ∀ d, H0 d = none → Q0 (.ref d) (L2.upd H0 d (.dK []))
theorem w_noKeys : tNoKeys σ H Q = ∀ d, H d = none → Q (.ref d) (L2.upd H d (.dK [])) := rfl
end
end Bw
set_option Elab.async false
set_option linter.all false
set_option maxRecDepth 100000
set_option maxHeartbeats 1000000
namespace Bw
open PySem PySem.Spec PyProof.Rows L2
structure QE (X : Cx) (e : Expr) (t : TE) : Prop where
  h : PE X e t
structure QS (X : Cx) (st : Stmt) (t : TS) : Prop where
  h : PS X st t
structure QSs (X : Cx) (sts : List Stmt) (t : TS) : Prop where
  h : PSs X sts t
section
variable {X : Cx} {e a b c : Expr} {es : List Expr} {st : Stmt} {rest sa sb : List Stmt} {te ta tb : TE} {tl : TA} {tc : TT} {t u : TS} {pos pos' : Pos} {x : Str} {i : Nat}
theorem qe_of (h : PE X e te) : QE X e te := ⟨h⟩
theorem qs_of (h : PS X st t) : QS X st t := ⟨h⟩
theorem pss_of (h : QSs X rest t) : PSs X rest t := h.h
theorem qe_lst (h : QA X es tl) : QE X (.List es pos) (tLst tl) := ⟨pe_lst h.h⟩
theorem qe_ix {r : R2} (hr : IxR X r) (ha : QE X a ta) (hb : QE X b tb) (hs : PlainIx b) : QE X (.Subscript a b pos) (tOp r ta tb) := ⟨pe_ix hr ha.h hb.h hs⟩
theorem qs_ret (he : QE X e te) : QS X (.Return (some e) pos) (tRet te) := ⟨ps_ret he.h⟩
theorem qs_set (hN : X.N.Nodup) (hi : X.N[i]? = some x) (hx : Loc X.env.scope x) (he : QE X e te) (hs : swapsWith e (some (.Name x pos')) pos.line X.env = pure false) (hf : X.fn x = true ∨ X.env.scope.names.lookup x = some .local := by first | exact .inl rfl | exact .inr rfl | assumption) :
    QS X (.Assign [.Name x pos'] e pos) (tAsg te (gName i)) := ⟨ps_set hN hi hx he.h hs hf⟩
theorem qs_if (hc : PT X c tc) (ha : QSs X sa t) (hb : QSs X sb u) : QS X (.If c sa sb pos) (tIfS tc t u) := ⟨ps_if hc ha.h hb.h⟩
theorem qss_nil : QSs X [] tNext := ⟨pss_nil⟩
theorem qss_one (h : QS X st t) : QSs X [st] t := ⟨pss_one h.h⟩
theorem qss_cons (h1 : QS X st t) (h2 : QSs X rest u) : QSs X (st :: rest) (tSeq t u) := ⟨pss_cons h1.h h2.h⟩
theorem qss_of (h : PSs X rest t) : QSs X rest t := ⟨h⟩
end
end Bw
set_option Elab.async false
set_option linter.all false
set_option maxRecDepth 100000
set_option maxHeartbeats 1000000
namespace Bw
open PySem PySem.Spec PyProof.Rows L2
def rMul01 : R2 := fun x y H Q => ∃ u n, x = .str u ∧ y = .int n ∧ (n = 0 ∨ n = 1) ∧ Q (.str (if n = 1 then u else Str.empty)) H
theorem op_mul01 {X : Cx} : OpR X (binaryOp .Mult) rMul01 := by
  intro pins s σ H x y v u Q I rx ry h
  obtain ⟨z, n, rfl, rfl, hn, q⟩ := h
  obtain ⟨t, rfl⟩ := rx
  obtain ⟨t', rfl⟩ := ry
  refine P.mul_str (by rw [decide_eq_false (by omega), decide_eq_false (by omega)]; rfl) (fun a b => ?_) (fun a b => ?_) ?_
  · have : n = 1 := by omega
    rw [this] at b
    simp at b
  · have : n = 1 := by omega
    rw [this] at b
    simp at b
  · rcases hn with rfl | rfl
    · rw [if_pos (by decide)]
      refine ⟨by decide, ⟨.str Str.empty, H, I.tok _, ⟨_, rfl⟩, ?_⟩⟩
      exact q
    · rw [if_neg (by decide), if_pos (by simp)]
      exact ⟨.str z, H, I, ⟨_, rfl⟩, q⟩
end Bw
set_option Elab.async false
set_option linter.all false
set_option maxRecDepth 100000
set_option maxHeartbeats 1000000
namespace Bw
open PySem PySem.Spec PyProof.Rows L2
mutual
inductive RD (H : Hp) : V → PyData → Prop
  | non : RD H .non .none
  | bl (b : Bool) : RD H (.bl b) (.bool b)
  | int (i : Int) : RD H (.int i) (.int i)
  | str (x : Str) : RD H (.str x) (.str x)
  | lst {p : Addr} {xs : List V} {ds : List PyData} : H p = some (.lst xs) → RDs H xs ds → RD H (.ref p) (.list ds)
  | tup {p : Addr} {xs : List V} {ds : List PyData} : H p = some (.tup xs) → RDs H xs ds → RD H (.ref p) (.tuple ds)
inductive RDs (H : Hp) : List V → List PyData → Prop
  | nil : RDs H [] []
  | cons {v : V} {d : PyData} {vs : List V} {ds : List PyData} : RD H v d → RDs H vs ds → RDs H (v :: vs) (d :: ds)
end
section
variable {X : Cx} {pins : List (Addr × Obj)} {σ : L2.St} {H : Hp} {s : Shared}
mutual
theorem RD.reads (I : Inv X pins σ H s) : ∀ {v : V} {d : PyData}, RD H v d → ∀ {u : Value}, RelV v u → ∃ as, Reads s.heap u d as
  | _, _, .non, u, r => by cases (show u = Value.none from r); exact ⟨_, .none⟩
  | _, _, .bl b, u, r => by cases (show u = Value.bool b from r); exact ⟨_, .bool b⟩
  | _, _, .int i, u, r => by obtain ⟨t, rfl⟩ := (show ∃ t, u = Value.int i t from r); exact ⟨_, .int i t⟩
  | _, _, .str i, u, r => by obtain ⟨t, rfl⟩ := (show ∃ t, u = Value.str i t from r); exact ⟨_, .str i t⟩
  | _, _, .lst h hs, u, r => by
    cases (show u = Value.ref _ from r)
    obtain ⟨its, r1, ⟨o1, n1, p1, c1, _, d1⟩, _⟩ := I.list (SqL.of h)
    obtain ⟨as, ra⟩ := RDs.reads I hs r1
    exact ⟨_, Reads.list p1 c1 d1 (by simpa using ra)⟩
  | _, _, .tup h hs, u, r => by
    cases (show u = Value.ref _ from r)
    obtain ⟨its, r1, ⟨o1, p1, c1, n1, d1⟩, _⟩ := I.tuple (SqT.of h)
    obtain ⟨as, ra⟩ := RDs.reads I hs r1
    exact ⟨_, Reads.tuple p1 c1 d1 (by simpa using ra)⟩
theorem RDs.reads (I : Inv X pins σ H s) : ∀ {vs : List V} {ds : List PyData}, RDs H vs ds → ∀ {us : List Value}, Vals vs us → ∃ as, ReadsAll s.heap us ds as
  | _, _, .nil, _, .nil => ⟨_, .nil⟩
  | _, _, .cons h hs, _, .cons r rs => by
    obtain ⟨as, ra⟩ := RD.reads I h r
    obtain ⟨bs, rb⟩ := RDs.reads I hs rs
    exact ⟨_, .cons ra rb⟩
end
end
mutual
theorem mix_self : ∀ d : PyData, PyData.canLay0 d = true → SeqAt.noMix d d = true
  | .none, _ => by simp [SeqAt.noMix]
  | .bool _, _ => by simp [SeqAt.noMix]
  | .int _, _ => by simp [SeqAt.noMix]
  | .str _, _ => by simp [SeqAt.noMix]
  | .list xs, h => by
    simp only [SeqAt.noMix]
    exact mixs_self xs (by simpa [PyData.canLay0] using h)
  | .tuple xs, h => by
    simp only [SeqAt.noMix]
    exact mixs_self xs (by simpa [PyData.canLay0] using h)
  | .dict _, h => by simp [PyData.canLay0] at h
theorem mixs_self : ∀ ds : List PyData, PyData.canLayAll0 ds = true → SeqAt.noMixAll ds ds = true
  | [], _ => by simp [SeqAt.noMixAll]
  | d :: r, h => by
    have h' : PyData.canLay0 d = true ∧ PyData.canLayAll0 r = true := by simpa [PyData.canLayAll0] using h
    simp only [SeqAt.noMixAll, mix_self d h'.1, mixs_self r h'.2, Bool.and_self]
end
section
variable {X : Cx}
end
def tNev : TE := fun _ _ _ => False
theorem w_nev {σ : L2.St} {H : Hp} {Q : VK} : tNev σ H Q = False := rfl
theorem w_never {D : Ends} {σ : L2.St} {H : Hp} : tNever D σ H = False := rfl
structure CalD (P : Program) (w : World) (K : PySem.W.Frag) (mg : Str → Option Value) (base : Heap) (x : Str) (C : Addr) (ps : List Str) (k : Nat) (dvs : List V) (sp : Sp) : Prop where
  ex : ∃ f fd ds, FnOk P w K mg base (CXF P w) k f fd ps sp ∧ Binds K fd ps ds ∧ Vals dvs ds ∧ Mk K C f ∧ mg x = some (.ref C)
section
variable {X : Cx} {x m : Str} {C : Addr} {ps : List Str} {k : Nat} {sp : Sp} {e o : Expr} {es : List Expr} {ta : TE} {t : TA} {p pos apos : Pos} {E : XK} {dvs : List V}
theorem pe_makD (c : CalD X.prog X.w X.K X.mg X.base x C ps k dvs sp) (hx : Passes (CXF X.prog X.w) X E) (hr : Room (k + 1) X.A) (hg : Gl X x) (ha : PA X (e :: es) t)
    (hdb : (x == ("__debug__" : Str)) = false := by decide) (he : starEach (e :: es) X.env = (false, eval e X.env) :: starEach es X.env := by rfl) (hpl : (backTo pos (starEach es X.env)).any (·.1) = false := by rfl) :
    PE X (.Call (.Name x p) (e :: es) [] pos) (tMake C sp dvs E t) := by
  obtain ⟨f, fd, ds, F, b, hd, M, hm⟩ := c.ex
  exact pe_make M F hr hg hm b hd hx ha hdb he hpl
theorem pbe_makD (c : CalD X.prog X.w X.K X.mg X.base x C ps k dvs sp) (hnx : ∀ v s, ¬ X.xe v s) (hr : Room (k + 1) X.A) (hg : Gl X x) (ha : PA X (e :: es) t)
    (hdb : (x == ("__debug__" : Str)) = false := by decide) (he : starEach (e :: es) X.env = (false, eval e X.env) :: starEach es X.env := by rfl) (hpl : (backTo pos (starEach es X.env)).any (·.1) = false := by rfl) :
    PBE X (.Call (.Name x p) (e :: es) [] pos) (tBMake C sp dvs t) := by
  obtain ⟨f, fd, ds, F, b, hd, M, hm⟩ := c.ex
  exact pbe_make hnx M F hr hg hm b hd ha hdb he hpl
end
structure FunA (K : PySem.W.Frag) (x qual : Str) (st : Stmt) (f : Addr) (fd : FuncData) : Prop where
  ex : ∃ (oc : Value) (od : Option Addr) (dV kV doc pm : Value) (an : Option Addr) (cdv ct : Value) (osl : Array (Option Value)),
    fd = PySem.W.fnOf x qual (defArgs st) (defBody st) (defScope st) dV kV doc pm an cdv ct ∧ K.lookup f = some ⟨oc, od, .func fd, osl⟩ ∧ PySem.W.codeIn K cdv qual = true
section
variable {P : Program} {w : World} {K : PySem.W.Frag} {mg : Str → Option Value} {base : Heap} {N : List Str} {f : Addr}
theorem FunA.okX {x qual : Str} {st : Stmt} {fd : FuncData} {ps : List Str} {k : Nat} {sp : Sp} (F : FunA K x qual st f fd) (S : FnScope N ps (defScope st)) (len : ∀ vs H Q E, sp vs H Q E → vs.length = ps.length)
    (hbody : ∀ (cdv : Value) (A : Around) (outer : List Env) (s : Shared) (H : Hp) (vs : List V) (Q : VK) (E : XK), Room k (A.deeper (envOfC qual (defScope st) s.heap.objs.size f cdv)) → sp vs H Q E →
      ∃ t, PSs (cxX P w K mg base N qual (defScope st) f cdv A outer s H E) (defBody st) t ∧ t { nx := fun _ H' => Q .non H', rt := Q } (L2.start N vs) H) : FnOk P w K mg base (CXF P w) (k + 1) f fd ps sp := by
  obtain ⟨oc, od, dV, kV, doc, pm, an, cdv, ct, osl, rfl, lk, hcd⟩ := F.ex
  exact fn_of lk hcd S len fun A outer s H vs Q E hr hsp => hbody cdv A outer s H vs Q E hr hsp
theorem FunA.ok {x qual : Str} {st : Stmt} {fd : FuncData} {ps : List Str} {k : Nat} {sp : Sp} (F : FunA K x qual st f fd) (S : FnScope N ps (defScope st)) (len : ∀ vs H Q E, sp vs H Q E → vs.length = ps.length)
    (hbody : ∀ (cdv : Value) (A : Around) (outer : List Env) (s : Shared) (H : Hp) (vs : List V) (Q : VK) (E : XK), Room k (A.deeper (envOfC qual (defScope st) s.heap.objs.size f cdv)) → sp vs H Q E →
      ∃ t, PSs (cxOf CX0 P w K mg base N qual (defScope st) f cdv A outer s H E).nox (defBody st) t ∧ t { nx := fun _ H' => Q .non H', rt := Q } (L2.start N vs) H) : FnOk P w K mg base CX0 (k + 1) f fd ps sp := by
  obtain ⟨oc, od, dV, kV, doc, pm, an, cdv, ct, osl, rfl, lk, hcd⟩ := F.ex
  refine fn_of lk hcd S len fun A outer s H vs Q E hr hsp => ?_
  obtain ⟨t, h, q⟩ := hbody cdv A outer s H vs Q E hr hsp
  exact ⟨t, h.nox, q⟩
theorem funA_mk {x qual : Str} {st : Stmt} {oc : Value} {od an : Option Addr} {osl : Array (Option Value)} {dV kV doc pm cdv ct : Value} (l : K.lookup f = some ⟨oc, od, .func (PySem.W.fnOf x qual (defArgs st) (defBody st) (defScope st) dV kV doc pm an cdv ct), osl⟩)
    (c : PySem.W.codeIn K cdv qual = true) : FunA K x qual st f (PySem.W.fnOf x qual (defArgs st) (defBody st) (defScope st) dV kV doc pm an cdv ct) := ⟨⟨oc, od, dV, kV, doc, pm, an, cdv, ct, osl, rfl, l, c⟩⟩
theorem bindsD {fd : FuncData} {ps : List Str} {ds : List Value} (n : Nat) (hn : n + ds.length = ps.length) (h : ∀ (s : Shared) (us : List Value), K.In s.heap → us.length = n → BindsTo s fd ⟨us, []⟩ (ps.zip (us ++ ds))) : Binds K fd ps ds := fun s us X hl => h s us X (by
  rw [List.length_append] at hl
  omega)
end
end Bw
set_option Elab.async false
set_option linter.all false
set_option maxRecDepth 100000
namespace Bw
open PySem PySem.Spec PyProof.Rows L2
def below (s e t : Int) : Int := (t - s) / 1440 * ((e - s) % 1440) + (if (e - s) % 1440 < (t - s) % 1440 then (e - s) % 1440 else (t - s) % 1440)
end Bw
set_option Elab.async false
set_option linter.all false
set_option maxRecDepth 100000
set_option maxHeartbeats 1000000
namespace Bw
open PySem PySem.Spec PyProof.Rows L2
end Bw
set_option Elab.async false
set_option linter.all false
set_option maxRecDepth 100000
set_option maxHeartbeats 1000000
namespace Bw
open PySem PySem.Spec PyProof.Rows L2
end Bw
set_option Elab.async false
set_option linter.all false
set_option maxRecDepth 100000
set_option maxHeartbeats 1000000
namespace Bw
open PySem PySem.Spec PyProof.Rows L2
section
variable {prog : Program} {w : World} {A : Around} {R : Result → Shared → Prop} {I : Addr} {fp wr : List Addr} {G : Array GenState → Array GenState → Prop} {P : Nat → Value → Prop} {St : Nat → Shared → Prop}
end
section
variable {prog : Program} {w : World} {A : Around} {E : Value → Shared → Prop} {s : Shared}
end
end Bw
set_option Elab.async false
set_option linter.all false
set_option maxRecDepth 100000
set_option maxHeartbeats 1000000
namespace Bw
open PySem PySem.Spec PyProof.Rows L2
theorem TyOf.same {K : PySem.W.Frag} {H H' : Hp} {x : V} {t : Value} (h : TyOf K H x t) (s : Same H H') : TyOf K H' x t := by
  cases h with
  | non => exact .non
  | bl x => exact .bl x
  | int i => exact .int i
  | str x => exact .str x
  | flt x => exact .flt x
  | lst e => exact .lst (s _ _ e)
  | frz e => exact .frz (s _ _ e)
  | tup e => exact .tup (s _ _ e)
  | dK e => exact .dK (s _ _ e)
  | dT e => exact .dT (s _ _ e)
  | ins e cl ha hn ht hm => exact .ins (s _ _ e) cl ha hn ht hm
def rIsiG (K : PySem.W.Frag) (T : String) : List V → Hp → VK → Prop := fun xs H Q => ∃ (x : V) (t : Value) (b : Bool), xs = [x, .ty T] ∧ TyOf K H x t ∧ PySem.W.kitOne K t (.type T) = some b ∧ Q (.bl b) H
theorem isiG_at {X : Cx} {K : PySem.W.Frag} {T : String} (hK : X.K = K) : CallR X (.builtin "isinstance") (rIsiG K T) := by
  subst hK
  intro pins s σ H xs us Q I r h
  obtain ⟨x, t, b, rfl, ty, e, q⟩ := h
  obtain ⟨u, w', rfl, rx, rc⟩ := vals2 r
  cases (show w' = Value.type T from rc)
  exact isinst_ok I rx ty e fun tk => ⟨.bl b, H, I.tok _, rfl, q⟩
end Bw
set_option Elab.async false
set_option linter.all false
set_option maxRecDepth 100000
set_option maxHeartbeats 1000000
namespace Bw
open PySem PySem.Spec PyProof.Rows L2
section
variable {X : Cx}
def tBIf (c : TT) (t u : XK → TS) : XK → TS := fun E D σ H => c σ H fun b H1 => if b = true then t E D σ H1 else u E D σ H1
theorem w_bIf {c : TT} {t u : XK → TS} {E : XK} {D : Ends} {σ : L2.St} {H : Hp} : tBIf c t u E D σ H = c σ H (fun b H1 => if b = true then t E D σ H1 else u E D σ H1) := rfl
end
end Bw
set_option Elab.async false
set_option linter.all false
set_option maxRecDepth 100000
set_option maxHeartbeats 1000000
namespace Bw
open PySem PySem.Spec PyProof.Rows L2
section
variable {X : Cx} {CX : CXT} {k : Nat} {f C : Addr} {fd : FuncData} {ps ks : List Str} {sp : Sp} {E : XK} {x : Str} {p pos : Pos} {e : Expr} {es : List Expr} {kws : List Keyword} {t tk : TA}
  {g : List Value → List Value → List Value} {gV : List V → List V → List V}
def tMakeK (C : Addr) (sp : Sp) (gV : List V → List V → List V) (E : XK) (t tk : TA) : TE := fun σ H Q => t σ H fun vs H1 => tk σ H1 fun zs H2 => ∀ x dx, H2 x = none → H2 dx = none → dx ≠ x →
  sp (gV (.ref x :: vs) zs) (L2.upd (L2.upd H2 dx (.own x)) x (.ins C dx [])) (fun v H3 => v = .non ∧ Q (.ref x) H3) E
theorem w_makeK {σ : L2.St} {H : Hp} {Q : VK} : tMakeK C sp gV E t tk σ H Q = t σ H (fun vs H1 => tk σ H1 fun zs H2 => ∀ x dx, H2 x = none → H2 dx = none → dx ≠ x →
  sp (gV (.ref x :: vs) zs) (L2.upd (L2.upd H2 dx (.own x)) x (.ins C dx [])) (fun v H3 => v = .non ∧ Q (.ref x) H3) E) := rfl
theorem run_makek {pins : List (Addr × Obj)} {σ : L2.St} {H : Hp} {s : Shared} {Q : VK} {us ws : List Value} {vs zs : List V} (M : Mk X.K C f) (F : FnOk X.prog X.w X.K X.mg X.base CX k f fd ps sp) (hr : Room (k + 1) X.A)
    (hb : KBinds X.K fd ps ks g gV) (hx : Passes CX X E) (I : Inv X pins σ H s) (r : Vals vs us) (rz : Vals zs ws)
    (h : ∀ x dx, H x = none → H dx = none → dx ≠ x → sp (gV (.ref x :: vs) zs) (L2.upd (L2.upd H dx (.own x)) x (.ins C dx [])) (fun v H2 => v = .non ∧ Q (.ref x) H2) E) :
    wpAny (model X.prog X.w) X.A (call (.ref C) us (ks.zip ws)) (EP X pins σ Q) X.xe s := by
  have hq := h (s.heap.objs.size + 1) s.heap.objs.size (I.hok.fresh (Nat.le_succ _)) (I.hok.fresh (Nat.le_refl _)) (Nat.ne_of_lt (Nat.lt_succ_self _))
  have I2 := Inv.made (C := C) I
  have r2 : Vals (gV (V.ref (s.heap.objs.size + 1) :: vs) zs) (g (Value.ref (s.heap.objs.size + 1) :: us) ws) := hb.rel (.cons rfl r) rz
  have hl : (g (Value.ref (s.heap.objs.size + 1) :: us) ws).length = ps.length := by rw [← r2.length]; exact F.len _ _ _ _ hq
  refine wpAny_call (make_map (f := f) I.kIn M.makes M.init (beq_iff_eq.mp M.fn) (codeAny_mono (F.run _ X.stack _ _ ⟨Value.ref (s.heap.objs.size + 1) :: us, ks.zip ws⟩ (g (Value.ref (s.heap.objs.size + 1) :: us) ws) _ _ E (hr.make C us (ks.zip ws))
    (I2.env0.make C us (ks.zip ws)) (hb.to _ (Value.ref (s.heap.objs.size + 1) :: us) ws I2.kIn hl) r2 hq) fun r s' hq' => ?_))
  cases r with
  | error e => exact hx pins σ _ _ e s' I2 hq'
  | ok fl =>
    cases fl with
    | ret u =>
      obtain ⟨v, H', I3, rv, ev, q3⟩ := I2.after hq'
      subst ev
      exact ⟨rv, ⟨V.ref (s.heap.objs.size + 1), H', I3, rfl, q3⟩⟩
    | next => exact False.elim hq'
    | brk => exact False.elim hq'
    | cont => exact False.elim hq'
end
structure CalK (P : Program) (w : World) (K : PySem.W.Frag) (mg : Str → Option Value) (base : Heap) (x : Str) (C : Addr) (ps ks : List Str) (k : Nat) (gV : List V → List V → List V) (sp : Sp) : Prop where
  ex : ∃ f fd g, FnOk P w K mg base (CXF P w) k f fd ps sp ∧ KBinds K fd ps ks g gV ∧ Mk K C f ∧ mg x = some (.ref C)
section
variable {X : Cx} {x : Str} {C : Addr} {ps ks : List Str} {k : Nat} {sp : Sp} {e : Expr} {es : List Expr} {t tk : TA} {p pos : Pos} {E : XK} {kws : List Keyword} {gV : List V → List V → List V}
theorem pe_makK (c : CalK X.prog X.w X.K X.mg X.base x C ps ks k gV sp) (hx : Passes (CXF X.prog X.w) X E) (hr : Room (k + 1) X.A) (hg : Gl X x) (ha : PA X (e :: es) t) (hkw : PK X kws tk)
    (hks : (backToKw pos (keywordEach kws X.env)).filterMap (·.1) = ks := by rfl) (hall : (backToKw pos (keywordEach kws X.env)).all (·.1.isSome) = true := by rfl)
    (hdb : (x == ("__debug__" : Str)) = false := by decide) (he : starEach (e :: es) X.env = (false, eval e X.env) :: starEach es X.env := by rfl)
    (hpl : ((backTo pos (starEach (e :: es) X.env)).any (·.1) || (backToKw pos (keywordEach kws X.env)).any (·.1.isNone)) = false := by rfl) :
    PE X (.Call (.Name x p) (e :: es) kws pos) (tMakeK C sp gV E t tk) := by
  obtain ⟨f, fd, g, F, hb, M, hm⟩ := c.ex
  intro pins s σ H Q I h
  refine wpAny_Call_Name_kw (ld_glob I hg hm ?_ hdb)
  refine PySem.W.callWith_KW (h₀ := X.base) I.ok.mod.kin M.kp hall (thn (ha pos pins s σ H _ I h) fun us s1 ⟨vs, H1, I1, r, q⟩ => ?_) hpl he
  refine thn (hkw pos pins s1 σ H1 _ I1 q) fun ws s2 ⟨zs, H2, I2, rz, q2⟩ => ⟨I2.kIn, ?_⟩
  rw [hks]
  exact run_makek M F hr hb hx I2 r rz q2
def rIsiX (K : PySem.W.Frag) : List V → Hp → VK → Prop := fun xs H Q => ∃ (x : Addr) (c : V) (cv : Value) (b : Bool) (C : Addr), xs = [.ref x, c] ∧ RelV c cv ∧ ExcK K C ∧ XAt H x C ∧ PySem.W.kitOne K (.ref C) cv = some b ∧ Q (.bl b) H
theorem isiX_at {K : PySem.W.Frag} (hK : X.K = K) : CallR X (.builtin "isinstance") (rIsiX K) := by
  subst hK
  intro pins s σ H xs us Q I r h
  obtain ⟨x, c, cv, b, C, e1, e2, F, e3, e4, q⟩ := h
  exact call_isiE F pins s σ H xs us Q I r ⟨x, c, cv, b, e1, e2, e3, e4, q⟩
def rIsiXT (K : PySem.W.Frag) : List V → Hp → VK → Prop := fun xs H Q => ∃ (x tp : Addr) (cs : List Addr) (b : Bool) (C : Addr), xs = [.ref x, .ref tp] ∧ ExcK K C ∧ XAt H x C ∧ H tp = some (.tup (cs.map V.ref)) ∧ PySem.W.kitAny K (.ref C) (cs.map Value.ref) = some b ∧ Q (.bl b) H
theorem isiXT_at {K : PySem.W.Frag} (hK : X.K = K) : CallR X (.builtin "isinstance") (rIsiXT K) := by
  subst hK
  intro pins s σ H xs us Q I r h
  obtain ⟨x, tp, cs, b, C, e1, F, e2, e3, e4, q⟩ := h
  exact call_isiT F pins s σ H xs us Q I r ⟨x, tp, cs, b, e1, e2, e3, e4, q⟩
end
end Bw
set_option Elab.async false
set_option linter.all false
set_option maxRecDepth 100000
set_option maxHeartbeats 1000000
namespace Bw
open PySem PySem.Spec PyProof.Rows L2
open Builtin Builtin.ObjectAttr
def excMro : List Value → Bool
  | .ref _ :: r => excMro r
  | l => l == vbm
theorem refuse_exc (self : Value) : ∀ {l : List Value}, excMro l = true → refuseLoop self "__setattr__" l = pure ()
  | [], e => by cases e
  | .ref c :: r, e => by rw [refuseLoop_ref]; exact refuse_exc self e
  | .type n :: r, e => by rw [beq_iff_eq.mp e]; exact PySem.F.store_ValueError.passes self
  | .none :: r, e => by cases beq_iff_eq.mp e
  | .bool _ :: r, e => by cases beq_iff_eq.mp e
  | .int _ _ :: r, e => by cases beq_iff_eq.mp e
  | .str _ _ :: r, e => by cases beq_iff_eq.mp e
  | .bytes _ _ :: r, e => by cases beq_iff_eq.mp e
  | .float _ _ :: r, e => by cases beq_iff_eq.mp e
  | .builtin _ :: r, e => by cases beq_iff_eq.mp e
  | .notImplemented :: r, e => by cases beq_iff_eq.mp e
  | .ellipsis :: r, e => by cases beq_iff_eq.mp e
structure ExcS (K : PySem.W.Frag) (C : Addr) (cd : ClassData) : Prop where
  at_ : PySem.W.clsIn K C = some cd
  mro : excMro cd.mro = true
  hd : cd.hasDict = true
  sa : PySem.W.findIn K (.ref C) "__setattr__" = some (some (.builtin "object.__setattr__"))
section
variable {prog : Program} {w : World} {A : Around} {E : Value → Shared → Prop} {s : Shared} {K : PySem.W.Frag} {x C : Addr} {cd : ClassData} {name : Str} {v : Value}
theorem osa_exc {R : Result → Shared → Prop} {ox : Obj} {od : Option Obj} {tk : Tok} (X : K.In s.heap) (I : PySem.W.InstAt s.heap x ox C od) (F : ExcS K C cd) (hO : PySem.W.mroIn K C (.type "object") = some true) (ha : PySem.W.findIn K (.ref C) name = some none)
    (h : wpAny (model prog w) A.in1 (storeInOwnDict (.ref x) (.ref C) (.str name tk) name v false)
      (fun fin s' => match fin with | .done f => R (.ok f) s' | .again c' => c'.quiet = true ∧ codeAny (model prog w) A c' R s') (fun e s' => R (.error e) s') s) :
    codeAny (model prog w) A (.call (.builtin "object.__setattr__") ⟨[.ref x, .str name tk, v], []⟩) R s := by
  have SF := PySem.F.store_object
  have sub : PySem.W.Looks (model prog w) s.heap (isInstance (.ref x) (.type "object")) true := I.type.andThen (PySem.W.looks_mroIn X hO)
  refine codeAny_call_builtin SF.slot.plain SF.entry (@PySem.W.check_slot (model prog w) _ _ s "object.__setattr__" "object" "__setattr__" (.ref x) [.str name tk, v] [] _ SF.kind SF.split sub (SF.args (.ref x) (.str name tk) v) ?_)
  have hm : PySem.W.Looks (model prog w) s.heap (mroOf (.ref C)) cd.mro := (PySem.W.looks_clsIn X F.at_).andThen .now
  have L3 : PySem.W.Looks (model prog w) s.heap (storeTaker? none) none := .now
  rw [PySem.W.osa_eq, refuse_eq]
  refine wpAny_bind (wpAny_bind (I.type.here (wpAny_bind (hm.here ?_))))
  rw [refuse_exc _ F.mro]
  refine wpAny_pure (wpAny_bind (I.type.here (wpAny_bind ((PySem.W.looks_findIn X ha).here (wpAny_bind (L3.here ?_))))))
  exact h
theorem setx {ox : Obj} {vs : Array Value} {Q : Unit → Shared → Prop} (X : K.In s.heap) (hx : s.heap.get? x = some ox) (hcl : ox.cls = .ref C) (hdt : ox.data = .fields vs) (hdn : ox.dict = none)
    (F : ExcS K C cd) (hO : PySem.W.mroIn K C (.type "object") = some true) (ha : PySem.W.findIn K (.ref C) name = some none)
    (h : ∀ h' t', h'.get? x = some { ox with dict := some s.heap.objs.size } → h'.Ns1 s.heap.objs.size (fun y => if y = name then some v else none) → (∀ b o, b ≠ x → s.heap.get? b = some o → h'.get? b = some o) → Q () { s with heap := h', toks := t' }) :
    wpAny (model prog w) A (setAttr (.ref x) name v) Q E s := by
  obtain ⟨oc, od0, odt, osl⟩ := ox
  dsimp only at hcl hdt hdn
  subst hcl hdt hdn
  have I : PySem.W.InstAt s.heap x ⟨.ref C, none, .fields vs, osl⟩ C none := ⟨hx, rfl, rfl, trivial⟩
  refine PySem.W.set_plain X I F.sa (osa_exc (s := { s with toks := s.toks + 1 }) X I F hO ha ?_)
  have hxs : x ≠ s.heap.objs.size := Nat.ne_of_lt (Heap.lt_size hx)
  have hx₁ : (s.heap.push { cls := .type "dict", data := .dict #[] }).get? x = some ⟨.ref C, none, .fields vs, osl⟩ := Heap.get?_push_of_some _ hx
  refine wpAny_bind (wpAny_pure (wpAny_bind (wpAny_bind (wpAny_loadPart hx (wpAny_bind (PySem.W.Looks.here (s := { s with toks := s.toks + 1 }) (PySem.W.looks_clsIn X F.at_) ?_))))))
  rw [F.hd]
  dsimp only
  refine wpAny_bind (wpAny_alloc' ?_)
  refine wpAny_bind (wpAny_update' hx₁ ?_)
  refine wpAny_pure ?_
  have hgd : ((s.heap.push { cls := .type "dict", data := .dict #[] }).update x fun o => { cls := o.cls, dict := some s.heap.objs.size, data := o.data, slots := o.slots }).get? s.heap.objs.size
      = some { cls := .type "dict", data := .dict #[] } :=
    (Heap.get?_update_ne _ _ _ _ hxs.symm).trans (Heap.get?_push_at rfl rfl)
  have hnd : ((s.heap.push { cls := .type "dict", data := .dict #[] }).update x fun o => { cls := o.cls, dict := some s.heap.objs.size, data := o.data, slots := o.slots }).Ns s.heap.objs.size (fun _ => none) :=
    ⟨_, #[], _, hgd, rfl, fun e he => absurd he (by simp), fun _ => rfl⟩
  show wpAny _ _ (storeInDict s.heap.objs.size (.str name _) name v) _ _ _
  unfold storeInDict newKeyGuard
  refine wpAny_bind (wpAny_pure (wpAny_bind (wpAny_nsSet1 (Heap.Ns1.of_empty hnd) fun h' hn' hs => ?_)))
  obtain ⟨oD, esD, epD, hoD, hdD, hcD⟩ := hn'.count (Within.cons name v Within.nil)
  refine wpAny_bind (wpAny_lookBehind hoD (by rw [hdD]; exact pastItsLine_dict (Nat.le_trans hcD (by rw [List.length_cons, List.length_nil, sizeLine_eq]; omega))) ?_)
  refine wpAny_pure (h h' _ ?_ hn' fun b o hbx hb => ?_)
  · refine (hs.2 x hxs).trans (Heap.get?_update_self _ hx₁ rfl)
  · exact (hs.2 b (Nat.ne_of_lt (Heap.lt_size hb))).trans ((Heap.get?_update_ne _ _ _ _ hbx).trans (Heap.get?_push_of_some _ hb))
end
end Bw
set_option Elab.async false
set_option linter.all false
set_option maxRecDepth 100000
set_option maxHeartbeats 1000000
namespace Bw
open PySem PySem.Spec PyProof.Rows L2
open Builtin Builtin.ObjectAttr
section
variable {prog : Program} {w : World} {A : Around} {E : Value → Shared → Prop} {K : PySem.W.Frag} {h : Heap} {g : Array GenState} {d : Drawn} {t : Nat} {os : OsState} {x C : Addr} {name : Str} {v : Value} {ox od : Obj}
theorem exd_entry {tk : Tok} {Q : Fin → Shared → Prop} (Z : K.In h) (I : PySem.W.InstAt h x ox C (some od)) (hf : PySem.W.findObj K C (some od) name = some (.value v)) (hq : Q (.done (.ret v)) ⟨h, g, d, t, os⟩) :
    wpAny (model prog w) A (Builtin.«object.__getattribute__» ⟨[.ref x, .str name tk], []⟩) Q E ⟨h, g, d, t, os⟩ := by
  have L0 := I.type (M := model prog w)
  have L1 := PySem.W.looks_find (M := model prog w) Z I hf
  refine wpAny_bind (wpAny_pure (wpAny_bind (wpAny_pure (wpAny_bind (L0.at (wpAny_bind (L1.at ?_)))))))
  exact wpAny_pure hq
theorem exd_check {M : Model} {nameV : Value} {Q : Unit → Shared → Prop} (Z : K.In h) (F : ExcK K C) (I : PySem.W.InstAt h x ox C (some od)) (hq : Q () ⟨h, g, d, t, os⟩) :
    wpAny M A (checkBuiltinCall "BaseException.__getattribute__" ⟨[.ref x, nameV], []⟩) Q E ⟨h, g, d, t, os⟩ := exc_check Z F ⟨ox, I.at_, I.cls⟩ hq
theorem exd_call {tk : Tok} {R : Result → Shared → Prop} (Z : K.In h) (F : ExcK K C) (I : PySem.W.InstAt h x ox C (some od)) (hf : PySem.W.findObj K C (some od) name = some (.value v)) (hq : R (.ok (.ret v)) ⟨h, g, d, t, os⟩) :
    codeAny (model prog w) A (.call (.builtin "BaseException.__getattribute__") ⟨[.ref x, .str name tk], []⟩) R ⟨h, g, d, t, os⟩ :=
  codeAny_call_builtin PySem.F.excAttr_ValueError.ga.plain PySem.F.entry_bexc_ga (exd_check Z F I (exd_entry Z I hf hq))
theorem exd_by {tk : Tok} {fill expr : Bool} {Q : Value → Shared → Prop} (Z : K.In h) (F : ExcK K C) (I : PySem.W.InstAt h x ox C (some od)) (hf : PySem.W.findObj K C (some od) name = some (.value v)) (hv : PySem.W.handedIn v = true) (hq : Q v ⟨h, g, d, t, os⟩) :
    wpAny (model prog w) A (getAttrBy (.ref x) (.str name tk) fill expr) Q E ⟨h, g, d, t, os⟩ := by
  have L0 := I.type (M := model prog w)
  have L1 := PySem.W.looks_findIn (M := model prog w) Z F.ga
  have L2 := PySem.W.looks_findIn (M := model prog w) Z F.gt
  have f3 := PySem.F.excAttr_ValueError.ga.bind (.ref x)
  have f9 := PySem.W.handedOut_of hv
  have hx0 : (expr && onTheHeap (Value.builtin "BaseException.__getattribute__")) = false := by cases expr <;> rfl
  have hx2 : (Value.builtin "BaseException.__getattribute__" == Value.builtin "object.__getattribute__") = false := by decide +kernel
  have hx1 : (onTheHeap (Value.ref C) && Value.builtin "BaseException.__getattribute__" == Value.builtin "object.__getattribute__") = false := by rw [hx2]; rfl
  repeat (any_goals (first | assumption | (with_reducible refine PySem.W.Looks.at (by assumption) ?_) | wp_step))
  refine exd_call Z F I hf ?_
  repeat (any_goals (first | assumption | wp_step))
theorem exd_attr {expr : Bool} {Q : Value → Shared → Prop} (Z : K.In h) (F : ExcK K C) (I : PySem.W.InstAt h x ox C (some od)) (hf : PySem.W.findObj K C (some od) name = some (.value v)) (hv : PySem.W.handedIn v = true) (hq : Q v ⟨h, g, d, t + 1, os⟩) :
    wpAny (model prog w) A (getAttr (.ref x) name expr) Q E ⟨h, g, d, t, os⟩ := by
  unfold getAttr
  repeat (any_goals (first | assumption | with_reducible apply exd_by Z F I hf hv | wp_step))
end
end Bw
set_option Elab.async false
set_option linter.all false
set_option maxRecDepth 100000
set_option maxHeartbeats 1000000
namespace Bw
open PySem PySem.Spec PyProof.Rows L2
def excNew (x C : Addr) (dx : Option Addr) (h : Heap) : Prop := ∃ ob a0, h.get? x = some ob ∧ ob.cls = .ref C ∧ ob.dict = dx ∧ ob.data = .fields #[a0, .none, .none, .none, .bool false, .none]
def hoNew (x C : Addr) (dx : Option Addr) : HO := .ext (excNew x C dx)
section
variable {P : Program} {w : World} {H : Hp} {h : Heap}
theorem new_ok {x C : Addr} {dx : Option Addr} (p : excNew x C dx h) : ObjOk P w H h x (hoNew x C dx) :=
  let ⟨ob, a0, e, r⟩ := p; ⟨p, ⟨ob, e⟩, fun h1 h2 ⟨o1, b0, q1, q2⟩ k => ⟨o1, b0, k _ q1, q2⟩⟩
end
section
variable {X : Cx} {pins : List (Addr × Obj)} {σ : L2.St} {H : Hp} {s : Shared} {o value : Expr} {ta tv : TE} {f : Str} {pos pos' : Pos} {A : Around} {E : Value → Shared → Prop}
theorem setx_ok {a C : Addr} {cd : ClassData} {y : V} {u : Value} {Q : Unit → Shared → Prop} (I : Inv X pins σ H s) (ea : H a = some (hoNew a C none)) (F : ExcS X.K C cd) (hO : PySem.W.mroIn X.K C (.type "object") = some true) (n : NoAttr X.K C f) (ry : RelV y u)
    (h : ∀ dx s', H dx = none → dx ≠ a → Inv X pins σ (upd (upd H dx (.xd [(f, y)])) a (hoNew a C (some dx))) s' → Q () s') : wpAny (model X.prog X.w) A (setAttr (.ref a) f u) Q E s := by
  obtain ⟨⟨ob, a0, hob, hcl, hdn, hdt⟩, _, _⟩ := (show ObjOk X.prog X.w H s.heap a (.ext (excNew a C none)) from I.hok a _ ea)
  refine setx I.kIn hob hcl hdt hdn F hO n fun h' t' hx' hn' hk => ?_
  have nd : H s.heap.objs.size = none := I.hok.fresh (Nat.le_refl _)
  have da : s.heap.objs.size ≠ a := fun z => absurd (Heap.lt_size hob) (by rw [z]; exact Nat.lt_irrefl _)
  have nb : ∀ b o', s.heap.get? b = some o' → b ≠ s.heap.objs.size := fun b o' q => Nat.ne_of_lt (Heap.lt_size q)
  have na : ∀ b, H b = none → b ≠ a := fun b q z => by rw [z, ea] at q; cases q
  have up : ∀ b v, H b = some v → b ≠ a → upd (upd H s.heap.objs.size (.xd [(f, y)])) a (hoNew a C (some s.heap.objs.size)) b = some v := fun b v q z => by rw [upd_ne z, upd_ne (ne_of_none q nd)]; exact q
  refine h s.heap.objs.size _ nd da (I.un (t' := t') (H' := upd (upd H s.heap.objs.size (.xd [(f, y)])) a (hoNew a C (some s.heap.objs.size))) ⟨fun b o' q k _ _ => hk b o' (na b k) q, fun b o' q k _ _ => ⟨o'.slots, hk b o' (na b k) q⟩, fun b o' q k _ => ?_, fun b o' q _ => ?_, fun b xs q => up b _ q fun z => ?_, fun b o' u' q => up b _ q fun z => ?_, fun b ps q => ⟨#[], ?_⟩⟩ fun b v q => ?_)
  · rw [upd_ne (na b k), upd_ne (nb b o' q)]; exact k
  · by_cases z : b = a
    · rw [z]; exact ⟨_, hx'⟩
    · exact ⟨o', hk b o' z q⟩
  · rw [z, ea] at q; cases q
  · rw [z, ea] at q; cases q
  · rw [Array.append_empty]
    exact up b _ q fun z => by rw [z, ea] at q; cases q
  · by_cases z : b = a
    · subst z
      rw [upd_same] at q
      cases q
      exact new_ok ⟨_, a0, hx', hcl, rfl, hdt⟩
    · rw [upd_ne z] at q
      by_cases z2 : b = s.heap.objs.size
      · subst z2
        rw [upd_same] at q
        cases q
        refine ⟨_, hn', fun g => ?_⟩
        by_cases zg : g = f
        · subst zg
          rw [if_pos rfl, List.lookup_cons, beq_self_eq_true]
          exact ry
        · rw [if_neg zg, List.lookup_cons, show (g == f) = false from beq_eq_false_iff_ne.mpr zg]
          exact trivial
      · rw [upd_ne z2] at q
        refine (I.hok b v q).stay (fun c u' hc r => hk c u' (fun zc => ?_) r) (fun c r => up c _ r fun zc => ?_) fun c xs r => up c _ r fun zc => ?_
        · rcases hc with y' | y'
          · exact z (y'.symm.trans zc)
          · rw [zc, ea] at y'; cases y'
        · rw [zc, ea] at r; cases r
        · rw [zc, ea] at r; cases r
def sFldX (K : PySem.W.Frag) (ta tv : TE) (f : Str) : TS := fun D σ H => tv σ H fun y H1 => ta σ H1 fun x H2 => ∃ a C cd, x = .ref a ∧ H2 a = some (hoNew a C none) ∧ ExcS K C cd ∧ PySem.W.mroIn K C (.type "object") = some true ∧ NoAttr K C f ∧
  ∀ dx, H2 dx = none → dx ≠ a → D.nx σ (upd (upd H2 dx (.xd [(f, y)])) a (hoNew a C (some dx)))
theorem ps_fldX (ha : PE X o ta) (hv : PE X value tv) (hs : swapsWith value (some (.Attribute o f pos')) pos.line X.env = pure false := by rfl) : PS X (.Assign [.Attribute o f pos'] value pos) (sFldX X.K ta tv f) := by
  intro pins s σ H D I h
  refine plainObj_wpAny_Assign_Attribute (thn (hv pins s σ H _ I h) fun u s1 ⟨y, H1, I1, ry, q⟩ => thn (ha pins s1 σ H1 _ I1 q) fun ov s2 ⟨x, H2, I2, rx, a, C, cd, ex, ea, F, hO, n, q2⟩ => ?_) hs
  subst ex
  obtain rfl : ov = Value.ref a := rx
  exact setx_ok I2 ea F hO n ry fun dx s3 e1 e2 I3 => ⟨σ, _, I3, q2 dx e1 e2⟩
def tFldX (K : PySem.W.Frag) (ta : TE) (f : Str) : TE := fun σ H Q => ta σ H fun x H1 => ∃ a C dx fs v, x = .ref a ∧ H1 a = some (hoExcD a (.ref C) (some dx)) ∧ H1 dx = some (.xd fs) ∧ ExcK K C ∧ PySem.W.hasDictIn K C = true ∧ NoAttr K C f ∧ fs.lookup f = some v ∧ Q v H1
theorem pe_fldX {e : Expr} (he : PE X e ta) (hb : attributeBase e f X.env (eval e X.env) = eval e X.env := by rfl) : PE X (.Attribute e f pos) (tFldX X.K ta f) := by
  intro pins s σ H Q I h
  refine attr_of hb (thn (he pins s σ H _ I h) fun u s1 ⟨x, H1, I1, rx, a, C, dx, fs, v, ex, ea, ed, F, hh, n, l, q⟩ => ?_)
  subst ex
  obtain rfl : u = Value.ref a := rx
  obtain ⟨⟨ob, hob, hcl, hdx, vs, hdt⟩, _, _⟩ := (show ObjOk X.prog X.w H1 s1.heap a (.ext (excAtD a (.ref C) (some dx))) from I1.hok a _ ea)
  obtain ⟨mA, hn, r⟩ := (show ObjOk X.prog X.w H1 s1.heap dx (.xd fs) from I1.hok dx _ ed)
  obtain ⟨u, hu, ru⟩ := RelO.some_of (v := v) (o := mA f) (by rw [← l]; exact r f)
  obtain ⟨hh', g, d, t, os⟩ := s1
  obtain ⟨od, J, hl⟩ : ∃ od, PySem.W.InstAt hh' a ob C (some od) ∧ PySem.W.lookIn f od = some (mA f) := by
    obtain ⟨od, ho, hl⟩ := lookIn_ns hn
    refine ⟨od, ⟨hob, hcl, ?_, ?_⟩, hl f⟩
    · unfold PySem.W.notCls
      rw [hdt]
    · rw [hdx]
      exact ho
  exact exd_attr I1.kIn F J (PySem.W.findObj_own hh n rfl (by rw [hl, hu])) (handed_of ru) ⟨v, H1, I1.tok _, ru, q⟩
end
end Bw
set_option Elab.async false
set_option linter.all false
set_option maxRecDepth 100000
set_option maxHeartbeats 1000000
namespace Bw
open PySem PySem.Spec PyProof.Rows L2
section
variable {prog : Program} {w : World} {A : Around} {E : Value → Shared → Prop} {h : Heap} {g : Array GenState} {d : Drawn} {t : Nat} {os : OsState} {K : PySem.W.Frag}
variable {nm q : Str} {C N : Addr} {bs bm bmB : List Value} {hdct : Bool} {sn : List Str} {sub : List Value} {ab : Bool} {col : Option Bool} {dd : Option Addr} {k0 k1 k2 k3 k5 : Option Value} {B newId initId : String}
theorem type_call_initK (F : ExcBaseFacts B newId initId bmB) (T : OwnTail h bmB bm) {rest : List Value} {fI : Addr} {Q : Fin → Shared → Prop}
    (hC : h.get? C = some (excClassObj nm q C N bs bm hdct sn sub ab col dd k0 k1 k2 k3 k5 newId)) (Z : K.In h) (hi : PySem.W.findIn K (.ref C) "__init__" = some (some (.ref fI))) (hf : PySem.W.typeIn K (.ref fI) = some (.type "function"))
    (hq : ∀ h' e, Heap.MadeExcOf h h' e (.ref C) rest →
      wpAny (model prog w) A (call (.ref fI) (.ref e :: rest)) (fun r s' => r = .none ∧ Q (.done (.ret (.ref e))) s') E ⟨h', g, d, t, os⟩) (hrest : rest.length ≤ sizeLine := by size_fits) :
    wpAny (model prog w) A (Builtin.«type.__call__» ⟨.ref C :: rest, []⟩) Q E ⟨h, g, d, t, os⟩ := by
  repeat (first | with_reducible refine wpAny_loadPart_at hC ?_ | with_reducible refine wpAny_madeBy_exc hC ?_ | wp_step)
  refine codeAny_call_builtin_code (Code.quiet_builtin _ F.quiet) (wpAny_check_new_subT F T hC ?_)
  refine codeAny_exc_new_subT F T hC ?_ hrest
  show wpAny _ _ _ _ _ _
  have hC₁ := Heap.get?_push_of_some { cls := .ref C, data := .fields #[.ref h.objs.size, .none, .none, .none, .bool false, .none] }
    (Heap.get?_push_of_some { cls := .type "tuple", data := .seq rest.toArray } hC)
  have Z₁ : K.In ((h.push { cls := .type "tuple", data := .seq rest.toArray }).push { cls := .ref C, data := .fields #[.ref h.objs.size, .none, .none, .none, .bool false, .none] }) := fun a o l => Heap.get?_push_of_some _ (Heap.get?_push_of_some _ (Z a o l))
  have hget : ((h.push { cls := .type "tuple", data := .seq rest.toArray }).push
      { cls := .ref C, data := .fields #[.ref h.objs.size, .none, .none, .none, .bool false, .none] }).get? (h.objs.size + 1) = some
      { cls := .ref C, data := .fields #[.ref h.objs.size, .none, .none, .none, .bool false, .none] } := by heap_get
  have hcC : (Value.ref C :: bm).contains (.ref C) = true := by simp
  have T₁ := T.keeps (h' := (h.push { cls := .type "tuple", data := .seq rest.toArray }).push { cls := .ref C, data := .fields #[.ref h.objs.size, .none, .none, .none, .bool false, .none] })
    fun b o e => Heap.get?_push_of_some _ (Heap.get?_push_of_some _ e)
  unfold isInstance
  repeat (first | with_reducible refine wpAny_loadPart_at hget ?_ | (with_reducible refine wpAny_isSubtype_exc hC₁ ?_; rw [hcC]) | wp_step)
  show wpAny _ _ (typeLookup (.ref C) _) _ _ _
  refine (PySem.W.looks_findIn (M := model prog w) Z₁ hi).at ?_
  refine wpAny_holding (wpAny_bind ?_)
  unfold bindSpecial
  refine wpAny_bind ((PySem.W.looks_typeIn (M := model prog w) Z₁ hf).at ?_)
  rw [if_pos (by decide)]
  refine wpAny_pure (wpAny_bind (wpAny_mono (hq _ (h.objs.size + 1) ⟨fun b o hb => Heap.get?_push_of_some _ (Heap.get?_push_of_some _ hb), Heap.get?_none_of_le (Nat.le_succ _), h.objs.size, hget, Heap.get?_none_of_le (Nat.le_refl _), ?_⟩) (fun r s' hr => ?_) fun _ _ x => x))
  · exact Heap.get?_push_of_some _ (Heap.get?_push_at rfl rfl)
  · obtain ⟨rfl, hQ⟩ := hr
    wp_walk
    exact hQ
theorem call_initK (F : ExcBaseFacts B newId initId bmB) (T : OwnTail h bmB bm) {rest : List Value} {fI : Addr} {Q : Value → Shared → Prop}
    (hC : h.get? C = some (excClassObj nm q C N bs bm hdct sn sub ab col dd k0 k1 k2 k3 k5 newId)) (Z : K.In h) (hi : PySem.W.findIn K (.ref C) "__init__" = some (some (.ref fI))) (hf : PySem.W.typeIn K (.ref fI) = some (.type "function"))
    (hq : ∀ h' e, Heap.MadeExcOf h h' e (.ref C) rest →
      wpAny (model prog w) (A.under (.builtin "type.__call__" ⟨.ref C :: rest, []⟩)) (call (.ref fI) (.ref e :: rest)) (fun r s' => r = .none ∧ Q (.ref e) s') E ⟨h', g, d, t, os⟩) (hrest : rest.length ≤ sizeLine := by size_fits) :
    wpAny (model prog w) A (call (.ref C) rest) Q E ⟨h, g, d, t, os⟩ := by
  have f1 := tc_lookup
  have f2 := tc_bind (.ref C)
  have hT : (⟨h, g, d, t, os⟩ : Shared).TypeIs (.ref C) "type" := ⟨_, hC, rfl⟩
  refine wpAny_call (codeAny_of_tree ?_)
  show wpAny _ _ (callAny (.ref C) _) _ _ _
  repeat (any_goals (first | assumption | with_reducible refine wpAny_loadPart_at hC ?_ | wp_step))
  refine ⟨rfl, ?_⟩
  refine codeAny_call_builtin_at (Code.quiet_builtin _ (by decide +kernel)) entry_typeCall (wpAny_check_type_call_sub hC (type_call_initK (hrest := hrest) F T hC Z hi hf fun h' e hm => ?_))
  exact hq h' e hm
end
section
variable {prog : Program} {w : World} {A : Around} {E : Value → Shared → Prop} {s : Shared} {env : Env}
variable {nm q : Str} {C N : Addr} {bs bm bmB : List Value} {hdct : Bool} {sn : List Str} {sub : List Value} {ab : Bool} {col : Option Bool} {dd : Option Addr} {k0 k1 k2 k3 k5 : Option Value} {B newId initId : String}
theorem Raise_call_initK (F : ExcBaseFacts B newId initId bmB) {x : Str} {np cpos pos : Pos} {args : List Expr} {Q : Flow → Shared → Prop} {fI : Addr} {K : PySem.W.Frag}
    (hbase : bm.contains (.type "BaseException") = true) (hh : A.handled = none) (hplain : (backTo cpos (starEach args env)).any (·.1) = false) (hi : PySem.W.findIn K (.ref C) "__init__" = some (some (.ref fI))) (hf : PySem.W.typeIn K (.ref fI) = some (.type "function"))
    (h : wpAny (model prog w) A (eval (.Name x np) env) (fun f s₁ => f = .ref C ∧ wpAny (model prog w) A (evalArgs (.ref C) true (backTo cpos (starEach args env)) [])
      (fun a s₂ => a.kw = [] ∧ a.pos.length ≤ sizeLine ∧ s₂.heap.get? C = some (excClassObj nm q C N bs bm hdct sn sub ab col dd k0 k1 k2 k3 k5 newId) ∧ K.In s₂.heap ∧ OwnTail s₂.heap bmB bm ∧
        ∀ h' e, Heap.MadeExcOf s₂.heap h' e (.ref C) a.pos → wpAny (model prog w) (A.under (.builtin "type.__call__" ⟨.ref C :: a.pos, []⟩)) (call (.ref fI) (.ref e :: a.pos))
          (fun r s₃ => r = .none ∧ s₃.heap.get? C = some (excClassObj nm q C N bs bm hdct sn sub ab col dd k0 k1 k2 k3 k5 newId) ∧ (∃ oe vs, s₃.heap.get? e = some oe ∧ oe.cls = .ref C ∧ oe.data = .fields vs ∧ vs[1]? = some .none) ∧ E (.ref e) s₃) E { s₂ with heap := h' }) E s₁) E s) :
    wpAny (model prog w) A (exec (.Raise (some (.Call (.Name x np) args [] cpos)) none pos) env) Q E s := by
  rw [arm_exec_Raise]
  first
    | refine wpAny_bind (wpAny_standAt (raiseStmt_any (C := C) (nm := nm) (q := q) (N := N) (bs := bs) (bm := bm) (hdct := hdct) (sn := sn) (sub := sub) (ab := ab) (col := col) (dd := dd) (k0 := k0) (k1 := k1) (k2 := k2) (k3 := k3) (k5 := k5) (newId := newId) hbase hh (wpAny_bind (wpAny_mono (wpAny_Call_ofName (wpAny_mono h (fun f s₁ h₁ => ?_) fun _ _ x => x)) (fun v s₃ h₃ => wpAny_bind (wpAny_standAt (wpAny_pure h₃))) fun _ _ x => x))))
    | (simp only [evalOpt, Option.map]; refine wpAny_bind (wpAny_standAt (raiseStmt_any (C := C) (nm := nm) (q := q) (N := N) (bs := bs) (bm := bm) (hdct := hdct) (sn := sn) (sub := sub) (ab := ab) (col := col) (dd := dd) (k0 := k0) (k1 := k1) (k2 := k2) (k3 := k3) (k5 := k5) (newId := newId) hbase hh (wpAny_bind (wpAny_mono (wpAny_Call_ofName (wpAny_mono h (fun f s₁ h₁ => ?_) fun _ _ x => x)) (fun v s₃ h₃ => wpAny_bind (wpAny_standAt (wpAny_pure h₃))) fun _ _ x => x)))))
    | (refine wpAny_bind (wpAny_standAt (raiseStmt_any (C := C) (nm := nm) (q := q) (N := N) (bs := bs) (bm := bm) (hdct := hdct) (sn := sn) (sub := sub) (ab := ab) (col := col) (dd := dd) (k0 := k0) (k1 := k1) (k2 := k2) (k3 := k3) (k5 := k5) (newId := newId) hbase hh ?_)); refine wpAny_bind (wpAny_mono (wpAny_Call_ofName (wpAny_mono h (fun f s₁ h₁ => ?_) fun _ _ x => x)) (fun v s₃ h₃ => wpAny_bind (wpAny_standAt (wpAny_pure h₃))) fun _ _ x => x))
  obtain ⟨rfl, h₁⟩ := h₁
  unfold callWith
  refine wpAny_bind (wpAny_holding (wpAny_mono h₁ (fun a s₂ h₂ => wpAny_bind (wpAny_standAt ?_)) fun _ _ x => x))
  obtain ⟨apos, akw⟩ := a
  obtain ⟨hkw, hlen, hC, Z, T, h₂⟩ := h₂
  obtain rfl : akw = [] := hkw
  obtain ⟨hp, g, d, tk, os⟩ := s₂
  simp only [hplain]
  refine wpAny_bind (wpAny_keeperOf_exc hC ?_)
  refine wpAny_bind (call_initK (hrest := hlen) F T hC Z hi hf fun h' e hm => wpAny_mono (h₂ h' e hm) (fun r s₃ h₃ => ?_) fun _ _ x => x)
  obtain ⟨hr, hC3, ⟨oe, vs, he, hcl, hda, hv1⟩, hE⟩ := h₃
  exact ⟨hr, wpAny_bind (wpAny_holding (wpAny_point (wpAny_pure ⟨e, oe, vs, rfl, hC3, he, hcl, hda, hv1, hE⟩)))⟩
end
def spInit (C : Addr) (f : Str) : Sp := fun vs H Q _ => ∃ e y, vs = [.ref e, y] ∧ H e = some (hoNew e C none) ∧ ∀ dx, H dx = none → dx ≠ e → Q .non (upd (upd H dx (.xd [(f, y)])) e (hoNew e C (some dx)))
structure ExcI (K : PySem.W.Frag) (C B fI : Addr) : Prop where
  ex : ∃ nm q N bs hd sn sub ab col dd k0 k1 k2 k3 k5, K.lookup C = some (excClassObj nm q C N bs (.ref B :: vbm) hd sn sub ab col dd k0 k1 k2 k3 k5 "ValueError.__new__")
  base : PySem.W.excIn K B vbm "ValueError.__new__" = true
  init : PySem.W.findIn K (.ref C) "__init__" = some (some (.ref fI))
  fn : PySem.W.isFn K (.ref fI) = true
def tRaiseI (f : Str) (v : V) (R : Addr → Hp → Prop) : TS := fun _ _ H => ∀ dx, H dx = none → R dx (upd H dx (.xd [(f, v)]))
theorem ps_raiseI {X : Cx} {x : Str} {C B fI : Addr} {k : Nat} {fd : FuncData} {f p : Str} {v : V} {u : Value} {np cpos pos : Pos} {R : Addr → Hp → Prop} (hc : X.calm = true) (hg : Gl X x) (hm : X.mg x = some (.ref C)) (q : ExcI X.K C B fI)
    (F : FnOk X.prog X.w X.K X.mg X.base (CXF X.prog X.w) k fI fd ["self", p] (spInit C f)) (hr : Room (k + 1) X.A) (hb : Binds X.K fd ["self", p] [u]) (hv : RelV v u)
    (hxe : ∀ pins σ H H' s s' e oe vs a0, Inv X pins σ H s → s'.os = s.os → AllBare s'.gens → Un (frs X.stack) [] H H' s.heap s'.heap → HOk X.prog X.w H' s'.heap → s.heap.get? e = none → H' e = none →
      s'.heap.get? e = some oe → oe.data = .fields vs → vs[1]? = some .none → vs[0]? = some a0 → oe.cls = .ref C → (∃ dx, oe.dict = some dx ∧ R dx H') → X.xe (.ref e) s')
    (hd : (x == ("__debug__" : Str)) = false := by decide) : PS X (.Raise (some (.Call (.Name x np) [] [] cpos)) none pos) (tRaiseI f v R) := by
  intro pins s σ H D I h
  obtain ⟨nm, qn, N, bs, hd', sn, sub, ab, col, dd, k0, k1, k2, k3, k5, lk⟩ := q.ex
  obtain ⟨bm', N', nm', qn', bs', hd'', sn', sub', ab', col', dd', j0, j1, j2, j3, j5, mN', hB, hN', hni', T'⟩ := own_obj I.kIn q.base
  have T : OwnTail s.heap vbm (.ref B :: vbm) := .own (cd := _) hB hN' hni' .base
  refine Raise_call_initK (C := C) (nm := nm) (q := qn) (N := N) (bs := bs) (bm := .ref B :: vbm) (bmB := vbm) (hdct := hd') (sn := sn) (sub := sub) (ab := ab) (col := col) (dd := dd) (k0 := k0) (k1 := k1) (k2 := k2) (k3 := k3) (k5 := k5) (K := X.K) (fI := fI) PySem.F.excBase_ValueError (by rfl) (I.ok.hd hc) rfl q.init (beq_iff_eq.mp q.fn) (ld_glob I hg hm ⟨rfl, ?_⟩ hd)
  refine PySem.evalArgs_none ?_
  refine ⟨rfl, sz8 (show 0 ≤ 1000 by decide), I.kIn _ _ lk, I.kIn, T, fun h' e hx => ?_⟩
  obtain ⟨tt, he, _, _⟩ := hx.there
  have nH : H e = none := by
    cases z : H e with
    | none => rfl
    | some w' =>
      obtain ⟨o, ho⟩ := obj_at (I.hok e w' z)
      rw [hx.new] at ho
      cases ho
  have nb : ∀ b o, s.heap.get? b = some o → b ≠ e := fun b o z y => by rw [y, hx.new] at z; cases z
  have up : ∀ b w', H b = some w' → upd H e (hoNew e C none) b = some w' := fun b w' z => by rw [upd_ne (ne_of_none z nH)]; exact z
  have I1 : Inv X pins σ (upd H e (hoNew e C none)) { s with heap := h' } := I.un (t' := s.toks) ⟨fun b o z _ _ _ => hx.keeps _ _ z, fun b o z _ _ _ => ⟨o.slots, hx.keeps _ _ z⟩, fun b o z n _ => by rw [upd_ne (nb b o z)]; exact n, fun b o z _ => ⟨o, hx.keeps _ _ z⟩, fun b xs z => up _ _ z, fun b o w' z => up _ _ z, fun b ps z => ⟨#[], by rw [Array.append_empty]; exact up _ _ z⟩⟩ fun b w' z => by
    by_cases y : b = e
    · subst y
      rw [upd_same] at z
      cases z
      exact new_ok ⟨_, .ref tt, he, rfl, rfl, rfl⟩
    · rw [upd_ne y] at z
      exact (I.hok b w' z).stay (fun c v' _ r => hx.keeps _ _ r) (fun c r => up _ _ r) fun c xs r => up _ _ r
  refine wpAny_call (codeAny_mono (F.run _ X.stack _ _ ⟨[Value.ref e], []⟩ [Value.ref e, u] [V.ref e, v] (fun v' H2 => v' = .non ∧ ∃ dx, H dx = none ∧ dx ≠ e ∧ H2 = upd (upd (upd H e (hoNew e C none)) dx (.xd [(f, v)])) e (hoNew e C (some dx))) E0 (hr.make C [] []) (I1.env0.make C [] [])
    (hb _ [Value.ref e] I1.kIn rfl) (.cons rfl (.cons hv .nil)) ⟨e, v, rfl, upd_same, fun dx e1 e2 => ⟨rfl, dx, by rw [upd_ne e2] at e1; exact e1, e2, rfl⟩⟩) fun r s3 hq => ?_)
  cases r with
  | error ev =>
    obtain ⟨_, _, _, _, _, _, _, _, _, _, _, _, _, _, _, _, hE⟩ := hq
    exact hE.elim
  | ok fl =>
    cases fl with
    | next => exact False.elim hq
    | brk => exact False.elim hq
    | cont => exact False.elim hq
    | ret u3 =>
      obtain ⟨v3, H2, os, bare, un, hok, r3, rfl, dx, hdx, hde, rfl⟩ := hq
      have I3 : Inv X pins σ _ s3 := I1.call' (ch := []) os un hok bare (fun b z => absurd z (by simp))
      obtain ⟨⟨ob, a0, hob, hcl, hdi, hdt⟩, _, _⟩ := (show ObjOk X.prog X.w _ s3.heap e (.ext (excNew e C (some dx))) from hok e _ upd_same)
      have eq2 : ∀ b, b ≠ e → upd (upd (upd H e (hoNew e C none)) dx (.xd [(f, v)])) e (hoNew e C (some dx)) b = upd H dx (.xd [(f, v)]) b := fun b z => by
        rw [upd_ne z]
        by_cases y : b = dx
        · rw [y, upd_same, upd_same]
        · rw [upd_ne y, upd_ne y, upd_ne z]
      have nH2 : upd H dx (.xd [(f, v)]) e = none := by rw [upd_ne (Ne.symm hde)]; exact nH
      have ne1 : ∀ b w', H b = some w' → b ≠ e := fun b w' z => ne_of_none z nH
      have un' : Un (frs X.stack) [] H (upd H dx (.xd [(f, v)])) s.heap s3.heap :=
        ⟨fun b o z n hb' _ => un.keep b o (hx.keeps _ _ z) (by rw [upd_ne (nb b o z)]; exact n) hb' (by simp), fun b o z n hb' _ => un.slot b o (hx.keeps _ _ z) (by rw [upd_ne (nb b o z)]; exact n) hb' (by simp),
          fun b o z n _ => (eq2 b (nb b o z)).symm.trans (un.free b o (hx.keeps _ _ z) (by rw [upd_ne (nb b o z)]; exact n) (by simp)), fun b o z _ => un.there b o (hx.keeps _ _ z) (by simp),
          fun b xs z => (eq2 b (ne1 b _ z)).symm.trans (un.tups b xs (up _ _ z)), fun b o w' z => (eq2 b (ne1 b _ z)).symm.trans (un.frzs b o w' (up _ _ z)), fun b ps z => by
          obtain ⟨m1, e1⟩ := un.tbls b ps (up _ _ z)
          exact ⟨m1, (eq2 b (ne1 b _ z)).symm.trans e1⟩⟩
      have hok' : HOk X.prog X.w (upd H dx (.xd [(f, v)])) s3.heap := fun b w' z => by
        have be : b ≠ e := fun y => by rw [y, nH2] at z; cases z
        refine (hok b w' ((eq2 b be).trans z)).stay (fun _ _ _ r => r) (fun c r => ?_) fun c xs r => ?_
        · have ce : c ≠ e := fun y => by rw [y, upd_same] at r; cases r
          exact (eq2 c ce).symm.trans r
        · have ce : c ≠ e := fun y => by rw [y, upd_same] at r; cases r
          exact (eq2 c ce).symm.trans r
      refine ⟨(show u3 = Value.none from r3), I3.kIn _ _ lk, ⟨ob, _, hob, hcl, hdt, rfl⟩, ?_⟩
      exact hxe pins σ H _ s s3 e ob _ a0 I os bare un' hok' hx.new nH2 hob hdt rfl rfl hcl ⟨dx, hdi, h dx hdx⟩
end Bw
set_option Elab.async false
set_option linter.all false
set_option maxRecDepth 100000
set_option maxHeartbeats 1000000
namespace Bw
open PySem PySem.Spec PyProof.Rows L2
structure CalI (P : Program) (w : World) (K : PySem.W.Frag) (mg : Str → Option Value) (base : Heap) (x : Str) (C : Addr) (f : Str) (k : Nat) (v : V) : Prop where
  ex : ∃ (B fI : Addr) (fd : FuncData) (p : Str) (u : Value), FnOk P w K mg base (CXF P w) k fI fd ["self", p] (spInit C f) ∧ Binds K fd ["self", p] [u] ∧ RelV v u ∧ ExcI K C B fI ∧ mg x = some (.ref C)
section
variable {X : Cx}
theorem ps_raiseC {x : Str} {C : Addr} {k : Nat} {f : Str} {v : V} {np cpos pos : Pos} {R : Addr → Hp → Prop} (c : CalI X.prog X.w X.K X.mg X.base x C f k v) (hc : X.calm = true) (hg : Gl X x) (hr : Room (k + 1) X.A)
    (hxe : ∀ pins σ H H' s s' e oe vs a0, Inv X pins σ H s → s'.os = s.os → AllBare s'.gens → Un (frs X.stack) [] H H' s.heap s'.heap → HOk X.prog X.w H' s'.heap → s.heap.get? e = none → H' e = none →
      s'.heap.get? e = some oe → oe.data = .fields vs → vs[1]? = some .none → vs[0]? = some a0 → oe.cls = .ref C → (∃ dx, oe.dict = some dx ∧ R dx H') → X.xe (.ref e) s')
    (hd : (x == ("__debug__" : Str)) = false := by decide) : PS X (.Raise (some (.Call (.Name x np) [] [] cpos)) none pos) (tRaiseI f v R) := by
  obtain ⟨B, fI, fd, p, u, F, b, r, q, m⟩ := c.ex
  exact ps_raiseI hc hg m q F hr b r hxe hd
theorem fldX_at {K : PySem.W.Frag} {e : Expr} {ta : TE} {f : Str} {pos : Pos} (hK : X.K = K) (he : PE X e ta) (hb : attributeBase e f X.env (eval e X.env) = eval e X.env) : PE X (.Attribute e f pos) (tFldX K ta f) := by
  subst hK
  exact pe_fldX he hb
end
section
variable {P : Program} {w : World} {K : PySem.W.Frag} {mg : Str → Option Value} {base : Heap} {N : List Str} {qual : Str} {sc : Scope} {f : Addr} {cdv : Value} {A : Around} {outer : List Env} {s : Shared} {H : Hp} {E : XK} {C : Addr}
theorem raiseXI : ∀ pins σ H1 H' s1 s' e oe vs a0, Inv (cxX P w K mg base N qual sc f cdv A outer s H E) pins σ H1 s1 → s'.os = s1.os → AllBare s'.gens → Un (frs (cxX P w K mg base N qual sc f cdv A outer s H E).stack) [] H1 H' s1.heap s'.heap → HOk P w H' s'.heap → s1.heap.get? e = none → H' e = none →
      s'.heap.get? e = some oe → oe.data = .fields vs → vs[1]? = some .none → vs[0]? = some a0 → oe.cls = .ref C → (∃ dx, oe.dict = some dx ∧ E (.ref C) (some dx) H') → (cxX P w K mg base N qual sc f cdv A outer s H E).xe (.ref e) s' :=
  fun pins σ H1 H' s1 s' e oe vs a0 I os bare un hok fe nH he hd h1 h0 hcl ⟨dx, hdi, hE⟩ => raised_outD I rfl rfl rfl os bare un hok fe nH he hd h1 h0 (by rw [hcl, hdi]; exact hE)
end
section
variable {K : PySem.W.Frag} {σ : L2.St} {H : Hp} {Q : VK} {D : Ends} {ta tv : TE} {f : Str} {v : V} {R : Addr → Hp → Prop}
theorem w_raiseI : tRaiseI f v R D σ H = ∀ dx, H dx = none → R dx (L2.upd H dx (.xd [(f, v)])) := rfl
theorem w_sFldX : sFldX K ta tv f D σ H = tv σ H fun y H1 => ta σ H1 fun x H2 => ∃ a C cd, x = .ref a ∧ H2 a = some (hoNew a C none) ∧ ExcS K C cd ∧ PySem.W.mroIn K C (.type "object") = some true ∧ NoAttr K C f ∧
  ∀ dx, H2 dx = none → dx ≠ a → D.nx σ (L2.upd (L2.upd H2 dx (.xd [(f, y)])) a (hoNew a C (some dx))) := rfl
theorem w_fldX : tFldX K ta f σ H Q = ta σ H fun x H1 => ∃ a C dx fs v, x = .ref a ∧ H1 a = some (hoExcD a (.ref C) (some dx)) ∧ H1 dx = some (.xd fs) ∧ ExcK K C ∧ PySem.W.hasDictIn K C = true ∧ NoAttr K C f ∧ fs.lookup f = some v ∧ Q v H1 := rfl
end
end Bw
set_option Elab.async false
set_option linter.all false
set_option maxRecDepth 100000
set_option maxHeartbeats 8000000
namespace Bw
open PySem L2
local macro_rules | `(tactic| walk_at "w0") => `(tactic| try simp only [w_seq, w_next, w_ifS, w_ret, w_retN, w_drop, w_asg, w_gName, w_gSub, w_var, w_c, w_op, w_un, w_rU, w_rI0, w_rI, w_test, w_b, w_and, w_or, w_not, w_andV, w_orV, w_notV, w_if, w_cons, w_nil, w_tup, w_lst, w_call, w_cB, w_eq, w_ne, w_isN, w_notN, w_chain, w_sl, w_part, w_noPart, w_forL, w_for1, w_for2, w_K, w_for3, w_isnotB, w_raise, w_try, w_KX, w_cut, w_compL, w_comp1, w_comp2, w_yes, w_pick0, w_pickN, w_pickS, w_bm, w_bm0, w_tyS, w_addS, w_slS, w_blkK, w_strs, w_methD, w_makeN, w_make, w_fld, w_gTup, w_gCons, w_gNil, w_sFld, w_compS, w_tryB, w_bmake, w_noKeys, w_raiseI, w_sFldX, w_fldX, w_bIf, w_makeK, w_nev, w_never, Option.getD_some,  exists_const, false_or, or_false, exists_false, w_s1, w_s2, w_s3, w_s4, w_s5, L2.start, List.map_cons, List.map_nil, List.length_cons, List.length_nil, List.replicate, List.replicate_zero, List.replicate_succ, Nat.reduceAdd, Nat.reduceSub, Nat.reduceLeDiff, List.cons_append, List.nil_append, List.append_nil, List.set_cons_zero, List.set_cons_succ, List.getElem?_cons_zero, List.getElem?_cons_succ, Option.some.injEq, V.int.injEq, V.bl.injEq, V.ref.injEq, V.str.injEq, V.ty.injEq, List.cons.injEq, and_true, true_and, exists_eq_left, exists_eq_left', exists_and_left, exists_eq, exists_eq', and_self, decide_eq_true_eq, Bool.not_eq_true', decide_eq_false_iff_not, Bool.true_eq_false, Bool.false_eq_true, if_true, if_false, ite_true, ite_false, false_and, and_false, and_assoc, reduceCtorEq])
local macro_rules | `(tactic| exists $[$es:term],*) => `(tactic| try simp only [$[$es:term],*, w_seq, w_next, w_ifS, w_ret, w_retN, w_drop, w_asg, w_gName, w_gSub, w_var, w_c, w_op, w_un, w_rU, w_rI0, w_rI, w_test, w_b, w_and, w_or, w_not, w_andV, w_orV, w_notV, w_if, w_cons, w_nil, w_tup, w_lst, w_call, w_cB, w_eq, w_ne, w_isN, w_notN, w_chain, w_sl, w_part, w_noPart, w_forL, w_for1, w_for2, w_K, w_for3, w_isnotB, w_raise, w_try, w_KX, w_cut, w_compL, w_comp1, w_comp2, w_yes, w_pick0, w_pickN, w_pickS, w_bm, w_bm0, w_tyS, w_addS, w_slS, w_blkK, w_strs, w_methD, w_makeN, w_make, w_fld, w_gTup, w_gCons, w_gNil, w_sFld, w_compS, w_tryB, w_bmake, w_noKeys, w_raiseI, w_sFldX, w_fldX, w_bIf, w_makeK, w_nev, w_never, Option.getD_some,  exists_const, false_or, or_false, exists_false, w_s1, w_s2, w_s3, w_s4, w_s5, L2.start, List.map_cons, List.map_nil, List.length_cons, List.length_nil, List.replicate, List.replicate_zero, List.replicate_succ, Nat.reduceAdd, Nat.reduceSub, Nat.reduceLeDiff, List.cons_append, List.nil_append, List.append_nil, List.set_cons_zero, List.set_cons_succ, List.getElem?_cons_zero, List.getElem?_cons_succ, Option.some.injEq, V.int.injEq, V.bl.injEq, V.ref.injEq, V.str.injEq, V.ty.injEq, List.cons.injEq, and_true, true_and, exists_eq_left, exists_eq_left', exists_and_left, exists_eq, exists_eq', and_self, decide_eq_true_eq, Bool.not_eq_true', decide_eq_false_iff_not, Bool.true_eq_false, Bool.false_eq_true, if_true, if_false, ite_true, ite_false, false_and, and_false, and_assoc, reduceCtorEq])
def top (i : Nat) : Stmt := PySem.Challenge.pw_bellsaway_k31_roads_made.main.body.getD i (.Pass ⟨0, 0, 0, 0⟩)
abbrev s_NoRoad___init__ : Stmt := inClass (top 6) 0
theorem sc_NoRoad___init__ : FnScope ["self", "road"] ["self", "road"] (defScope s_NoRoad___init__) := ⟨rfl, rfl, rfl, by decide +kernel, rfl, by decide +kernel, by decide +kernel⟩
abbrev s_is_whole : Stmt := top 15
theorem sc_is_whole : FnScope ["thing"] ["thing"] (defScope s_is_whole) := ⟨rfl, rfl, rfl, by decide +kernel, rfl, by decide +kernel, by decide +kernel⟩
abbrev s_is_whole_from : Stmt := top 16
theorem sc_is_whole_from : FnScope ["thing", "least"] ["thing", "least"] (defScope s_is_whole_from) := ⟨rfl, rfl, rfl, by decide +kernel, rfl, by decide +kernel, by decide +kernel⟩
abbrev s_is_name : Stmt := top 20
theorem sc_is_name : FnScope ["thing"] ["thing"] (defScope s_is_name) := ⟨rfl, rfl, rfl, by decide +kernel, rfl, by decide +kernel, by decide +kernel⟩
abbrev s_Road___init__ : Stmt := inClass (top 22) 0
theorem sc_Road___init__ : FnScope ["self", "name", "slow", "knows"] ["self", "name", "slow", "knows"] (defScope s_Road___init__) := ⟨rfl, rfl, rfl, by decide +kernel, rfl, by decide +kernel, by decide +kernel⟩
abbrev s_law_cell_at : Stmt := top 24
theorem sc_law_cell_at : FnScope ["_law_script", "_law_k"] ["_law_script", "_law_k"] (defScope s_law_cell_at) := ⟨rfl, rfl, rfl, by decide +kernel, rfl, by decide +kernel, by decide +kernel⟩
abbrev s_law_mixed : Stmt := top 25
theorem sc_law_mixed : FnScope ["_law_cell", "_law_k", "_law_number"] ["_law_cell", "_law_k"] (defScope s_law_mixed) := ⟨rfl, rfl, rfl, by decide +kernel, rfl, by decide +kernel, by decide +kernel⟩
abbrev s_law_well : Stmt := top 26
theorem sc_law_well : FnScope ["_law_cell"] ["_law_cell"] (defScope s_law_well) := ⟨rfl, rfl, rfl, by decide +kernel, rfl, by decide +kernel, by decide +kernel⟩
abbrev s_law_draw : Stmt := top 27
theorem sc_law_draw : FnScope ["_law_well_here", "_law_most", "_law_found", "_law_turn"] ["_law_well_here", "_law_most"] (defScope s_law_draw) := ⟨rfl, rfl, rfl, by decide +kernel, rfl, by decide +kernel, by decide +kernel⟩
abbrev s_law_whole : Stmt := top 28
theorem sc_law_whole : FnScope ["_law_found"] ["_law_found"] (defScope s_law_whole) := ⟨rfl, rfl, rfl, by decide +kernel, rfl, by decide +kernel, by decide +kernel⟩
abbrev s_law_names : Stmt := top 29
theorem sc_law_names : FnScope ["_law_well_here", "_law_many", "_law_letters", "_law_stem", "_law_at", "_law_first", "_law_step", "_law_found", "_law_k", "_law_name"] ["_law_well_here", "_law_many"] (defScope s_law_names) := ⟨rfl, rfl, rfl, by decide +kernel, rfl, by decide +kernel, by decide +kernel⟩
abbrev s_law_right : Stmt := top 30
theorem sc_law_right : FnScope ["_law_road", "_law_name", "_law_slow", "_law_wise"] ["_law_road", "_law_name", "_law_slow", "_law_wise"] (defScope s_law_right) := ⟨rfl, rfl, rfl, by decide +kernel, rfl, by decide +kernel, by decide +kernel⟩
abbrev s_law_refused : Stmt := top 31
theorem sc_law_refused : FnScope ["_law_name", "_law_slow", "_law_wise", "_law_found", "e", "_law_others"] ["_law_name", "_law_slow", "_law_wise"] (defScope s_law_refused) := ⟨rfl, rfl, rfl, by decide +kernel, rfl, by decide +kernel, by decide +kernel⟩
abbrev s_law_all_right : Stmt := top 32
theorem sc_law_all_right : FnScope ["_law_well_here", "_law_name", "_law_slow", "_law_wise", "_law_bad"] ["_law_well_here"] (defScope s_law_all_right) := ⟨rfl, rfl, rfl, by decide +kernel, rfl, by decide +kernel, by decide +kernel⟩
abbrev s_law : Stmt := top 33
theorem sc_law : FnScope ["_law_script", "_law_cell"] ["_law_script"] (defScope s_law) := ⟨rfl, rfl, rfl, by decide +kernel, rfl, by decide +kernel, by decide +kernel⟩
structure Ad where
  BellError : Addr
  Backward : Addr
  Fallen : Addr
  NoBook : Addr
  NoClock : Addr
  NoFit : Addr
  NoHappening : Addr
  NoNumber : Addr
  NoRow : Addr
  NoText : Addr
  NoTime : Addr
  NoWish : Addr
  NoRoad : Addr
  Road : Addr
  t0 : Tok
  t1 : Tok
structure Bt (K : PySem.W.Frag) (mg : Str → Option Value) (a : Ad) : Prop where
  len : mg "len" = none
  int : mg "int" = none
  bool : mg "bool" = none
  str : mg "str" = none
  all : mg "all" = none
  isinstance : mg "isinstance" = none
  range : mg "range" = none
  ValueError : mg "ValueError" = none
  LETTERS : mg "LETTERS" = some (.str "abcdefghijklmnopqrstuvwxyz" a.t0)
  MOST_LETTERS : mg "MOST_LETTERS" = some (.int 8 a.t1)
  BellError : mg "BellError" = some (.ref a.BellError)
  Backward : mg "Backward" = some (.ref a.Backward)
  Fallen : mg "Fallen" = some (.ref a.Fallen)
  NoBook : mg "NoBook" = some (.ref a.NoBook)
  NoClock : mg "NoClock" = some (.ref a.NoClock)
  NoFit : mg "NoFit" = some (.ref a.NoFit)
  NoHappening : mg "NoHappening" = some (.ref a.NoHappening)
  NoNumber : mg "NoNumber" = some (.ref a.NoNumber)
  NoRow : mg "NoRow" = some (.ref a.NoRow)
  NoText : mg "NoText" = some (.ref a.NoText)
  NoTime : mg "NoTime" = some (.ref a.NoTime)
  NoWish : mg "NoWish" = some (.ref a.NoWish)
  NoRoad : mg "NoRoad" = some (.ref a.NoRoad)
  Road : mg "Road" = some (.ref a.Road)
  excK_NoRoad : ExcK K a.NoRoad
  exm : PySem.W.exmOne K (.ref a.NoRoad) (.ref a.BellError) = some true
  any1 : PySem.W.kitAny K (.ref a.NoRoad) ([.ref a.Backward, .ref a.Fallen, .ref a.NoBook, .ref a.NoClock, .ref a.NoFit, .ref a.NoHappening, .ref a.NoNumber, .ref a.NoRow] : List Value) = some false
  any2 : PySem.W.kitAny K (.ref a.NoRoad) ([.ref a.NoText, .ref a.NoTime, .ref a.NoWish] : List Value) = some false
  isV : PySem.W.kitOne K (.ref a.NoRoad) (.type "ValueError") = some true
  isR : PySem.W.kitOne K (.ref a.NoRoad) (.ref a.NoRoad) = some true
  isRoad : PySem.W.kitOne K (.ref a.Road) (.ref a.Road) = some true
  xhd : PySem.W.hasDictIn K a.NoRoad = true
  xmo : PySem.W.mroIn K a.NoRoad (.type "object") = some true
  xna : NoAttr K a.NoRoad "road"
  ck_Road : ClsK K a.Road
  na_Road_name : NoAttr K a.Road "name"
  na_Road_slow : NoAttr K a.Road "slow"
  na_Road_knows : NoAttr K a.Road "knows"
  xs : ∃ cd, ExcS K a.NoRoad cd
def okI (K : PySem.W.Frag) (H : Hp) (x : V) : Prop := ∃ t, TyOf K H x t ∧ PySem.W.kitOne K t (.type "int") = some (isIntV x) ∧ PySem.W.kitOne K t (.type "bool") = some (isBoolV x)
def okK (K : PySem.W.Frag) (c : Value) (H : Hp) (x : V) (b : Bool) : Prop := ∃ t, TyOf K H x t ∧ PySem.W.kitOne K t c = some b
theorem okI.same {K : PySem.W.Frag} {H H' : Hp} {x : V} (h : okI K H x) (s : Same H H') : okI K H' x := let ⟨t, y, r⟩ := h; ⟨t, TyOf.same y s, r⟩
theorem okK.same {K : PySem.W.Frag} {c : Value} {H H' : Hp} {x : V} {b : Bool} (h : okK K c H x b) (s : Same H H') : okK K c H' x b := let ⟨t, y, r⟩ := h; ⟨t, TyOf.same y s, r⟩
def rFs (n s k : V) : List (Str × V) := [("name", n), ("slow", s), ("knows", k)]
theorem okV_same {H H' : Hp} {x : V} (h : okV H x) (S : Same H H') : okV H' x := by
  cases x <;> first | exact h | skip
  rcases h with ⟨xs, e⟩ | ⟨xs, e⟩
  · exact .inl ⟨xs, S _ _ e⟩
  · exact .inr ⟨xs, S _ _ e⟩
def roadB (n s k : V) : Bool := nameB n && fromV s 0 && isBoolV k
def gV1 : List V → List V → List V
  | [s, n], [k] => [s, n, .int 0, k]
  | _, _ => []
theorem w_gV1 {s n k : V} : gV1 [s, n] [k] = [s, n, .int 0, k] := rfl
def gW1 (t : Tok) : List Value → List Value → List Value
  | [s, n], [k] => [s, n, .int 0 t, k]
  | _, _ => []
theorem kb1 {K : PySem.W.Frag} {fd : FuncData} {t : Tok} (h : ∀ (s : Shared) (x y z : Value), K.In s.heap → BindsTo s fd ⟨[x, y], [("knows", z)]⟩ ((["self", "name", "slow", "knows"] : List Str).zip [x, y, .int 0 t, z])) :
    KBinds K fd ["self", "name", "slow", "knows"] ["knows"] (gW1 t) gV1 where
  to := fun s us ws X hl => by
    rcases us with _ | ⟨x, _ | ⟨y, _ | ⟨c, us⟩⟩⟩ <;> rcases ws with _ | ⟨d, _ | ⟨e, ws⟩⟩ <;> first | exact h s _ _ _ X | cases hl
  rel := fun r rz => by
    cases r with
    | nil => exact .nil
    | cons r1 r =>
      cases r with
      | nil => cases rz <;> exact .nil
      | cons r2 r =>
        cases r with
        | cons _ _ => cases rz <;> exact .nil
        | nil =>
          cases rz with
          | nil => exact .nil
          | cons r3 rz =>
            cases rz with
            | nil => exact .cons r1 (.cons r2 (.cons ⟨t, rfl⟩ (.cons r3 .nil)))
            | cons _ _ => exact .nil
abbrev sp_NoRoad___init__ (K : PySem.W.Frag) (a : Ad) : Sp := spInit a.NoRoad "road"
def sp_is_whole (K : PySem.W.Frag) (a : Ad) : Sp := fun vs H Q E => ∃ x, vs = [x] ∧ okI K H x ∧ Q (.bl (wholeV x)) H
def sp_is_whole_from (K : PySem.W.Frag) (a : Ad) : Sp := fun vs H Q E => ∃ x lo, vs = [x, .int lo] ∧ okI K H x ∧ Q (.bl (fromV x lo)) H
def sp_is_name (K : PySem.W.Frag) (a : Ad) : Sp := fun vs H Q E => ∃ x, vs = [x] ∧ okN H x ∧ ∀ H', Same H H' → Q (.bl (nameB x)) H'
def sp_Road___init__ (K : PySem.W.Frag) (a : Ad) : Sp := fun vs H Q E => ∃ (p dx : Addr) (n s k : V), vs = [.ref p, n, s, k] ∧ H p = some (.ins a.Road dx []) ∧ okN H n ∧ okI K H s ∧ okV H k ∧ ((roadB n s k = true ∧ ∀ H', But p H H' → H' p = some (.ins a.Road dx (rFs n s k)) → Q .non H') ∨ (roadB n s k = false ∧ ∀ x H', Same H H' → H' x = some (.xd [("road", .non)]) → E (.ref a.NoRoad) (some x) H'))
def sp_law_cell_at (K : PySem.W.Frag) (a : Ad) : Sp := fun vs H Q E => ∃ (b : Addr) (ns : List Int) (k : Int), vs = [.ref b, .int k] ∧ SqL K H b (ns.map V.int) ∧ 0 ≤ k ∧ ∀ c, Q (.int c) H
def sp_law_mixed (K : PySem.W.Frag) (a : Ad) : Sp := fun vs H Q E => ∃ c k : Int, vs = [.int c, .int k] ∧ ∀ r, Q (.int r) H
def sp_law_well (K : PySem.W.Frag) (a : Ad) : Sp := fun vs H Q E => ∃ c : Int, vs = [.int c] ∧ ∀ p a b c d, H p = none → Q (.ref p) (upd H p (.lst [.int a, .int b, .int c, .int d]))
def sp_law_draw (K : PySem.W.Frag) (a : Ad) : Sp := fun vs H Q E => ∃ (w : Addr) (m : Int), vs = [.ref w, .int m] ∧ Well H w ∧ 0 < m ∧ m < 2 ^ 62 ∧ ∀ (r : Int) (H' : Hp), 0 ≤ r → r < m → Well H' w → But w H H' → Q (.int r) H'
def sp_law_whole (K : PySem.W.Frag) (a : Ad) : Sp := fun vs H Q E => ∃ x, vs = [x] ∧ okV H x ∧ Q (.bl (wholeV x)) H
def sp_law_names (K : PySem.W.Frag) (a : Ad) : Sp := fun vs H Q E => ∃ (w : Addr) (n : Int), vs = [.ref w, .int n] ∧ 0 ≤ n ∧ n ≤ 100 ∧ Well H w ∧ ∀ (p : Addr) (us : List Str) (H' : Hp), us.length = n.toNat → (∀ u ∈ us, goodN u) → Well H' w → But w H H' → H p = none → H' p = some (.lst (us.map V.str)) → Q (.ref p) H'
def sp_law_right (K : PySem.W.Frag) (a : Ad) : Sp := fun vs H Q E => ∃ (p dx : Addr) (n : Str) (s : Int) (k : Bool), vs = [.ref p, .str n, .int s, .bl k] ∧ H p = some (.ins a.Road dx (rFs (.str n) (.int s) (.bl k))) ∧ okN H (.str n) ∧ Q (.bl true) H
def sp_law_refused (K : PySem.W.Frag) (a : Ad) : Sp := fun vs H Q E => ∃ n s k : V, vs = [n, s, k] ∧ okN H n ∧ okI K H s ∧ okV H k ∧ roadB n s k = false ∧ ∀ H', Same H H' → Q (.bl true) H'
def sp_law_all_right (K : PySem.W.Frag) (a : Ad) : Sp := fun vs H Q E => ∃ w : Addr, vs = [.ref w] ∧ Well H w ∧ ∀ H', But w H H' → Q (.bl true) H'
def spL (K : PySem.W.Frag) : Sp := fun vs H Q _ => ∃ (a : Addr) (ns : List Int), vs = [.ref a] ∧ SqL K H a (ns.map V.int) ∧ ns.length ≤ 63 ∧ ∀ H', Q (.bl true) H'
abbrev sp_law (K : PySem.W.Frag) (_ : Ad) : Sp := spL K
section
variable {P : Program} {w : World} {K : PySem.W.Frag} {mg : Str → Option Value} {base : Heap} {f : Addr} {fd : FuncData} {a : Ad}
theorem ok_NoRoad___init__ (B : Bt K mg a)  (F : FunA K "__init__" "NoRoad.__init__" s_NoRoad___init__ f fd) : FnOk P w K mg base CX0 1 f fd ["self", "road"] (sp_NoRoad___init__ K a) := by
  refine FunA.ok F sc_NoRoad___init__ (fun vs H Q E h => ?_) (fun cdv A outer s H vs Q E hr h => ?_)
  · obtain ⟨e, y, rfl, _⟩ := h
    rfl
  obtain ⟨e, y, rfl, he, q⟩ := h
  refine ⟨_, (pss_of (qss_one (qs_of (ps_fldX (pv 0) (pv 1) rfl)))), ?_⟩
  walk_at "w0"
  obtain ⟨cdR, xs⟩ := B.xs
  first | exact ⟨_, he, _, xs, B.xmo, B.xna, q⟩ | exact ⟨_, _, _, rfl, he, xs, B.xmo, B.xna, q⟩ | trace_state
theorem ok_is_whole (B : Bt K mg a)  (F : Fun K "is_whole" "is_whole" s_is_whole f fd) : FnOk P w K mg base CX0 1 f fd ["thing"] (sp_is_whole K a) := by
  refine F.ok sc_is_whole (fun vs H Q E h => ?_) (fun cdv A outer s H vs Q E hr h => ?_)
  · obtain ⟨x, rfl, _⟩ := h
    rfl
  obtain ⟨x, rfl, ⟨t, ty, ki, kb⟩, q⟩ := h
  refine ⟨_, (pss_of (qss_one (qs_ret (qe_of (pe_and (pe_callB (isiG_at (K := K) (T := "int") rfl) rfl B.isinstance PyProof.Rows.boot_isinstance (pa_of (qa_c (pv 0) (qa_c (pe_bltn (v := .ty "int") rfl B.int PyProof.Rows.boot_int rfl) qa_nil))) (he := star_plain _ _ _ rfl) (hpl := plain_any rfl)) (pe_one (pe_not (pe_callB (isiG_at (K := K) (T := "bool") rfl) rfl B.isinstance PyProof.Rows.boot_isinstance (pa_of (qa_c (pv 0) (qa_c (pe_bltn (v := .ty "bool") rfl B.bool PyProof.Rows.boot_bool rfl) qa_nil))) (he := star_plain _ _ _ rfl) (hpl := plain_any rfl))))))))), ?_⟩
  walk_at "w0"
  refine ⟨x, t, _, rfl, ty, ki, ?_⟩
  walk_at "w0"
  cases x <;> try simp only [isIntV, wholeV, w_seq, w_next, w_ifS, w_ret, w_retN, w_drop, w_asg, w_gName, w_gSub, w_var, w_c, w_op, w_un, w_rU, w_rI0, w_rI, w_test, w_b, w_and, w_or, w_not, w_andV, w_orV, w_notV, w_if, w_cons, w_nil, w_tup, w_lst, w_call, w_cB, w_eq, w_ne, w_isN, w_notN, w_chain, w_sl, w_part, w_noPart, w_forL, w_for1, w_for2, w_K, w_for3, w_isnotB, w_raise, w_try, w_KX, w_cut, w_compL, w_comp1, w_comp2, w_yes, w_pick0, w_pickN, w_pickS, w_bm, w_bm0, w_tyS, w_addS, w_slS, w_blkK, w_strs, w_methD, w_makeN, w_make, w_fld, w_gTup, w_gCons, w_gNil, w_sFld, w_compS, w_tryB, w_bmake, w_noKeys, w_raiseI, w_sFldX, w_fldX, w_bIf, w_makeK, w_nev, w_never, Option.getD_some,  exists_const, false_or, or_false, exists_false, w_s1, w_s2, w_s3, w_s4, w_s5, L2.start, List.map_cons, List.map_nil, List.length_cons, List.length_nil, List.replicate, List.replicate_zero, List.replicate_succ, Nat.reduceAdd, Nat.reduceSub, Nat.reduceLeDiff, List.cons_append, List.nil_append, List.append_nil, List.set_cons_zero, List.set_cons_succ, List.getElem?_cons_zero, List.getElem?_cons_succ, Option.some.injEq, V.int.injEq, V.bl.injEq, V.ref.injEq, V.str.injEq, V.ty.injEq, List.cons.injEq, and_true, true_and, exists_eq_left, exists_eq_left', exists_and_left, exists_eq, exists_eq', and_self, decide_eq_true_eq, Bool.not_eq_true', decide_eq_false_iff_not, Bool.true_eq_false, Bool.false_eq_true, if_true, if_false, ite_true, ite_false, false_and, and_false, and_assoc, reduceCtorEq] at * <;> first | exact q | exact ⟨_, t, _, rfl, ty, kb, q⟩ | (refine ⟨_, t, _, rfl, ty, kb, ?_⟩; simpa [isBoolV] using q)
theorem ok_is_whole_from (B : Bt K mg a) (C_is_whole : CalX P w K mg base "is_whole" ["thing"] 1 (sp_is_whole K a)) (F : Fun K "is_whole_from" "is_whole_from" s_is_whole_from f fd) : FnOk P w K mg base CX0 2 f fd ["thing", "least"] (sp_is_whole_from K a) := by
  refine F.ok sc_is_whole_from (fun vs H Q E h => ?_) (fun cdv A outer s H vs Q E hr h => ?_)
  · obtain ⟨x, lo, rfl, _⟩ := h
    rfl
  obtain ⟨x, lo, rfl, ox, q⟩ := h
  refine ⟨_, (pss_of (qss_one (qs_ret (qe_of (pe_and (pe_calN C_is_whole (hr.mono (by decide)) rfl (pa_of (qa_c (pv 0) qa_nil)) (he := star_plain _ _ _ rfl) (hpl := plain_any rfl)) (pe_one (pe_cmpR op_le (pv 1) (pv 0) (nomark _)))))))), ?_⟩
  walk_at "w0"
  refine ⟨x, rfl, ox, ?_⟩
  cases x <;> simp_all [wholeV, fromV]
theorem ok_is_name (B : Bt K mg a)  (F : Fun K "is_name" "is_name" s_is_name f fd) : FnOk P w K mg base CX0 1 f fd ["thing"] (sp_is_name K a) := by
  refine F.ok sc_is_name (fun vs H Q E h => ?_) (fun cdv A outer s H vs Q E hr h => ?_)
  · obtain ⟨x, rfl, _⟩ := h
    rfl
  obtain ⟨x, rfl, ox, q⟩ := h
  refine ⟨_, (pss_of (qss_cons (qs_if (L2.PW.pt (pw_or (pt_not (pt_val (pe_callB call_isi_str rfl B.isinstance PyProof.Rows.boot_isinstance (pa_of (qa_c (pv 0) (qa_c (pe_bltn (v := .ty "str") rfl B.str PyProof.Rows.boot_str rfl) qa_nil))) (he := star_plain _ _ _ rfl) (hpl := plain_any rfl)))) (pw_or (pt_cmpR op_lt (pe_callB call_len_str rfl B.len PySem.boot_len (pa_of (qa_c (pv 0) qa_nil))) pe_int (nomark _)) (pw_or1 (pt_cmpR op_gt (pe_callB call_len_str rfl B.len PySem.boot_len (pa_of (qa_c (pv 0) qa_nil))) (pe_glob (v := .int 8) rfl B.MOST_LETTERS ⟨_, rfl⟩) (nomark _)))))) (qss_one (qs_ret (qe_of pe_bl))) qss_nil) (qss_one (qs_ret (qe_of (pe_callB (call_all rfl) rfl B.all PyProof.Rows.boot_all (pa_of (qa_c (pe_compB ["sign"] [none] rfl (by kernel_rfl) (pi_str (pv 0)) (fun cl C s H fp => ⟨(pg_name (i := 0) (by decide : List.Nodup (["sign"] : List Str)) rfl (Or.inl (by kernel_rfl)) (Or.inr (by kernel_rfl))), pts_nil, (pe_cmpR op_in_str (pv 0 (hv := Or.inl (by kernel_rfl))) (pe_glob (v := .str "abcdefghijklmnopqrstuvwxyz") (gl_of (by kernel_rfl)) B.LETTERS ⟨_, rfl⟩) (by with_unfolding_all rfl))⟩)) qa_nil)) (he := star_plain _ _ _ rfl) (hpl := plain_any rfl))))))), ?_⟩
  cases x with
  | str u =>
    obtain ⟨hp, hl⟩ := id ox
    exists isStrV
    refine ⟨ox, sz8 hl, ?_⟩
    by_cases h1 : ((u.length : Nat) : Int) < 1
    · rw [if_pos h1]
      have e : nameB (.str u) = false := decide_eq_false fun g => by have := g.1; omega
      rw [e] at q
      exact q _ fun _ _ z => z
    rw [if_neg h1]
    refine ⟨sz8 hl, ?_⟩
    by_cases h2 : (8 : Int) < ((u.length : Nat) : Int)
    · rw [if_pos h2]
      have e : nameB (.str u) = false := decide_eq_false fun g => by have := g.2.1; omega
      rw [e] at q
      exact q _ fun _ _ z => z
    rw [if_neg h2]
    refine ⟨hp, ?_⟩
    refine CompS.by (fun i acc σ H' => acc = (u.cps.toList.take i).map (fun c => V.bl (!(Builtin.Str.occurrences letters ⟨#[c]⟩ 0 letters.length 1).isEmpty)) ∧ (∃ v, σ = [v]) ∧ H' = H) (sz8 hl) ⟨rfl, ⟨_, rfl⟩, rfl⟩ ?_ ?_ ?_
    · rintro i c acc σ H' hc ⟨rfl, ⟨v, rfl⟩, rfl⟩
      have hc' : u.cps.toList[i]? = some c := by simpa using hc
      have ea : (u.cps.toList.take i).map (fun c => V.bl (!(Builtin.Str.occurrences letters ⟨#[c]⟩ 0 letters.length 1).isEmpty)) ++ [V.bl (!(Builtin.Str.occurrences letters ⟨#[c]⟩ 0 letters.length 1).isEmpty)] = (u.cps.toList.take (i + 1)).map (fun c => V.bl (!(Builtin.Str.occurrences letters ⟨#[c]⟩ 0 letters.length 1).isEmpty)) := by
        rw [List.take_succ, hc', List.map_append]
        rfl
      walk_at "w0"
      first | exact ea | exact ⟨ea, ⟨_, rfl⟩, rfl⟩
    · rintro i acc σ H' ⟨rfl, _, _⟩
      rw [List.length_map, List.length_take]
      omega
    · rintro acc σ H' ⟨rfl, ⟨v, rfl⟩, rfl⟩ D hD
      have e : (u.cps.toList.take u.cps.size).map (fun c => V.bl (!(Builtin.Str.occurrences letters ⟨#[c]⟩ 0 letters.length 1).isEmpty)) = (u.cps.toList.map fun c => !(Builtin.Str.occurrences letters ⟨#[c]⟩ 0 letters.length 1).isEmpty).map V.bl := by
        rw [List.take_of_length_le (by simp), List.map_map]
        rfl
      rw [e]
      refine ⟨D, rfl, _, SqL.of upd_same, ?_⟩
      have e2 : nameB (.str u) = decide (∀ c ∈ u.cps.toList, 97 ≤ c ∧ c ≤ 122) := by
        rw [Bool.eq_iff_iff]
        refine ⟨fun g => ?_, fun g => ?_⟩
        · have g' : goodN u := of_decide_eq_true g
          exact decide_eq_true g'.2.2
        · exact decide_eq_true (p := goodN u) ⟨by omega, by omega, of_decide_eq_true g⟩
      rw [name_all hp, ← e2]
      exact q _ (same_new hD _)
  | non =>
    exists isStrV
    exact ⟨ox, q _ fun _ _ z => z⟩
  | bl b =>
    exists isStrV
    exact ⟨ox, q _ fun _ _ z => z⟩
  | int b =>
    exists isStrV
    exact ⟨ox, q _ fun _ _ z => z⟩
  | ref b =>
    exists isStrV
    exact ⟨ox, q _ fun _ _ z => z⟩
  | _ => exact ox.elim
theorem ok_Road___init__ (B : Bt K mg a) (C_is_name : CalX P w K mg base "is_name" ["thing"] 1 (sp_is_name K a)) (C_is_whole_from : CalX P w K mg base "is_whole_from" ["thing", "least"] 2 (sp_is_whole_from K a)) (CI_NoRoad : CalI P w K mg base "NoRoad" a.NoRoad "road" 1 (.non)) (F : FunA K "__init__" "Road.__init__" s_Road___init__ f fd) : FnOk P w K mg base (CXF P w) 3 f fd ["self", "name", "slow", "knows"] (sp_Road___init__ K a) := by
  refine FunA.okX F sc_Road___init__ (fun vs H Q E h => ?_) (fun cdv A outer s H vs Q E hr h => ?_)
  · obtain ⟨p, dx, n, s, k, rfl, _⟩ := h
    rfl
  obtain ⟨p, dx, n, s, k, rfl, hp, on, os, ok, q⟩ := h
  refine ⟨_, (pss_of (qss_cons (qs_if (L2.PW.pt (pw_or (pt_not (pt_val (pe_calX C_is_name (hr.mono (by decide)) rfl (pa_of (qa_c (pv 1) qa_nil)) (he := star_plain _ _ _ rfl) (hpl := plain_any rfl)))) (pw_or (pt_not (pt_val (pe_calX C_is_whole_from (hr.mono (by decide)) rfl (pa_of (qa_c (pv 2) (qa_c pe_int qa_nil))) (he := star_plain _ _ _ rfl) (hpl := plain_any rfl)))) (pw_or1 (pt_not (pt_val (pe_callB call_isi_bool rfl B.isinstance PyProof.Rows.boot_isinstance (pa_of (qa_c (pv 3) (qa_c (pe_bltn (v := .ty "bool") rfl B.bool PyProof.Rows.boot_bool rfl) qa_nil))) (he := star_plain _ _ _ rfl) (hpl := plain_any rfl)))))))) (qss_of (pss_one (ps_raiseC (R := fun dx H9 => E (.ref a.NoRoad) (some dx) H9) CI_NoRoad rfl rfl (hr.mono (by decide)) raiseXI))) qss_nil) (qss_cons (qs_of (ps_fld (pv 0) (pv 1) rfl)) (qss_cons (qs_of (ps_fld (pv 0) (pv 2) rfl)) (qss_one (qs_of (ps_fld (pv 0) (pv 3) rfl))))))), ?_⟩
  walk_at "w0"
  refine ⟨n, rfl, on, fun H1 S1 => ?_⟩
  walk_at "w0"
  have done : ∀ H2, Same H H2 → roadB n s k = false → ∀ dx, H2 dx = none → E (.ref a.NoRoad) (some dx) (upd H2 dx (.xd [("road", .non)])) := fun H2 S2 e dx hdx => by
    rcases q with ⟨e1, _⟩ | ⟨_, q⟩
    · rw [e] at e1; cases e1
    · exact q dx _ (S2.trans (same_new hdx _)) upd_same
  cases hn : nameB n with
  | false =>
    rw [if_pos rfl]
    exact done H1 S1 (by unfold roadB; rw [hn]; rfl)
  | true =>
    rw [if_neg (by decide)]
    refine ⟨s, 0, rfl, os.same S1, ?_⟩
    walk_at "w0"
    cases hs : fromV s 0 with
    | false =>
      rw [if_pos rfl]
      exact done H1 S1 (by unfold roadB; rw [hn, hs]; rfl)
    | true =>
      rw [if_neg (by decide)]
      refine ⟨okV_same ok S1, ?_⟩
      cases hk : isBoolV k with
      | false =>
        rw [if_pos rfl]
        exact done H1 S1 (by unfold roadB; rw [hn, hs, hk]; rfl)
      | true =>
        rw [if_neg (by decide)]
        rcases q with ⟨_, q⟩ | ⟨e, _⟩
        · refine ⟨_, _, _, S1 _ _ hp, B.ck_Road.cl, B.na_Road_name, by decide, _, _, _, upd_same, B.ck_Road.cl, B.na_Road_slow, (show 1 < 1000 by decide), _, _, _, upd_same, B.ck_Road.cl, B.na_Road_knows, (show 2 < 1000 by decide), q _ (fun b o nb e => ?_) upd_same⟩
          rw [upd_ne nb, upd_ne nb, upd_ne nb]
          exact S1 _ _ e
        · exact absurd e (by unfold roadB; rw [hn, hs, hk]; decide)
theorem ok_law_whole (B : Bt K mg a)  (F : Fun K "_law_whole" "_law_whole" s_law_whole f fd) : FnOk P w K mg base CX0 1 f fd ["_law_found"] (sp_law_whole K a) := by
  refine F.ok sc_law_whole (fun vs H Q E h => ?_) (fun cdv A outer s H vs Q E hr h => ?_)
  · obtain ⟨x, rfl, _⟩ := h
    rfl
  obtain ⟨x, rfl, ox, q⟩ := h
  refine ⟨_, (pss_of (qss_one (qs_ret (qe_of (pe_and (pe_callB call_isi_int rfl B.isinstance PyProof.Rows.boot_isinstance (pa_of (qa_c (pv 0) (qa_c (pe_bltn (v := .ty "int") rfl B.int PyProof.Rows.boot_int rfl) qa_nil))) (he := star_plain _ _ _ rfl) (hpl := plain_any rfl)) (pe_one (pe_not (pe_callB call_isi_bool rfl B.isinstance PyProof.Rows.boot_isinstance (pa_of (qa_c (pv 0) (qa_c (pe_bltn (v := .ty "bool") rfl B.bool PyProof.Rows.boot_bool rfl) qa_nil))) (he := star_plain _ _ _ rfl) (hpl := plain_any rfl))))))))), ?_⟩
  walk_at "w0"
  refine ⟨ox, ?_⟩
  cases x <;> simp_all [isIntV, isBoolV, wholeV]
theorem drw {H : Hp} {w : Addr} {m : Int} {Q : VK} {E : XK} (W : Well H w) (h0 : 0 < m) (h1 : m < 2 ^ 62) (q : ∀ (r : Int) (H' : Hp), 0 ≤ r → r < m → Well H' w → But w H H' → Q (.int r) H') : sp_law_draw K a [.ref w, .int m] H Q E := ⟨w, m, rfl, W, h0, h1, q⟩
theorem ok_law_cell_at (B : Bt K mg a)  (F : Fun K "_law_cell_at" "_law_cell_at" s_law_cell_at f fd) : FnOk P w K mg base CX0 1 f fd ["_law_script", "_law_k"] (sp_law_cell_at K a) := by
  refine F.ok sc_law_cell_at (fun vs H Q E h => ?_) (fun cdv A outer s H vs Q E hr h => ?_)
  · obtain ⟨b, ns, k, rfl, _⟩ := h
    rfl
  obtain ⟨b, ns, k, rfl, hS, k0, q⟩ := h
  refine ⟨_, (pss_of (qss_cons (qs_if (pt_cmpR op_lt (pv 1) (pe_callB call_len rfl B.len PySem.boot_len (pa_of (qa_c (pv 0) qa_nil))) (nomark _)) (qss_one (qs_ret (qe_of (pe_ix ix_list (pv 0) (pv 1) (fun _ _ => rfl))))) qss_nil) (qss_one (qs_ret (qe_of pe_int))))), ?_⟩
  walk_at "w0"
  refine ⟨_, .inl ⟨_, hS, rfl⟩, ?_⟩
  walk_at "w0"
  split
  · rename_i hk
    rw [List.length_map] at hk
    obtain ⟨z, _, ez⟩ := at_mem k0 hk
    exact ixl hS ez (q z)
  · exact q 0
theorem ok_law_mixed (B : Bt K mg a)  (F : Fun K "_law_mixed" "_law_mixed" s_law_mixed f fd) : FnOk P w K mg base CX0 1 f fd ["_law_cell", "_law_k"] (sp_law_mixed K a) := by
  refine F.ok sc_law_mixed (fun vs H Q E h => ?_) (fun cdv A outer s H vs Q E hr h => ?_)
  · obtain ⟨c, k, rfl, _⟩ := h
    rfl
  obtain ⟨c, k, rfl, q⟩ := h
  refine ⟨_, (pss_of (qss_cons (qs_set (i := 2) sc_law_mixed.nd rfl (Or.inl rfl) (qe_of (pe_op op_mod (pe_op op_mul (pe_op op_add (pe_op op_add (pv 0) (pe_op op_mul pe_int (pv 1))) pe_int) pe_int) pe_int)) (by kernel_rfl)) (qss_cons (qs_set (i := 2) sc_law_mixed.nd rfl (Or.inl rfl) (qe_of (pe_op op_mod (pe_op op_mul (pv 2) (pe_op op_add (pe_op op_fdivL (pv 2) pe_int) pe_int)) pe_int)) (by kernel_rfl)) (qss_one (qs_ret (qe_of (pe_op op_mod (pe_op op_mul (pv 2) (pe_op op_add (pe_op op_add (pe_op op_fdivL (pv 2) pe_int) pe_int) (pv 1))) pe_int))))))), ?_⟩
  walk_at "w0"
  have e1 := Int.emod_nonneg ((c + 7919 * k + 1) * 48271) (b := 2147483647) (by decide)
  have e2 := Int.emod_lt_of_pos ((c + 7919 * k + 1) * 48271) (b := 2147483647) (by decide)
  generalize (c + 7919 * k + 1) * 48271 % 2147483647 = x at *
  have e3 := Int.emod_nonneg (x * (x / 1009 + 69621)) (b := 2147483647) (by decide)
  have e4 := Int.emod_lt_of_pos (x * (x / 1009 + 69621)) (b := 2147483647) (by decide)
  generalize x * (x / 1009 + 69621) % 2147483647 = y at *
  refine ⟨.inl ⟨by decide, by decide⟩, .inr ⟨by decide, by decide⟩, by decide, ⟨by decide, by decide⟩, .inl ⟨by omega, by omega⟩, by decide, ⟨by decide, by decide⟩, .inl ⟨by omega, by omega⟩, by decide, q _⟩
theorem ok_law_well (B : Bt K mg a)  (F : Fun K "_law_well" "_law_well" s_law_well f fd) : FnOk P w K mg base CX0 1 f fd ["_law_cell"] (sp_law_well K a) := by
  refine F.ok sc_law_well (fun vs H Q E h => ?_) (fun cdv A outer s H vs Q E hr h => ?_)
  · obtain ⟨c, rfl, _⟩ := h
    rfl
  obtain ⟨c, rfl, q⟩ := h
  refine ⟨_, (pss_of (qss_one (qs_ret (qe_lst (qa_c (pe_op op_fdivL (pv 0) pe_int) (qa_c (pe_op op_mod (pv 0) pe_int) (qa_c (pe_op op_mod (pv 0) pe_int) (qa_c pe_int qa_nil)))))))), ?_⟩
  walk_at "w0"
  exact ⟨⟨by decide, by decide⟩, by decide, by decide, sz8 (by decide), fun p hp => q p _ _ _ _ hp⟩
theorem ok_law_draw (B : Bt K mg a) (C_law_mixed : CalX P w K mg base "_law_mixed" ["_law_cell", "_law_k"] 1 (sp_law_mixed K a)) (F : Fun K "_law_draw" "_law_draw" s_law_draw f fd) : FnOk P w K mg base CX0 2 f fd ["_law_well_here", "_law_most"] (sp_law_draw K a) := by
  refine F.ok sc_law_draw (fun vs H Q E h => ?_) (fun cdv A outer s H vs Q E hr h => ?_)
  · obtain ⟨wl, m, rfl, _⟩ := h
    rfl
  obtain ⟨wl, m, rfl, W, m0, m1, q⟩ := h
  refine ⟨_, (pss_of (qss_cons (qs_if (L2.PW.pt (pw_and (pt_cmpR op_eq (pe_ix ix_list (pv 0) pe_int (fun _ _ => rfl)) pe_int (nomark _)) (pw_and1 (pt_cmpR op_gt (pe_ix ix_list (pv 0) pe_int (fun _ _ => rfl)) pe_int (nomark _))))) (qss_cons (qs_set (i := 2) sc_law_draw.nd rfl (Or.inl rfl) (qe_of (pe_op op_mod (pe_ix ix_list (pv 0) pe_int (fun _ _ => rfl)) (pv 1))) (by kernel_rfl)) (qss_cons (qs_of (ps_asg (pe_op op_fdivL (pe_ix ix_list (pv 0) pe_int (fun _ _ => rfl)) (pv 1)) (pg_sub (pv 0) pe_int set_list))) (qss_one (qs_ret (qe_of (pv 2)))))) qss_nil) (qss_cons (qs_set (i := 2) sc_law_draw.nd rfl (Or.inl rfl) (qe_of pe_int) (by kernel_rfl)) (qss_cons (qs_of (ps_for PassesOwn.never rfl (pi_range1 rfl B.range (pa_of (qa_c (pe_op op_add pe_int (pe_op op_mul pe_int (pe_callTy call_int1 rfl B.int PyProof.Rows.boot_int (pa_of (qa_c (pe_cmpR op_gt (pv 1) (pe_op op_pow pe_int pe_int) (nomark _)) qa_nil))))) qa_nil))) (pg_name (i := 3) sc_law_draw.nd rfl (Or.inl rfl)) (pss_of (qss_cons (qs_of (ps_asg (pe_op op_add (pe_ix ix_list (pv 0) pe_int (fun _ _ => rfl)) pe_int) (pg_sub (pv 0) pe_int set_list))) (qss_one (qs_set (i := 2) sc_law_draw.nd rfl (Or.inl rfl) (qe_of (pe_op op_add (pe_op op_mul (pv 2) pe_int) (pe_calN C_law_mixed (hr.mono (by decide)) rfl (pa_of (qa_c (pe_ix ix_list (pv 0) pe_int (fun _ _ => rfl)) (qa_c (pe_ix ix_list (pv 0) pe_int (fun _ _ => rfl)) qa_nil))) (he := star_plain _ _ _ rfl) (hpl := plain_any rfl)))) (by kernel_rfl))))))) (qss_one (qs_ret (qe_of (pe_op op_mod (pv 2) (pv 1))))))))), ?_⟩
  obtain ⟨a, b, c, d, hw⟩ := W
  have fin : ∀ r : Int, 0 < m → 0 ≤ r % m ∧ r % m < m := fun r h => ⟨Int.emod_nonneg _ (by omega), Int.emod_lt_of_pos _ h⟩
  walk_at "w0"
  refine ixl (SqL.of hw) (v := .int b) rfl ?_
  walk_at "w0"
  by_cases hb : b = 0
  · rw [if_pos hb]
    refine ixl (SqL.of hw) (v := .int a) rfl ?_
    walk_at "w0"
    by_cases ha : 0 < a
    · rw [if_pos ha]
      refine ixl (SqL.of hw) (v := .int a) rfl ?_
      walk_at "w0"
      refine ⟨m0, ixl (SqL.of hw) (v := .int a) rfl ?_⟩
      walk_at "w0"
      refine ⟨⟨m0, m1⟩, setl hw (j := 0) rfl ?_⟩
      walk_at "w0"
      exact q _ _ (fin a m0).1 (fin a m0).2 ⟨_, _, _, _, upd_same⟩ (But.upd _)
    · rw [if_neg ha]
      refine ⟨⟨by decide, by decide, by decide⟩, ?_⟩
      have he : 0 ≤ (if (10 : Int) ^ Int.toNat 6 < m then (1 : Int) else 0) ∧ (if (10 : Int) ^ Int.toNat 6 < m then (1 : Int) else 0) ≤ 1 := by split <;> omega
      generalize (if (10 : Int) ^ Int.toNat 6 < m then (1 : Int) else 0) = e at *
      refine ⟨.inl ⟨by decide, by decide⟩, by omega, by omega, ?_⟩
      refine ForR.by (fun _ σ H1 => ∃ (fv : Int) (tv : Option V), σ = [some (.ref wl), some (.int m), some (.int fv), tv] ∧ Well H1 wl ∧ But wl H H1) ⟨0, none, rfl, ⟨a, b, c, d, hw⟩, But.refl _ _⟩ ?_ ?_
      · rintro i σ H1 hi ⟨fv, tv, rfl, ⟨a', b', c', d', hw1⟩, B1⟩
        walk_at "w0"
        refine ixl (SqL.of hw1) (v := .int d') rfl ?_
        walk_at "w0"
        refine setl hw1 (j := 3) rfl ?_
        walk_at "w0"
        refine ⟨.inr ⟨by decide, by decide⟩, ?_⟩
        refine ixl (SqL.of upd_same) (v := .int c') rfl ?_
        walk_at "w0"
        refine ixl (SqL.of upd_same) (v := .int (d' + 1)) rfl ?_
        walk_at "w0"
        refine ⟨_, _, rfl, fun r => ?_⟩
        walk_at "w0"
        exact ⟨⟨_, _, _, _, upd_same⟩, B1.trans (But.upd _)⟩
      · rintro σ H1 ⟨fv, tv, rfl, W1, B1⟩
        walk_at "w0"
        exact ⟨m0, q _ H1 (fin fv m0).1 (fin fv m0).2 W1 B1⟩
  · rw [if_neg hb]
    refine ⟨⟨by decide, by decide, by decide⟩, ?_⟩
    have he : 0 ≤ (if (10 : Int) ^ Int.toNat 6 < m then (1 : Int) else 0) ∧ (if (10 : Int) ^ Int.toNat 6 < m then (1 : Int) else 0) ≤ 1 := by split <;> omega
    generalize (if (10 : Int) ^ Int.toNat 6 < m then (1 : Int) else 0) = e at *
    refine ⟨.inl ⟨by decide, by decide⟩, by omega, by omega, ?_⟩
    refine ForR.by (fun _ σ H1 => ∃ (fv : Int) (tv : Option V), σ = [some (.ref wl), some (.int m), some (.int fv), tv] ∧ Well H1 wl ∧ But wl H H1) ⟨0, none, rfl, ⟨a, b, c, d, hw⟩, But.refl _ _⟩ ?_ ?_
    · rintro i σ H1 hi ⟨fv, tv, rfl, ⟨a', b', c', d', hw1⟩, B1⟩
      walk_at "w0"
      refine ixl (SqL.of hw1) (v := .int d') rfl ?_
      walk_at "w0"
      refine setl hw1 (j := 3) rfl ?_
      walk_at "w0"
      refine ⟨.inr ⟨by decide, by decide⟩, ?_⟩
      refine ixl (SqL.of upd_same) (v := .int c') rfl ?_
      walk_at "w0"
      refine ixl (SqL.of upd_same) (v := .int (d' + 1)) rfl ?_
      walk_at "w0"
      refine ⟨_, _, rfl, fun r => ?_⟩
      walk_at "w0"
      exact ⟨⟨_, _, _, _, upd_same⟩, B1.trans (But.upd _)⟩
    · rintro σ H1 ⟨fv, tv, rfl, W1, B1⟩
      walk_at "w0"
      exact ⟨m0, q _ H1 (fin fv m0).1 (fin fv m0).2 W1 B1⟩
theorem let_app {u v : Str} (hu : LetS u) (hv : LetS v) : LetS (u ++ v) := fun c hc => by
  rw [app_toList] at hc
  rcases List.mem_append.mp hc with z | z
  · exact hu c z
  · exact hv c z
theorem let_slice {u : Str} (hu : LetS u) (l r : Option Int) : LetS (Txt.slice u l r) := fun c hc => hu c (slice_mem hc)
theorem let_one {c : Nat} (h0 : 97 ≤ c) (h1 : c ≤ 122) : LetS ⟨#[c]⟩ := fun d hd => by
  have e : d = c := by simpa using hd
  rw [e]
  exact ⟨h0, h1⟩
theorem slice_len {x : Str} {l u : Option Int} : (Txt.slice x l u).length ≤ (Builtin.Str.strSliceIndices l u 1 x.length).length := by
  unfold Txt.slice
  split
  · rename_i h
    have : (Builtin.Str.strSliceIndices l u 1 x.length).length = x.length := by simpa using h
    omega
  · show (List.filterMap _ (Builtin.Str.strSliceIndices l u 1 x.length)).toArray.size ≤ _
    rw [List.size_toArray]
    exact List.length_filterMap_le _ _
theorem slice_two {x : Str} {r : Int} (h6 : x.length ≤ 6) (r0 : 0 ≤ r) (r1 : r ≤ x.length) : (Txt.slice x none (some r)).length + (Txt.slice x (some r) none).length ≤ 6 := by
  have q : ∀ n k : Fin 7, k.val ≤ n.val → (Builtin.Str.strSliceIndices none (some ((k.val : Nat) : Int)) 1 n.val).length + (Builtin.Str.strSliceIndices (some ((k.val : Nat) : Int)) none 1 n.val).length ≤ 6 := by decide +kernel
  have z := q ⟨x.length, by omega⟩ ⟨r.toNat, by omega⟩ (by show r.toNat ≤ x.length; omega)
  have e : ((r.toNat : Nat) : Int) = r := by omega
  rw [e] at z
  have a := slice_len (x := x) (l := none) (u := some r)
  have b := slice_len (x := x) (l := some r) (u := none)
  exact Nat.le_trans (Nat.add_le_add a b) z
theorem let_empty : LetS Str.empty := fun d hd => by cases hd
theorem join_let {ts : List Str} (h : ∀ t ∈ ts, ∃ c, t = ⟨#[c]⟩ ∧ 97 ≤ c ∧ c ≤ 122) (h8 : ts.length ≤ 8) : JoinOk Str.empty ts = true ∧ (Txt.join Str.empty ts).length = ts.length ∧ LetS (Txt.join Str.empty ts) := by
  obtain ⟨i1, i2⟩ := join_one ts h
  have hj : Txt.join Str.empty ts = Str.join Str.empty ts := StrLaws.glued_eq_join _ _
  by_cases h0 : ts = []
  · subst h0
    exact ⟨by decide +kernel, by decide +kernel, by rw [hj]; exact i2⟩
  · have : 1 ≤ ts.length := by
      cases ts with
      | nil => exact absurd rfl h0
      | cons x r => simp
    exact ⟨(join_good h this h8).1, by rw [hj]; exact i1, by rw [hj]; exact i2⟩
theorem ok_law_names (B : Bt K mg a) (C_law_draw : CalX P w K mg base "_law_draw" ["_law_well_here", "_law_most"] 2 (sp_law_draw K a)) (F : Fun K "_law_names" "_law_names" s_law_names f fd) : FnOk P w K mg base CX0 3 f fd ["_law_well_here", "_law_many"] (sp_law_names K a) := by
  refine F.ok sc_law_names (fun vs H Q E h => ?_) (fun cdv A outer s H vs Q E hr h => ?_)
  · obtain ⟨wl, n, rfl, _⟩ := h
    rfl
  obtain ⟨wl, n, rfl, n0, n1, W, q⟩ := h
  refine ⟨_, (pss_of (qss_cons (qs_set (i := 2) sc_law_names.nd rfl (Or.inr rfl) (qe_of pe_str) (by kernel_rfl)) (qss_cons (qs_set (i := 3) sc_law_names.nd rfl (Or.inl rfl) (qe_of (pe_bm PySem.F.plainAttrs_str PySem.F.slot_str_join PySem.F.type_str_join mt_join pe_str (pa_of (qa_c (pe_compB ["_law_k", "_law_letters", "_law_well_here"] [none, some 2, some 0] rfl (by kernel_rfl) (pi_range1 rfl B.range (pa_of (qa_c (pe_calN C_law_draw (hr.mono (by decide)) rfl (pa_of (qa_c (pv 0) (qa_c pe_int qa_nil))) (he := star_plain _ _ _ rfl) (hpl := plain_any rfl)) qa_nil))) (fun cl C s H fp => ⟨(pg_name (i := 0) (by decide : List.Nodup (["_law_k", "_law_letters", "_law_well_here"] : List Str)) rfl (Or.inl (by kernel_rfl)) (Or.inr (by kernel_rfl))), pts_nil, (pe_ix ix_str (pv 1 (hv := Or.inr (Or.inl (by kernel_rfl)))) (pe_calN C_law_draw (hr.mono (by decide)) (gl_of (by kernel_rfl)) (pa_of (qa_c (pv 2 (hv := Or.inr (Or.inl (by kernel_rfl)))) (qa_c pe_int qa_nil))) (he := star_plain _ _ _ rfl) (hpl := plain_any rfl)) (fun _ _ => rfl))⟩)) qa_nil)))) (by kernel_rfl)) (qss_cons (qs_set (i := 4) sc_law_names.nd rfl (Or.inl rfl) (qe_of (pe_calN C_law_draw (hr.mono (by decide)) rfl (pa_of (qa_c (pv 0) (qa_c (pe_op op_add (pe_callB call_len_str rfl B.len PySem.boot_len (pa_of (qa_c (pv 3) qa_nil))) pe_int) qa_nil))) (he := star_plain _ _ _ rfl) (hpl := plain_any rfl))) (by kernel_rfl)) (qss_cons (qs_set (i := 5) sc_law_names.nd rfl (Or.inl rfl) (qe_of (pe_calN C_law_draw (hr.mono (by decide)) rfl (pa_of (qa_c (pv 0) (qa_c pe_int qa_nil))) (he := star_plain _ _ _ rfl) (hpl := plain_any rfl))) (by kernel_rfl)) (qss_cons (qs_set (i := 6) sc_law_names.nd rfl (Or.inl rfl) (qe_ix ix_list (qe_lst (qa_c pe_int (qa_c pe_int (qa_c pe_int (qa_c pe_int qa_nil))))) (qe_of (pe_calN C_law_draw (hr.mono (by decide)) rfl (pa_of (qa_c (pv 0) (qa_c pe_int qa_nil))) (he := star_plain _ _ _ rfl) (hpl := plain_any rfl))) (fun _ _ => rfl)) (by kernel_rfl)) (qss_cons (qs_set (i := 7) sc_law_names.nd rfl (Or.inl rfl) (qe_lst qa_nil) (by kernel_rfl)) (qss_cons (qs_of (ps_for PassesOwn.never rfl (pi_range1 rfl B.range (pa_of (qa_c (pv 1) qa_nil))) (pg_name (i := 8) sc_law_names.nd rfl (Or.inl rfl)) (pss_of (qss_cons (qs_set (i := 9) sc_law_names.nd rfl (Or.inl rfl) (qe_of (pe_op op_add_str (pe_op op_add_str (pe_slice sl_str (pv 3) po_none (po_some (pv 4))) (pe_ix ix_str (pv 2) (pe_op op_mod (pe_op op_add (pv 5) (pe_op op_mul (pv 6) (pv 8))) pe_int) (fun _ _ => rfl))) (pe_slice sl_str (pv 3) (po_some (pv 4)) po_none))) (by kernel_rfl)) (qss_one (qs_of (ps_expr (pe_bm PySem.F.plainAttrs_list PySem.F.slot_list_append PySem.F.type_list_append mt_append (pv 7) (pa_of (qa_c (pe_op op_add_str (pv 9) (pe_op op_mul01 (pe_ix ix_str (pv 2) (pe_calN C_law_draw (hr.mono (by decide)) rfl (pa_of (qa_c (pv 0) (qa_c pe_int qa_nil))) (he := star_plain _ _ _ rfl) (hpl := plain_any rfl)) (fun _ _ => rfl)) (pe_calN C_law_draw (hr.mono (by decide)) rfl (pa_of (qa_c (pv 0) (qa_c pe_int qa_nil))) (he := star_plain _ _ _ rfl) (hpl := plain_any rfl)))) qa_nil)))))))))) (qss_one (qs_ret (qe_of (pv 7)))))))))))), ?_⟩
  walk_at "w0"
  refine drw W (by decide) (by decide) fun r1 H1 a1 b1 W1 B1 => ?_
  walk_at "w0"
  refine ⟨by omega, by omega, ?_⟩
  refine CompR.by (fun i acc σ H' => (∃ ts : List Str, acc = ts.map V.str ∧ ts.length = i ∧ ∀ t ∈ ts, ∃ c, t = ⟨#[c]⟩ ∧ 97 ≤ c ∧ c ≤ 122) ∧ (∃ v, σ = [v, some (.str letters), some (.ref wl)]) ∧ Well H' wl ∧ But wl H1 H') (sz8 (by omega)) ⟨⟨[], rfl, rfl, fun t ht => by cases ht⟩, ⟨_, rfl⟩, W1, But.refl _ _⟩ ?_ ?_ ?_
  · rintro i acc σ H' hi ⟨⟨ts, rfl, hl, ht⟩, ⟨v, rfl⟩, W3, B3⟩
    walk_at "w0"
    refine drw W3 (by decide) (by decide) fun r3 H3 a3 b3 W4 B4 => ?_
    obtain ⟨c, ec, c0, c1⟩ := letter_at a3 b3
    refine ixs (u := letters) (sz8 (by decide)) ec ?_
    have new : ∃ us : List Str, ts.map V.str ++ [V.str ⟨#[c]⟩] = us.map V.str ∧ us.length = i + 1 ∧ ∀ t ∈ us, ∃ c, t = ⟨#[c]⟩ ∧ 97 ≤ c ∧ c ≤ 122 := by
      refine ⟨ts ++ [⟨#[c]⟩], by rw [List.map_append]; rfl, by rw [List.length_append, hl]; rfl, fun t h => ?_⟩
      rcases List.mem_append.mp h with z | z
      · exact ht t z
      · rw [List.mem_singleton.mp z]
        exact ⟨c, rfl, c0, c1⟩
    first | exact ⟨new, ⟨_, rfl⟩, W4, B3.trans B4⟩ | exact ⟨new, W4, B3.trans B4⟩
  · rintro i acc σ H' ⟨⟨ts, rfl, hl, _⟩, _⟩
    rw [List.length_map, hl]
    exact Nat.le_refl _
  · rintro acc σ H' ⟨⟨ts, rfl, hl, ht⟩, ⟨v, rfl⟩, W3, B3⟩ D hD
    have hn : ts.length = r1.toNat := hl
    obtain ⟨j1, j2, j3⟩ := join_let ht (by omega)
    have S9 := same_new hD (.lst (ts.map V.str))
    refine ⟨Str.empty, D, ts, rfl, rfl, upd_same, j1, ?_⟩
    generalize hst : Txt.join Str.empty ts = st at *
    have W4 := W3.same S9
    have B4 := B1.trans (B3.trans (Same.but S9))
    generalize upd H' D (.lst (ts.map V.str)) = H4 at *
    have stl : st.length ≤ 6 := by omega
    clear hst ht hl hn j1 j2 S9 B3 W3 hD
    walk_at "w0"
    refine ⟨sz8 (by omega), ?_⟩
    refine drw W4 (by omega) (by omega) fun r2 H5 a2 b2 W5 B5 => ?_
    walk_at "w0"
    refine drw W5 (by decide) (by decide) fun r3 H6 a3 b3 W6 B6 => ?_
    walk_at "w0"
    refine ⟨sz8 (by decide), fun p1 h1 => ?_⟩
    have S1 := same_new h1 (.lst [.int 1, .int 3, .int 5, .int 7])
    refine drw (W6.same S1) (by decide) (by decide) fun r4 H7 a4 b4 W7 B7 => ?_
    have e7 := B7 p1 _ (W6.ne h1) upd_same
    obtain ⟨sp, hsp, esp⟩ := at_mem (ns := [1, 3, 5, 7]) a4 b4
    refine ixl (SqL.of e7) esp ?_
    have BB := B4.trans (B5.trans (B6.trans ((Same.but S1).trans B7)))
    clear B4 B5 B6 B7 S1 e7 esp h1 W4 W5 W6 a4 b4
    walk_at "w0"
    refine ⟨Nat.zero_le _, fun pf hf => ?_⟩
    have hpf0 : H pf = none := by
      cases e : H pf with
      | none => rfl
      | some o =>
        have z := BB pf o (W7.ne hf) e
        rw [hf] at z
        cases z
    have nw := W7.ne hf
    have S8 := same_new hf (.lst [])
    have W8 := W7.same S8
    have B8 := BB.trans (Same.but (w := wl) S8)
    have e8 : upd H7 pf (.lst []) pf = some (.lst (([] : List Str).map V.str)) := upd_same
    generalize upd H7 pf (.lst []) = H8 at *
    clear BB S8 hf W7
    refine ⟨by omega, by omega, ?_⟩
    refine ForR.by (fun i σ H' => (∃ us : List Str, us.length = i ∧ (∀ u ∈ us, goodN u) ∧ H' pf = some (.lst (us.map V.str))) ∧ (∃ v8 v9, σ = [some (.ref wl), some (.int n), some (.str letters), some (.str st), some (.int r2), some (.int r3), some (.int sp), some (.ref pf), v8, v9]) ∧ Well H' wl ∧ But wl H H') ⟨⟨[], rfl, (fun u hu => absurd hu List.not_mem_nil), e8⟩, ⟨_, _, rfl⟩, W8, B8⟩ ?_ ?_
    · rintro i σ H9 hi ⟨⟨us, ul, ug, ue⟩, ⟨v8, v9, rfl⟩, W9, B9⟩
      walk_at "w0"
      have hil : i < 100 := by omega
      have hsp8 : 0 ≤ sp ∧ sp ≤ 7 := by simp only [List.mem_cons, List.not_mem_nil, or_false] at hsp; omega
      have m1 := Int.emod_nonneg (r3 + sp * (0 + (i : Int))) (b := 26) (by decide)
      have m2 := Int.emod_lt_of_pos (r3 + sp * (0 + (i : Int))) (b := 26) (by decide)
      obtain ⟨c, ec, c0, c1⟩ := letter_at m1 m2
      have k1 := Txt.slice_le st none (some r2)
      have k2 := Txt.slice_le st (some r2) none
      refine ⟨sz8 (by omega), .inl ⟨by omega, by omega⟩, by decide, ?_⟩
      refine ixs (u := letters) (sz8 (by decide)) ec ?_
      walk_at "w0"
      have k3 := slice_two (x := st) (r := r2) stl a2 (by omega)
      have l1 : (⟨#[c]⟩ : Str).length = 1 := rfl
      have l2 : (Txt.slice st none (some r2) ++ ⟨#[c]⟩ : Str).length = (Txt.slice st none (some r2)).length + 1 := by rw [Str.length_append, l1]
      refine ⟨sz8 (by omega), sz8 (by omega), sz8 (by omega), .inl ⟨rfl, _, SqL.of ue⟩, ?_⟩
      refine drw W9 (by decide) (by decide) fun r5 G1 a5 b5 W10 B10 => ?_
      obtain ⟨d, ed, d0, d1⟩ := letter_at a5 b5
      refine ixs (u := letters) (sz8 (by decide)) ed ?_
      refine drw W10 (by decide) (by decide) fun r6 G2 a6 b6 W11 B11 => ?_
      refine ⟨⟨#[d]⟩, r6, rfl, rfl, by omega, ?_⟩
      walk_at "w0"
      have lt : ∀ x : Str, x = (if r6 = 1 then ⟨#[d]⟩ else Str.empty) → LetS x ∧ x.length ≤ 1 := by
        intro x hx
        rw [hx]
        split
        · exact ⟨let_one d0 d1, Nat.le_refl _⟩
        · exact ⟨let_empty, by decide⟩
      generalize (if r6 = 1 then (⟨#[d]⟩ : Str) else Str.empty) = tl at *
      obtain ⟨t1, t2⟩ := lt tl rfl
      have l3 : (Txt.slice st none (some r2) ++ ⟨#[c]⟩ ++ Txt.slice st (some r2) none : Str).length = (Txt.slice st none (some r2)).length + 1 + (Txt.slice st (some r2) none).length := by rw [Str.length_append, l2]
      have gd : goodN (Txt.slice st none (some r2) ++ ⟨#[c]⟩ ++ Txt.slice st (some r2) none ++ tl) := by
        refine ⟨?_, ?_, let_app (let_app (let_app (let_slice j3 _ _) (let_one c0 c1)) (let_slice j3 _ _)) t1⟩
        · rw [Str.length_append, l3]; omega
        · rw [Str.length_append, l3]; omega
      refine ⟨sz8 (by omega), ?_⟩
      have ue2 := B11 pf _ nw (B10 pf _ nw ue)
      refine ⟨pf, _, _, rfl, rfl, ue2, ?_, ?_⟩
      · rw [List.length_map, ul]
        exact Nat.lt_of_le_of_lt (by omega : i ≤ 1000) (by decide)
      · generalize Txt.slice st none (some r2) ++ ⟨#[c]⟩ ++ Txt.slice st (some r2) none ++ tl = nu at *
        have W12 : Well (upd G2 pf (.lst (us.map V.str ++ [.str nu]))) wl := by
          obtain ⟨x1, x2, x3, x4, e⟩ := W11
          exact ⟨x1, x2, x3, x4, by rw [upd_ne (fun z => nw z.symm)]; exact e⟩
        refine ⟨⟨us ++ [nu], by rw [List.length_append, ul]; rfl, fun y hy => ?_, by rw [upd_same, List.map_append]; rfl⟩, W12, fun b o nb e => ?_⟩
        · rcases List.mem_append.mp hy with z | z
          · exact ug y z
          · rw [List.mem_singleton.mp z]; exact gd
        · rw [upd_ne (ne_of_none e hpf0)]
          exact B11 b o nb (B10 b o nb (B9 b o nb e))
    · rintro σ H9 ⟨⟨us, ul, ug, ue⟩, ⟨v8, v9, rfl⟩, W9, B9⟩
      walk_at "w0"
      exact q pf us H9 ul ug W9 B9 hpf0 ue
theorem ok_law_right (B : Bt K mg a) (C_law_whole : CalX P w K mg base "_law_whole" ["_law_found"] 1 (sp_law_whole K a)) (F : Fun K "_law_right" "_law_right" s_law_right f fd) : FnOk P w K mg base CX0 2 f fd ["_law_road", "_law_name", "_law_slow", "_law_wise"] (sp_law_right K a) := by
  refine F.ok sc_law_right (fun vs H Q E h => ?_) (fun cdv A outer s H vs Q E hr h => ?_)
  · obtain ⟨p, dx, n, s, k, rfl, _⟩ := h
    rfl
  obtain ⟨p, dx, n, s, k, rfl, hp, hn, q⟩ := h
  refine ⟨_, (pss_of (qss_cons (qs_if (L2.PW.pt (pw_or (pt_not (pt_val (pe_callB (isiV_at (K := K) rfl) rfl B.isinstance PyProof.Rows.boot_isinstance (pa_of (qa_c (pv 0) (qa_c (pe_glob (v := .ref _) rfl B.Road rfl) qa_nil))) (he := star_plain _ _ _ rfl) (hpl := plain_any rfl)))) (pw_or (pt_not (pt_val (pe_callB call_isi_str rfl B.isinstance PyProof.Rows.boot_isinstance (pa_of (qa_c (pe_fld (pv 0) rfl) (qa_c (pe_bltn (v := .ty "str") rfl B.str PyProof.Rows.boot_str rfl) qa_nil))) (he := star_plain _ _ _ rfl) (hpl := plain_any rfl)))) (pw_or1 (pt_cmpR op_ne (pe_fld (pv 0) rfl) (pv 1) (nomark _)))))) (qss_one (qs_ret (qe_of pe_bl))) qss_nil) (qss_one (qs_ret (qe_of (pe_and (pe_calN C_law_whole (hr.mono (by decide)) rfl (pa_of (qa_c (pe_fld (pv 0) rfl) qa_nil)) (he := star_plain _ _ _ rfl) (hpl := plain_any rfl)) (pe_and (pe_cmpR op_eq (pe_fld (pv 0) rfl) (pv 2) (nomark _)) (pe_and (pe_callB call_isi_bool rfl B.isinstance PyProof.Rows.boot_isinstance (pa_of (qa_c (pe_fld (pv 0) rfl) (qa_c (pe_bltn (v := .ty "bool") rfl B.bool PyProof.Rows.boot_bool rfl) qa_nil))) (he := star_plain _ _ _ rfl) (hpl := plain_any rfl)) (pe_one (pe_cmpR op_eq (pe_fld (pv 0) rfl) (pv 3) (nomark _))))))))))), ?_⟩
  walk_at "w0"
  have hs : okV H (.int s) := trivial
  refine ⟨_, _, _, true, rfl, B.ck_Road.ty hp, B.isRoad, ?_⟩
  walk_at "w0"
  refine ⟨_, _, _, hp, B.ck_Road.cl, B.na_Road_name, _, rfl, hn, ?_⟩
  exists isStrV
  refine ⟨_, _, _, hp, B.ck_Road.cl, B.na_Road_name, _, rfl, by first | rfl | decide, ?_⟩
  exists not_true_eq_false, if_false
  refine ⟨_, _, _, hp, B.ck_Road.cl, B.na_Road_slow, _, rfl, ?_⟩
  refine ⟨.int s, rfl, trivial, ?_⟩
  exists wholeV
  refine ⟨_, _, _, hp, B.ck_Road.cl, B.na_Road_slow, _, rfl, by first | rfl | decide, ?_⟩
  exists if_true
  refine ⟨_, _, _, hp, B.ck_Road.cl, B.na_Road_knows, _, rfl, trivial, ?_⟩
  exists isBoolV
  refine ⟨_, _, _, hp, B.ck_Road.cl, B.na_Road_knows, _, rfl, by first | rfl | decide, ?_⟩
  simpa using q
theorem ok_law_refused (B : Bt K mg a) (CD_Road_3 : CalD P w K mg base "Road" a.Road ["self", "name", "slow", "knows"] 3 [] (sp_Road___init__ K a)) (F : Fun K "_law_refused" "_law_refused" s_law_refused f fd) : FnOk P w K mg base CX0 5 f fd ["_law_name", "_law_slow", "_law_wise"] (sp_law_refused K a) := by
  refine F.ok sc_law_refused (fun vs H Q E h => ?_) (fun cdv A outer s H vs Q E hr h => ?_)
  · obtain ⟨n, s, k, rfl, _⟩ := h
    rfl
  obtain ⟨n, s, k, rfl, on, os, ok, bad, q⟩ := h
  refine ⟨_, (pss_of (qss_cons (qs_set (i := 3) sc_law_refused.nd rfl (Or.inl rfl) (qe_of pe_bl) (by kernel_rfl)) (qss_cons (qs_of (ps_tryB (i := 4) rfl rfl (fun _ _ z => z) (pbs_expr (pbe_makD CD_Road_3 (fun _ _ z => z) (hr.mono (by decide)) rfl (pa_of (qa_c (pv 0) (qa_c (pv 1) (qa_c (pv 2) qa_nil)))) (he := star_plain _ _ _ rfl) (hpl := plain_any rfl))) rfl B.BellError sc_law_refused.nd rfl rfl (fun v => (pss_of (qss_cons (qs_set (i := 5) sc_law_refused.nd rfl (Or.inl rfl) (qe_of (pe_callB (isiXT_at (K := K) rfl) rfl B.isinstance PyProof.Rows.boot_isinstance (pa_of (qa_c (pv 4) (qa_c (pe_tup (pa_of (qa_c (pe_glob (v := .ref _) rfl B.Backward rfl) (qa_c (pe_glob (v := .ref _) rfl B.Fallen rfl) (qa_c (pe_glob (v := .ref _) rfl B.NoBook rfl) (qa_c (pe_glob (v := .ref _) rfl B.NoClock rfl) (qa_c (pe_glob (v := .ref _) rfl B.NoFit rfl) (qa_c (pe_glob (v := .ref _) rfl B.NoHappening rfl) (qa_c (pe_glob (v := .ref _) rfl B.NoNumber rfl) (qa_c (pe_glob (v := .ref _) rfl B.NoRow rfl) qa_nil)))))))))) qa_nil))) (he := star_plain _ _ _ rfl) (hpl := plain_any rfl))) (by kernel_rfl)) (qss_cons (qs_set (i := 5) sc_law_refused.nd rfl (Or.inl rfl) (qe_of (pe_or (pv 5) (pe_one (pe_callB (isiXT_at (K := K) rfl) rfl B.isinstance PyProof.Rows.boot_isinstance (pa_of (qa_c (pv 4) (qa_c (pe_tup (pa_of (qa_c (pe_glob (v := .ref _) rfl B.NoText rfl) (qa_c (pe_glob (v := .ref _) rfl B.NoTime rfl) (qa_c (pe_glob (v := .ref _) rfl B.NoWish rfl) qa_nil))))) qa_nil))) (he := star_plain _ _ _ rfl) (hpl := plain_any rfl))))) (by kernel_rfl)) (qss_one (qs_set (i := 3) sc_law_refused.nd rfl (Or.inl rfl) (qe_of (pe_and (pe_callB (isiX_at (K := K) rfl) rfl B.isinstance PyProof.Rows.boot_isinstance (pa_of (qa_c (pv 4) (qa_c (pe_glob (v := .ref _) rfl B.NoRoad rfl) qa_nil))) (he := star_plain _ _ _ rfl) (hpl := plain_any rfl)) (pe_and (pe_callB (isiX_at (K := K) rfl) rfl B.isinstance PyProof.Rows.boot_isinstance (pa_of (qa_c (pv 4) (qa_c (pe_bltn (v := .ty "ValueError") rfl B.ValueError boot_ValueError rfl) qa_nil))) (he := star_plain _ _ _ rfl) (hpl := plain_any rfl)) (pe_and (pe_not (pv 5)) (pe_one (pe_cmp (pc_isN (fldX_at (K := K) rfl (pv 4) rfl)))))))) (by kernel_rfl))))))))) (qss_one (qs_ret (qe_of (pv 3))))))), ?_⟩
  walk_at "w0"
  intro x0 d0 h0 hd0 ne0
  have M0 := made_same (o := .own x0) (o' := .ins a.Road d0 []) h0 hd0
  refine ⟨x0, d0, n, s, k, rfl, upd_same, on.same M0, os.same M0, okV_same ok M0, .inr ⟨bad, fun x1 H1 S1 e1 => ?_⟩⟩
  have Z1 := M0.trans S1
  clear M0 S1
  refine ⟨B.exm, fun x hx => ?_⟩
  have S2 := same_new hx (hoExcD x (.ref a.NoRoad) (some x1))
  have eX : upd H1 x (hoExcD x (.ref a.NoRoad) (some x1)) x = some (hoExcD x (.ref a.NoRoad) (some x1)) := upd_same
  generalize upd H1 x (hoExcD x (.ref a.NoRoad) (some x1)) = H2 at *
  walk_at "w0"
  refine ⟨sz8 (by decide), fun p1 h1 => ?_⟩
  have S3 := same_new h1 (.tup [.ref a.Backward, .ref a.Fallen, .ref a.NoBook, .ref a.NoClock, .ref a.NoFit, .ref a.NoHappening, .ref a.NoNumber, .ref a.NoRow])
  refine ⟨x, p1, [a.Backward, a.Fallen, a.NoBook, a.NoClock, a.NoFit, a.NoHappening, a.NoNumber, a.NoRow], false, a.NoRoad, rfl, B.excK_NoRoad, ⟨_, S3 _ _ eX⟩, upd_same, B.any1, ?_⟩
  generalize upd H2 p1 (.tup [.ref a.Backward, .ref a.Fallen, .ref a.NoBook, .ref a.NoClock, .ref a.NoFit, .ref a.NoHappening, .ref a.NoNumber, .ref a.NoRow]) = H3 at *
  walk_at "w0"
  refine ⟨sz8 (by decide), fun p2 h2 => ?_⟩
  have S4 := same_new h2 (.tup [.ref a.NoText, .ref a.NoTime, .ref a.NoWish])
  refine ⟨x, p2, [a.NoText, a.NoTime, a.NoWish], false, a.NoRoad, rfl, B.excK_NoRoad, ⟨_, S4 _ _ (S3 _ _ eX)⟩, upd_same, B.any2, ?_⟩
  generalize upd H3 p2 (.tup [.ref a.NoText, .ref a.NoTime, .ref a.NoWish]) = H4 at *
  have e4 := S4 _ _ (S3 _ _ eX)
  have d4 := S4 _ _ (S3 _ _ (S2 _ _ e1))
  walk_at "w0"
  refine ⟨x, _, _, true, a.NoRoad, rfl, rfl, B.excK_NoRoad, ⟨_, e4⟩, B.isR, ?_⟩
  walk_at "w0"
  refine ⟨x, _, _, true, a.NoRoad, rfl, rfl, B.excK_NoRoad, ⟨_, e4⟩, B.isV, ?_⟩
  walk_at "w0"
  refine ⟨_, _, e4, _, d4, B.excK_NoRoad, B.xhd, B.xna, _, rfl, ?_⟩
  exact q _ (Z1.trans (S2.trans (S3.trans S4)))
def tHold (t : TS) : TS := t
theorem w_hold {t : TS} {D : Ends} {σ : L2.St} {H : Hp} : tHold t D σ H = t D σ H := rfl
theorem hold_ret {t : TE} {nx : L2.St → Hp → Prop} {rt : VK} {bk ct : L2.St → Hp → Prop} {σ : L2.St} {H : Hp} (h : t σ H rt) : tHold (tRet t) { nx := nx, rt := rt, bk := bk, ct := ct } σ H := h
theorem qss_hold {X : Cx} {b : List Stmt} {t : TS} (h : QSs X b t) : QSs X b (tHold t) := h
theorem okI_no {H : Hp} {x : V} (h : okV H x) : okI K H x := by
  obtain ⟨T, ty, e1, e2, _⟩ := h.ty (K := K)
  exact ⟨_, ty, e1, e2⟩
theorem made_but {H H' : Hp} {x dx : Addr} {o o' : HO} (hx : H x = none) (hd : H dx = none) (b : But x (upd (upd H dx o) x o') H') : Same H H' := fun c u e => b c u (ne_of_none e hx) (made_same hx hd c u e)
theorem okN_good {H : Hp} {u : Str} (g : goodN u) : okN H (.str u) := ⟨(good_sm g).1, by have := (good_sm g).2; omega⟩
theorem nm_true {u : Str} (g : goodN u) : nameB (.str u) = true := by unfold nameB; exact decide_eq_true g
theorem fr_true {s : Int} (h : 0 ≤ s) : fromV (.int s) 0 = true := by unfold fromV; first | exact decide_eq_true h | simp [h]
theorem road_good {H : Hp} {x dx : Addr} {u : Str} {s : Int} {k : Bool} {Q : VK} {E : XK} (hx : H x = none) (hd : H dx = none) (gu : goodN u) (hs : 0 ≤ s) (q : ∀ H', Same H H' → H' x = some (.ins a.Road dx (rFs (.str u) (.int s) (.bl k))) → Q .non H') :
    sp_Road___init__ K a [.ref x, .str u, .int s, .bl k] (upd (upd H dx (.own x)) x (.ins a.Road dx [])) Q E :=
  ⟨x, dx, .str u, .int s, .bl k, rfl, upd_same, okN_good gu, okI_no trivial, trivial, .inl ⟨by unfold roadB; rw [nm_true gu, fr_true hs]; rfl, fun H' B e => q H' (made_but hx hd B) e⟩⟩
theorem right_good {H : Hp} {x dx : Addr} {u : Str} {s : Int} {k : Bool} {Q : VK} {E : XK} (gu : goodN u) (e : H x = some (.ins a.Road dx (rFs (.str u) (.int s) (.bl k)))) (q : Q (.bl true) H) : sp_law_right K a [.ref x, .str u, .int s, .bl k] H Q E :=
  ⟨x, dx, u, s, k, rfl, e, okN_good gu, q⟩
theorem ok_law_all_right (B : Bt K mg a) (C_law_right : CalX P w K mg base "_law_right" ["_law_road", "_law_name", "_law_slow", "_law_wise"] 2 (sp_law_right K a)) (C_law_names : CalX P w K mg base "_law_names" ["_law_well_here", "_law_many"] 3 (sp_law_names K a)) (C_law_draw : CalX P w K mg base "_law_draw" ["_law_well_here", "_law_most"] 2 (sp_law_draw K a)) (C_law_refused : CalX P w K mg base "_law_refused" ["_law_name", "_law_slow", "_law_wise"] 5 (sp_law_refused K a)) (CD_Road_3 : CalD P w K mg base "Road" a.Road ["self", "name", "slow", "knows"] 3 [] (sp_Road___init__ K a)) (CD_Road_1 : CalD P w K mg base "Road" a.Road ["self", "name", "slow", "knows"] 3 [.int 0, .bl false] (sp_Road___init__ K a)) (CD_Road_2 : CalD P w K mg base "Road" a.Road ["self", "name", "slow", "knows"] 3 [.bl false] (sp_Road___init__ K a)) (CK_Road_1_knows : CalK P w K mg base "Road" a.Road ["self", "name", "slow", "knows"] ["knows"] 3 gV1 (sp_Road___init__ K a)) (F : Fun K "_law_all_right" "_law_all_right" s_law_all_right f fd) : FnOk P w K mg base CX0 6 f fd ["_law_well_here"] (sp_law_all_right K a) := by
  refine F.ok sc_law_all_right (fun vs H Q E h => ?_) (fun cdv A outer s H vs Q E hr h => ?_)
  · obtain ⟨wl, rfl, _⟩ := h
    rfl
  obtain ⟨wl, rfl, W, q⟩ := h
  refine ⟨_, (pss_of (qss_cons (qs_set (i := 1) sc_law_all_right.nd rfl (Or.inl rfl) (qe_of (pe_ix ix_list (pe_calN C_law_names (hr.mono (by decide)) rfl (pa_of (qa_c (pv 0) (qa_c pe_int qa_nil))) (he := star_plain _ _ _ rfl) (hpl := plain_any rfl)) pe_int (fun _ _ => rfl))) (by kernel_rfl)) (qss_hold (qss_cons (qs_set (i := 2) sc_law_all_right.nd rfl (Or.inl rfl) (qe_ix ix_list (qe_lst (qa_c pe_int (qa_c pe_int (qa_c pe_int (qa_c (pe_calN C_law_draw (hr.mono (by decide)) rfl (pa_of (qa_c (pv 0) (qa_c (pe_op op_pow pe_int pe_int) qa_nil))) (he := star_plain _ _ _ rfl) (hpl := plain_any rfl)) qa_nil))))) (qe_of (pe_calN C_law_draw (hr.mono (by decide)) rfl (pa_of (qa_c (pv 0) (qa_c pe_int qa_nil))) (he := star_plain _ _ _ rfl) (hpl := plain_any rfl))) (fun _ _ => rfl)) (by kernel_rfl)) (qss_hold (qss_cons (qs_set (i := 3) sc_law_all_right.nd rfl (Or.inl rfl) (qe_of (pe_cmpR op_eq (pe_calN C_law_draw (hr.mono (by decide)) rfl (pa_of (qa_c (pv 0) (qa_c pe_int qa_nil))) (he := star_plain _ _ _ rfl) (hpl := plain_any rfl)) pe_int (nomark _))) (by kernel_rfl)) (qss_hold (qss_cons (qs_if (L2.PW.pt (pw_or (pt_not (pt_val (pe_calN C_law_right (hr.mono (by decide)) rfl (pa_of (qa_c (pe_makD CD_Road_3 pass00 (hr.mono (by decide)) rfl (pa_of (qa_c (pv 1) (qa_c (pv 2) (qa_c (pv 3) qa_nil)))) (he := star_plain _ _ _ rfl) (hpl := plain_any rfl)) (qa_c (pv 1) (qa_c (pv 2) (qa_c (pv 3) qa_nil))))) (he := star_plain _ _ _ rfl) (hpl := plain_any rfl)))) (pw_or1 (pt_not (pt_val (pe_calN C_law_right (hr.mono (by decide)) rfl (pa_of (qa_c (pe_makD CD_Road_1 pass00 (hr.mono (by decide)) rfl (pa_of (qa_c (pv 1) qa_nil)) (he := star_plain _ _ _ rfl) (hpl := plain_any rfl)) (qa_c (pv 1) (qa_c pe_int (qa_c pe_bl qa_nil))))) (he := star_plain _ _ _ rfl) (hpl := plain_any rfl))))))) (qss_one (qs_ret (qe_of pe_bl))) qss_nil) (qss_hold (qss_cons (qs_if (L2.PW.pt (pw_or (pt_not (pt_val (pe_calN C_law_right (hr.mono (by decide)) rfl (pa_of (qa_c (pe_makD CD_Road_2 pass00 (hr.mono (by decide)) rfl (pa_of (qa_c (pv 1) (qa_c (pv 2) qa_nil))) (he := star_plain _ _ _ rfl) (hpl := plain_any rfl)) (qa_c (pv 1) (qa_c (pv 2) (qa_c pe_bl qa_nil))))) (he := star_plain _ _ _ rfl) (hpl := plain_any rfl)))) (pw_or1 (pt_not (pt_val (pe_calN C_law_right (hr.mono (by decide)) rfl (pa_of (qa_c (pe_makK CK_Road_1_knows pass00 (hr.mono (by decide)) rfl (pa_of (qa_c (pv 1) qa_nil)) (pk_cons (pv 3) pk_nil) (he := star_plain _ _ _ rfl)) (qa_c (pv 1) (qa_c pe_int (qa_c (pv 3) qa_nil))))) (he := star_plain _ _ _ rfl) (hpl := plain_any rfl))))))) (qss_one (qs_ret (qe_of pe_bl))) qss_nil) (qss_hold (qss_cons (qs_set (i := 4) sc_law_all_right.nd rfl (Or.inl rfl) (qe_ix ix_list (qe_lst (qa_c pe_str (qa_c pe_str (qa_c pe_str (qa_c pe_str (qa_c pe_str (qa_c pe_str (qa_c pe_str (qa_c pe_str (qa_c pe_non (qa_c pe_int (qa_c pe_bl (qa_c (pe_tup (pa_of (qa_c pe_str qa_nil))) qa_nil))))))))))))) (qe_of (pe_calN C_law_draw (hr.mono (by decide)) rfl (pa_of (qa_c (pv 0) (qa_c pe_int qa_nil))) (he := star_plain _ _ _ rfl) (hpl := plain_any rfl))) (fun _ _ => rfl)) (by kernel_rfl)) (qss_hold (qss_cons (qs_if (pt_not (pt_val (pe_calN C_law_refused (hr.mono (by decide)) rfl (pa_of (qa_c (pv 4) (qa_c (pv 2) (qa_c (pv 3) qa_nil)))) (he := star_plain _ _ _ rfl) (hpl := plain_any rfl)))) (qss_one (qs_ret (qe_of pe_bl))) qss_nil) (qss_hold (qss_cons (qs_if (pt_not (pt_val (pe_calN C_law_refused (hr.mono (by decide)) rfl (pa_of (qa_c (pv 1) (qa_c (pe_ix ix_list (pe_lst (pa_of (qa_c (pe_un un_neg pe_int) (qa_c (pe_op op_sub (pe_un un_neg pe_int) (pv 2)) (qa_c pe_bl (qa_c pe_bl (qa_c pe_non (qa_c pe_str (qa_c (pe_tup (pa_of (qa_c pe_int qa_nil))) qa_nil))))))))) (pe_calN C_law_draw (hr.mono (by decide)) rfl (pa_of (qa_c (pv 0) (qa_c pe_int qa_nil))) (he := star_plain _ _ _ rfl) (hpl := plain_any rfl)) (fun _ _ => rfl)) (qa_c (pv 3) qa_nil)))) (he := star_plain _ _ _ rfl) (hpl := plain_any rfl)))) (qss_one (qs_ret (qe_of pe_bl))) qss_nil) (qss_hold (qss_cons (qs_if (pt_not (pt_val (pe_calN C_law_refused (hr.mono (by decide)) rfl (pa_of (qa_c (pv 1) (qa_c (pv 2) (qa_c (pe_ix ix_list (pe_lst (pa_of (qa_c pe_int (qa_c pe_int (qa_c pe_non (qa_c pe_str (qa_c pe_str (qa_c (pe_tup (pa_of (qa_c pe_bl qa_nil))) (qa_c (pv 2) qa_nil))))))))) (pe_calN C_law_draw (hr.mono (by decide)) rfl (pa_of (qa_c (pv 0) (qa_c pe_int qa_nil))) (he := star_plain _ _ _ rfl) (hpl := plain_any rfl)) (fun _ _ => rfl)) qa_nil)))) (he := star_plain _ _ _ rfl) (hpl := plain_any rfl)))) (qss_one (qs_ret (qe_of pe_bl))) qss_nil) (qss_hold (qss_one (qs_ret (qe_of (pe_calN C_law_right (hr.mono (by decide)) rfl (pa_of (qa_c (pe_makD CD_Road_3 pass00 (hr.mono (by decide)) rfl (pa_of (qa_c (pv 1) (qa_c (pv 2) (qa_c (pv 3) qa_nil)))) (he := star_plain _ _ _ rfl) (hpl := plain_any rfl)) (qa_c (pv 1) (qa_c (pv 2) (qa_c (pv 3) qa_nil))))) (he := star_plain _ _ _ rfl) (hpl := plain_any rfl)))))))))))))))))))))))), ?_⟩
  walk_at "w0"
  refine ⟨wl, 1, rfl, by decide, by decide, W, fun p0 us H1 ul ug W1 B1 hp0 e0 => ?_⟩
  obtain ⟨u, rfl⟩ : ∃ u, us = [u] := by
    cases us with
    | nil => cases ul
    | cons u us =>
      cases us with
      | nil => exact ⟨u, rfl⟩
      | cons _ _ => cases ul
  have gu := ug u (List.mem_cons_self ..)
  have nu := good_sm gu
  refine ixl (SqL.of e0) rfl ?_
  first | rw [w_hold] | (dsimp only; rw [w_hold])
  walk_at "w0"
  refine ⟨by first | decide | exact ⟨by decide, by decide⟩ | (unfold CPow; decide), ?_⟩
  refine drw W1 (by decide) (by decide) fun r1 H2 a1 b1 W2 B2 => ?_
  walk_at "w0"
  refine ⟨sz8 (by decide), fun p1 h1 => ?_⟩
  have S1 := same_new h1 (.lst [.int 0, .int 1, .int 999999, .int r1])
  refine drw (W2.same S1) (by decide) (by decide) fun r2 H3 a2 b2 W3 B3 => ?_
  have e3 := B3 p1 _ (W2.ne h1) upd_same
  obtain ⟨sl, hsl, esl⟩ := at_mem (ns := [0, 1, 999999, r1]) a2 b2
  refine ixl (SqL.of e3) esl ?_
  have b1 : r1 < 1000000 := b1
  have sl0 : 0 ≤ sl ∧ sl ≤ 999999 := by
    simp only [List.mem_cons, List.not_mem_nil, or_false] at hsl
    omega
  have BB := B1.trans (B2.trans ((Same.but S1).trans B3))
  clear B1 B2 B3 S1 e3 esl h1 hsl a2 b2 a1 b1 e0 hp0 W1 W2
  first | rw [w_hold] | (dsimp only; rw [w_hold])
  walk_at "w0"
  refine drw W3 (by decide) (by decide) fun r3 H4 a3 b3 W4 B4 => ?_
  walk_at "w0"
  have BB := BB.trans B4
  first | rw [w_hold] | (dsimp only; rw [w_hold])
  walk_at "w0"
  intro x1 d1 h1 hd1 ne1
  refine road_good h1 hd1 gu sl0.1 fun G1 T1 e1 => ⟨rfl, ?_⟩
  refine right_good gu e1 ?_
  walk_at "w0"
  intro x2 d2 h2 hd2 ne2
  refine road_good h2 hd2 gu (by decide) fun G2 T2 e2 => ⟨rfl, ?_⟩
  refine right_good gu e2 ?_
  walk_at "w0"
  first | rw [w_hold] | (dsimp only; rw [w_hold])
  exists w_gV1
  intro x3 d3 h3 hd3 ne3
  refine road_good h3 hd3 gu sl0.1 fun G3 T3 e3 => ⟨rfl, ?_⟩
  refine right_good gu e3 ?_
  walk_at "w0"
  try simp only [w_gV1]
  intro x4 d4 h4 hd4 ne4
  refine road_good h4 hd4 gu (by decide) fun G4 T4 e4 => ⟨rfl, ?_⟩
  refine right_good gu e4 ?_
  walk_at "w0"
  first | rw [w_hold] | (dsimp only; rw [w_hold])
  exists w_gV1
  have T5 := T1.trans (T2.trans (T3.trans T4))
  have W5 := W4.same T5
  have BB := BB.trans (Same.but (w := wl) T5)
  clear T1 T2 T3 T4 T5 e1 e2 e3 e4 h1 h2 h3 h4 hd1 hd2 hd3 hd4 W4 B4
  refine ⟨sz8 (by decide), fun ptA hptA => ?_⟩
  have SaA := same_new hptA (.tup [.str "a"])
  have eptA : upd G4 ptA (.tup [.str "a"]) ptA = some (.tup [.str "a"]) := upd_same
  have nptA := W5.ne hptA
  generalize upd G4 ptA (.tup [.str "a"]) = GaA at *
  have WaA := W5.same SaA
  refine ⟨sz8 (by decide), fun plA hplA => ?_⟩
  have SbA := same_new hplA (.lst [.str "", .str "abcdefghi", .str "A", .str "aB", .str "a1", .str "a ", .str " a", .str "a-b", .non, .int 5, .bl true, .ref ptA])
  have nplA := WaA.ne hplA
  refine drw (WaA.same SbA) (by decide) (by decide) fun rA GbA raA rbA WbA BbA => ?_
  have elA := BbA plA _ nplA upd_same
  have etA := BbA ptA _ nptA (SbA _ _ eptA)
  obtain ⟨zA, hzA, ezA⟩ := at_memV (xs := [.str "", .str "abcdefghi", .str "A", .str "aB", .str "a1", .str "a ", .str " a", .str "a-b", .non, .int 5, .bl true, .ref ptA]) raA rbA
  refine ixl (SqL.of elA) ezA ?_
  have bzA : okN GbA zA ∧ nameB zA = false := by
    simp only [List.mem_cons, List.not_mem_nil, or_false] at hzA
    rcases hzA with rfl | rfl | rfl | rfl | rfl | rfl | rfl | rfl | rfl | rfl | rfl | rfl <;> first | exact ⟨trivial, rfl⟩ | exact ⟨.inr (.inl ⟨_, etA⟩), rfl⟩ | exact ⟨⟨by decide +kernel, by decide +kernel⟩, by decide +kernel⟩
  have BB := BB.trans ((Same.but (w := wl) (SaA.trans SbA)).trans BbA)
  clear SaA SbA BbA elA ezA hzA eptA hptA hplA WaA W5
  first | rw [w_hold] | (dsimp only; rw [w_hold])
  exists w_gV1
  refine ⟨zA, .int sl, .bl _, rfl, bzA.1, okI_no trivial, trivial, by unfold roadB; rw [bzA.2]; rfl, fun GA SA => ?_⟩
  walk_at "w0"
  have WcA := WbA.same SA
  have BB := BB.trans (Same.but (w := wl) SA)
  clear SA WbA etA bzA
  first | rw [w_hold] | (dsimp only; rw [w_hold])
  exists w_gV1
  refine ⟨sz8 (by decide), fun ptB hptB => ?_⟩
  have SaB := same_new hptB (.tup [.int 0])
  have eptB : upd GA ptB (.tup [.int 0]) ptB = some (.tup [.int 0]) := upd_same
  have nptB := WcA.ne hptB
  generalize upd GA ptB (.tup [.int 0]) = GaB at *
  have WaB := WcA.same SaB
  refine ⟨sz8 (by decide), fun plB hplB => ?_⟩
  have SbB := same_new hplB (.lst [.int (-1), .int (-1 - sl), .bl true, .bl false, .non, .str "0", .ref ptB])
  have nplB := WaB.ne hplB
  refine drw (WaB.same SbB) (by decide) (by decide) fun rB GbB raB rbB WbB BbB => ?_
  have elB := BbB plB _ nplB upd_same
  have etB := BbB ptB _ nptB (SbB _ _ eptB)
  obtain ⟨zB, hzB, ezB⟩ := at_memV (xs := [.int (-1), .int (-1 - sl), .bl true, .bl false, .non, .str "0", .ref ptB]) raB rbB
  refine ixl (SqL.of elB) ezB ?_
  have bzB : okI K GbB zB ∧ fromV zB 0 = false := by
    simp only [List.mem_cons, List.not_mem_nil, or_false] at hzB
    rcases hzB with rfl | rfl | rfl | rfl | rfl | rfl | rfl <;> first | exact ⟨okI_no trivial, rfl⟩ | exact ⟨okI_no (okV.tup etB), rfl⟩ | exact ⟨okI_no trivial, by first | decide | (unfold fromV; simp; omega)⟩
  have BB := BB.trans ((Same.but (w := wl) (SaB.trans SbB)).trans BbB)
  clear SaB SbB BbB elB ezB hzB eptB hptB hplB WaB WcA
  refine ⟨.str u, zB, .bl _, rfl, okN_good gu, bzB.1, trivial, by unfold roadB; rw [bzB.2, Bool.and_false]; rfl, fun GB SB => ?_⟩
  walk_at "w0"
  have WcB := WbB.same SB
  have BB := BB.trans (Same.but (w := wl) SB)
  clear SB WbB etB bzB
  first | rw [w_hold] | (dsimp only; rw [w_hold])
  exists w_gV1
  refine ⟨sz8 (by decide), fun ptC hptC => ?_⟩
  have SaC := same_new hptC (.tup [.bl true])
  have eptC : upd GB ptC (.tup [.bl true]) ptC = some (.tup [.bl true]) := upd_same
  have nptC := WcB.ne hptC
  generalize upd GB ptC (.tup [.bl true]) = GaC at *
  have WaC := WcB.same SaC
  refine ⟨sz8 (by decide), fun plC hplC => ?_⟩
  have SbC := same_new hplC (.lst [.int 0, .int 1, .non, .str "", .str "True", .ref ptC, .int sl])
  have nplC := WaC.ne hplC
  refine drw (WaC.same SbC) (by decide) (by decide) fun rC GbC raC rbC WbC BbC => ?_
  have elC := BbC plC _ nplC upd_same
  have etC := BbC ptC _ nptC (SbC _ _ eptC)
  obtain ⟨zC, hzC, ezC⟩ := at_memV (xs := [.int 0, .int 1, .non, .str "", .str "True", .ref ptC, .int sl]) raC rbC
  refine ixl (SqL.of elC) ezC ?_
  have bzC : okV GbC zC ∧ isBoolV zC = false := by
    simp only [List.mem_cons, List.not_mem_nil, or_false] at hzC
    rcases hzC with rfl | rfl | rfl | rfl | rfl | rfl | rfl <;> first | exact ⟨trivial, rfl⟩ | exact ⟨okV.tup etC, rfl⟩
  have BB := BB.trans ((Same.but (w := wl) (SaC.trans SbC)).trans BbC)
  clear SaC SbC BbC elC ezC hzC eptC hptC hplC WaC WcB
  refine ⟨.str u, .int sl, zC, rfl, okN_good gu, okI_no trivial, bzC.1, by unfold roadB; rw [bzC.2, Bool.and_false], fun GC SC => ?_⟩
  walk_at "w0"
  have WcC := WbC.same SC
  have BB := BB.trans (Same.but (w := wl) SC)
  clear SC WbC etC bzC
  first | refine hold_ret ?_ | (dsimp only; refine hold_ret ?_)
  walk_at "w0"
  intro x9 d9 h9 hd9 ne9
  refine road_good h9 hd9 gu sl0.1 fun G9 T9 e9 => ⟨rfl, ?_⟩
  exact right_good gu e9 (q _ (BB.trans (Same.but (w := wl) T9)))
theorem ok_law (B : Bt K mg a) (C_law_cell_at : CalX P w K mg base "_law_cell_at" ["_law_script", "_law_k"] 1 (sp_law_cell_at K a)) (C_law_all_right : CalX P w K mg base "_law_all_right" ["_law_well_here"] 6 (sp_law_all_right K a)) (C_law_well : CalX P w K mg base "_law_well" ["_law_cell"] 1 (sp_law_well K a)) (F : Fun K "law" "law" s_law f fd) : FnOk P w K mg base CX0 7 f fd ["_law_script"] (sp_law K a) := by
  refine F.ok sc_law (fun vs H Q E h => ?_) (fun cdv A outer s H vs Q E hr h => ?_)
  · obtain ⟨sc, ns, rfl, _⟩ := h
    rfl
  obtain ⟨sc, ns, rfl, hS, h63, q⟩ := h
  refine ⟨_, (pss_of (qss_cons (qs_of (ps_for PassesOwn.never rfl (pi_list (pe_op op_cat (pe_lst (pa_of (qa_c (pe_calN C_law_cell_at (hr.mono (by decide)) rfl (pa_of (qa_c (pv 0) (qa_c pe_int qa_nil))) (he := star_plain _ _ _ rfl) (hpl := plain_any rfl)) qa_nil))) (pe_slice sl_list (pv 0) (po_some pe_int) (po_some pe_int)))) (pg_name (i := 1) sc_law.nd rfl (Or.inl rfl)) (pss_of (qss_one (qs_if (pt_not (pt_val (pe_calN C_law_all_right (hr.mono (by decide)) rfl (pa_of (qa_c (pe_calN C_law_well (hr.mono (by decide)) rfl (pa_of (qa_c (pv 1) qa_nil)) (he := star_plain _ _ _ rfl) (hpl := plain_any rfl)) qa_nil)) (he := star_plain _ _ _ rfl) (hpl := plain_any rfl)))) (qss_one (qs_ret (qe_of pe_bl))) qss_nil))))) (qss_one (qs_ret (qe_of pe_bl))))), ?_⟩
  walk_at "w0"
  refine ⟨sc, ns, 0, rfl, hS, by decide, fun c0 => ?_⟩
  refine ⟨sz8 (by decide), fun p hp => ?_⟩
  refine ⟨sc, _, rfl, (same_new hp _).seq hS, fun p2 hp2 => ?_⟩
  rw [cutI]
  refine ⟨p, p2, [.int c0], _, rfl, rfl, ?_, upd_same, ?_, fun l hl => ?_⟩
  · rw [upd_ne (ne_of_none upd_same hp2)]; exact upd_same
  · have := cutI_len ns 1 40
    simp only [List.length_cons, List.length_nil, List.length_map]
    exact sz8 (by omega)
  refine ⟨l, rfl, ⟨_, SqL.of upd_same⟩, ?_⟩
  refine ForL.by (xs := ([c0] ++ cutL ns 1 40).map V.int) (fun _ σ H1 => (∃ s1, σ = [some (.ref sc), s1]) ∧ H1 l = some (.lst (([c0] ++ cutL ns 1 40).map V.int))) ⟨⟨_, rfl⟩, by rw [List.map_append]; exact upd_same⟩ (fun i σ H1 _ h => SqL.of h.2) ?_ ?_
  · rintro i x σ H1 hx ⟨⟨s1, rfl⟩, h1⟩
    obtain ⟨c, rfl⟩ := int_at hx
    walk_at "w0"
    refine ⟨c, rfl, fun pw wa wb wc wd hpw => ?_⟩
    have W0 : Well (upd H1 pw (.lst [.int wa, .int wb, .int wc, .int wd])) pw := ⟨_, _, _, _, upd_same⟩
    have l0 : l ≠ pw := ne_of_none h1 hpw
    have h2 := same_new hpw (.lst [.int wa, .int wb, .int wc, .int wd]) l _ h1
    generalize upd H1 pw (.lst [.int wa, .int wb, .int wc, .int wd]) = H2 at *
    refine ⟨pw, rfl, W0, fun H3 B3 => ?_⟩
    have h3 := B3 l _ l0 h2
    walk_at "w0"
    first | exact h3 | exact ⟨⟨_, rfl⟩, h3⟩ | simpa using h3
  · rintro σ H1 ⟨⟨s1, rfl⟩, h1⟩
    walk_at "w0"
    exact q _
end
end Bw
set_option Elab.async false
set_option linter.all false
namespace Hd
open PySem PySem.W L2
set_option maxRecDepth 100000
set_option maxHeartbeats 0
class AT where
  p : Program
  a : List Str
  t : List String
class CP where
  P : Params
section
variable [A : AT]
noncomputable def s (i : Nat) : Str := A.a.getD i Str.empty
noncomputable def t (i : Nat) : String := A.t.getD i ""
noncomputable def stm (i : Nat) : Stmt := A.p.main.body.getD i (.Pass ⟨0, 0, 0, 0⟩)
noncomputable abbrev N : Obj → BT → BT → BT := BT.node
noncomputable abbrev L : BT := BT.nil
open PyData
noncomputable section
variable [c : CP]
noncomputable def ob (i : Nat) (x : Array Value) : Obj := Obj.mk (.type (t i)) none (.fields x) #[]
noncomputable def sq (i : Nat) (x : Array Value) : Obj := Obj.mk (.type (t i)) none (.seq x 0) #[]
noncomputable def fo (i n q : Nat) (x : Stmt) (k : Nat) (g : List Addr) (d e y : Value) (v : Nat) (u : Tok) (z : Addr) : Obj := Obj.mk (.type (t i)) none (.func (FuncData.mk (s n) (s q) (defArgs x) (FuncBody.stmts (defBody x)) (defScope x) k [] d e y (.str (s v) u) none (.ref z) .none 0)) #[]
noncomputable abbrev f (n : Nat) (k : Tok) : Value := .str (s n) k
noncomputable abbrev r (n : Addr) : Value := .ref n
noncomputable abbrev j (n : Int) (k : Tok) : Value := .int n k
noncomputable def d (i : Nat) (k : Tok) (v : Value) : DictEntry := DictEntry.mk (keyHash c.P (s i)) (f i k) v
noncomputable def di (x : Array DictEntry) (n : Nat) : Obj := Obj.mk (.type (t 7)) none (.dict x n) #[]
noncomputable def fn (n q : Nat) (x : Stmt) : Obj := Obj.mk .none none (.func (FuncData.mk (s n) (s q) (defArgs x) (FuncBody.stmts (defBody x)) (defScope x) 0 [] .none .none .none .none none .none .none 0)) #[]
noncomputable def fd (x : Array Value) : Obj := Obj.mk .none none (.fields x) #[]
noncomputable abbrev i (n : Int) : Value := .int n 0
noncomputable abbrev u : Value := .none
noncomputable abbrev T (n : Nat) : Value := .type (t n)
noncomputable abbrev bi (n : Nat) : Value := .builtin (t n)
def o00 : Obj := sq 4 #[]
def o01 : Obj := fd #[]
def o02 : Obj := ob 5 #[(f 72 182), (f 72 183), (f 3 184), (i 1), (i 0), (i 0), (i 0), (i 0), (r 11), (.bool false), (i 181), (r 12), u, u, u, u, (i 185), (i 1), (f 3 186)]
def o03 : Obj := (Obj.mk (.type (t 14)) none .plain #[(some (r 13)), (some (r 3)), (some (r 3)), none, (some (f 65 164)), none, (some (r 0))])
def o04 : Obj := di #[(d 6 165 (f 44 187)), (d 7 166 .none), (d 8 167 .none), (d 9 168 (bi 8)), (d 10 169 .none), (d 11 170 (r 6)), (d 12 171 (r 4)), (d 13 173 (f 3 172)), (d 14 174 .none), (d 15 206 (r 24))] 10
def o05 : Obj := fd #[(i 2), (i 0), (r 20)]
def o06 : Obj := sq 4 #[(T 9)]
def o07 : Obj := ob 1 #[(bi 2), (T 3)]
def o08 : Obj := di #[(d 43 196 (f 44 187)), (d 62 198 (f 15 197)), (d 45 200 (j 2 199)), (d 46 201 (r 22))] 4
def o09 : Obj := ob 5 #[(f 15 191), (f 15 192), (f 3 193), (i 2), (i 0), (i 0), (i 0), (i 0), (r 18), (.bool false), (i 181), (r 19), u, u, u, u, (i 194), (i 2), (f 3 195)]
def o0a : Obj := (Obj.mk (.type (t 14)) none .plain #[(some (r 20)), (some (r 3)), (some (r 17)), none, (some (f 44 187)), none, (some (r 0))])
def o0b : Obj := di #[(d 43 196 (f 44 187)), (d 45 200 (j 2 199)), (d 46 201 (r 22)), (d 61 203 (r 25)), (d 7 204 .none)] 3
def o0c : Obj := (Obj.mk (.type (t 3)) none (.cls (ClassData.mk (s 15) [(T 9)] [(r 24), (T 9), (T 10), (T 11), (T 12)] 23 (s 15) true [] [] false none false)) #[(some (r 15)), none, (some (f 15 189)), (some (f 15 197)), (some (bi 13)), (some (.bool true))])
def o0d : Obj := ob 15 #[(f 61 202), (r 24), (bi 16), u]
def o0e : Obj := ob 0 #[(r 24), (r 24), (r 24)]
def o0f : Obj := ob 1 #[(bi 17), (r 24)]
def o0g : Obj := di #[(d 6 165 (f 44 187)), (d 7 166 .none), (d 8 167 .none), (d 9 168 (bi 8)), (d 10 169 .none), (d 11 170 (r 6)), (d 12 171 (r 4)), (d 13 173 (f 3 172)), (d 14 174 .none), (d 15 206 (r 24)), (d 2 222 (r 37))] 11
def o0h : Obj := fd #[(i 2), (i 0), (r 20), (i 4), (i 0), (r 33)]
def o0i : Obj := (Obj.mk (.type (t 3)) none (.cls (ClassData.mk (s 15) [(T 9)] [(r 24), (T 9), (T 10), (T 11), (T 12)] 23 (s 15) true [] [(r 37)] false none false)) #[(some (r 15)), none, (some (f 15 189)), (some (f 15 197)), (some (bi 13)), (some (.bool true))])
def o0j : Obj := sq 4 #[(r 24)]
def o0k : Obj := di #[(d 43 214 (f 44 187)), (d 62 216 (f 2 215)), (d 45 218 (j 4 217)), (d 46 219 (r 35))] 4
def o0l : Obj := ob 5 #[(f 2 209), (f 2 210), (f 3 211), (i 4), (i 0), (i 0), (i 0), (i 0), (r 31), (.bool false), (i 181), (r 32), u, u, u, u, (i 212), (i 4), (f 3 213)]
def o0m : Obj := (Obj.mk (.type (t 14)) none .plain #[(some (r 33)), (some (r 3)), (some (r 30)), none, (some (f 44 187)), none, (some (r 0))])
def o0n : Obj := di #[(d 43 214 (f 44 187)), (d 45 218 (j 4 217)), (d 46 219 (r 35)), (d 7 220 .none)] 2
def o0o : Obj := (Obj.mk (.type (t 3)) none (.cls (ClassData.mk (s 2) [(r 24)] [(r 37), (r 24), (T 9), (T 10), (T 11), (T 12)] 36 (s 2) true [] [] false none false)) #[(some (r 28)), none, (some (f 2 207)), (some (f 2 215)), (some (bi 13)), (some (.bool true))])
def o0p : Obj := ob 0 #[(r 37), (r 37), (r 37)]
def o0q : Obj := ob 1 #[(bi 17), (r 37)]
def o0r : Obj := di #[(d 6 165 (f 44 187)), (d 7 166 .none), (d 8 167 .none), (d 9 168 (bi 8)), (d 10 169 .none), (d 11 170 (r 6)), (d 12 171 (r 4)), (d 13 173 (f 3 172)), (d 14 174 .none), (d 15 206 (r 24)), (d 2 222 (r 37)), (d 16 238 (r 49))] 12
def o0s : Obj := fd #[(i 2), (i 0), (r 20), (i 4), (i 0), (r 33), (i 6), (i 0), (r 45)]
def o0t : Obj := (Obj.mk (.type (t 3)) none (.cls (ClassData.mk (s 15) [(T 9)] [(r 24), (T 9), (T 10), (T 11), (T 12)] 23 (s 15) true [] [(r 37), (r 49)] false none false)) #[(some (r 15)), none, (some (f 15 189)), (some (f 15 197)), (some (bi 13)), (some (.bool true))])
def o0u : Obj := di #[(d 43 230 (f 44 187)), (d 62 232 (f 16 231)), (d 45 234 (j 6 233)), (d 46 235 (r 47))] 4
def o0v : Obj := ob 5 #[(f 16 225), (f 16 226), (f 3 227), (i 6), (i 0), (i 0), (i 0), (i 0), (r 43), (.bool false), (i 181), (r 44), u, u, u, u, (i 228), (i 6), (f 3 229)]
def o0w : Obj := (Obj.mk (.type (t 14)) none .plain #[(some (r 45)), (some (r 3)), (some (r 42)), none, (some (f 44 187)), none, (some (r 0))])
def o0x : Obj := di #[(d 43 230 (f 44 187)), (d 45 234 (j 6 233)), (d 46 235 (r 47)), (d 7 236 .none)] 2
def o0y : Obj := (Obj.mk (.type (t 3)) none (.cls (ClassData.mk (s 16) [(r 24)] [(r 49), (r 24), (T 9), (T 10), (T 11), (T 12)] 48 (s 16) true [] [] false none false)) #[(some (r 40)), none, (some (f 16 223)), (some (f 16 231)), (some (bi 13)), (some (.bool true))])
def o0z : Obj := ob 0 #[(r 49), (r 49), (r 49)]
def o0A : Obj := ob 1 #[(bi 17), (r 49)]
def o0B : Obj := di #[(d 6 165 (f 44 187)), (d 7 166 .none), (d 8 167 .none), (d 9 168 (bi 8)), (d 10 169 .none), (d 11 170 (r 6)), (d 12 171 (r 4)), (d 13 173 (f 3 172)), (d 14 174 .none), (d 15 206 (r 24)), (d 2 222 (r 37)), (d 16 238 (r 49)), (d 17 254 (r 61))] 13
def o0C : Obj := fd #[(i 2), (i 0), (r 20), (i 4), (i 0), (r 33), (i 6), (i 0), (r 45), (i 8), (i 0), (r 57)]
def o0D : Obj := (Obj.mk (.type (t 3)) none (.cls (ClassData.mk (s 15) [(T 9)] [(r 24), (T 9), (T 10), (T 11), (T 12)] 23 (s 15) true [] [(r 37), (r 49), (r 61)] false none false)) #[(some (r 15)), none, (some (f 15 189)), (some (f 15 197)), (some (bi 13)), (some (.bool true))])
def o0E : Obj := di #[(d 43 246 (f 44 187)), (d 62 248 (f 17 247)), (d 45 250 (j 8 249)), (d 46 251 (r 59))] 4
def o0F : Obj := ob 5 #[(f 17 241), (f 17 242), (f 3 243), (i 8), (i 0), (i 0), (i 0), (i 0), (r 55), (.bool false), (i 181), (r 56), u, u, u, u, (i 244), (i 8), (f 3 245)]
def o0G : Obj := (Obj.mk (.type (t 14)) none .plain #[(some (r 57)), (some (r 3)), (some (r 54)), none, (some (f 44 187)), none, (some (r 0))])
def o0H : Obj := di #[(d 43 246 (f 44 187)), (d 45 250 (j 8 249)), (d 46 251 (r 59)), (d 7 252 .none)] 2
def o0I : Obj := (Obj.mk (.type (t 3)) none (.cls (ClassData.mk (s 17) [(r 24)] [(r 61), (r 24), (T 9), (T 10), (T 11), (T 12)] 60 (s 17) true [] [] false none false)) #[(some (r 52)), none, (some (f 17 239)), (some (f 17 247)), (some (bi 13)), (some (.bool true))])
def o0J : Obj := ob 0 #[(r 61), (r 61), (r 61)]
def o0K : Obj := ob 1 #[(bi 17), (r 61)]
def o0L : Obj := di #[(d 6 165 (f 44 187)), (d 7 166 .none), (d 8 167 .none), (d 9 168 (bi 8)), (d 10 169 .none), (d 11 170 (r 6)), (d 12 171 (r 4)), (d 13 173 (f 3 172)), (d 14 174 .none), (d 15 206 (r 24)), (d 2 222 (r 37)), (d 16 238 (r 49)), (d 17 254 (r 61)), (d 18 270 (r 73))] 14
def o0M : Obj := fd #[(i 2), (i 0), (r 20), (i 4), (i 0), (r 33), (i 6), (i 0), (r 45), (i 8), (i 0), (r 57), (i 10), (i 0), (r 69)]
def o0N : Obj := (Obj.mk (.type (t 3)) none (.cls (ClassData.mk (s 15) [(T 9)] [(r 24), (T 9), (T 10), (T 11), (T 12)] 23 (s 15) true [] [(r 37), (r 49), (r 61), (r 73)] false none false)) #[(some (r 15)), none, (some (f 15 189)), (some (f 15 197)), (some (bi 13)), (some (.bool true))])
def o0O : Obj := di #[(d 43 262 (f 44 187)), (d 62 264 (f 18 263)), (d 45 266 (j 10 265)), (d 46 267 (r 71))] 4
def o0P : Obj := ob 5 #[(f 18 257), (f 18 258), (f 3 259), (i 10), (i 0), (i 0), (i 0), (i 0), (r 67), (.bool false), (i 181), (r 68), u, u, u, u, (i 260), (i 10), (f 3 261)]
def o0Q : Obj := (Obj.mk (.type (t 14)) none .plain #[(some (r 69)), (some (r 3)), (some (r 66)), none, (some (f 44 187)), none, (some (r 0))])
def o0R : Obj := di #[(d 43 262 (f 44 187)), (d 45 266 (j 10 265)), (d 46 267 (r 71)), (d 7 268 .none)] 2
def o0S : Obj := (Obj.mk (.type (t 3)) none (.cls (ClassData.mk (s 18) [(r 24)] [(r 73), (r 24), (T 9), (T 10), (T 11), (T 12)] 72 (s 18) true [] [] false none false)) #[(some (r 64)), none, (some (f 18 255)), (some (f 18 263)), (some (bi 13)), (some (.bool true))])
def o0T : Obj := ob 0 #[(r 73), (r 73), (r 73)]
def o0U : Obj := ob 1 #[(bi 17), (r 73)]
def o0V : Obj := di #[(d 6 165 (f 44 187)), (d 7 166 .none), (d 8 167 .none), (d 9 168 (bi 8)), (d 10 169 .none), (d 11 170 (r 6)), (d 12 171 (r 4)), (d 13 173 (f 3 172)), (d 14 174 .none), (d 15 206 (r 24)), (d 2 222 (r 37)), (d 16 238 (r 49)), (d 17 254 (r 61)), (d 18 270 (r 73)), (d 19 295 (r 93))] 15
def o0W : Obj := fd #[(i 2), (i 0), (r 20), (i 4), (i 0), (r 33), (i 6), (i 0), (r 45), (i 8), (i 0), (r 57), (i 10), (i 0), (r 69), (i 12), (i 0), (r 81)]
def o0X : Obj := (Obj.mk (.type (t 3)) none (.cls (ClassData.mk (s 15) [(T 9)] [(r 24), (T 9), (T 10), (T 11), (T 12)] 23 (s 15) true [] [(r 37), (r 49), (r 61), (r 73), (r 93)] false none false)) #[(some (r 15)), none, (some (f 15 189)), (some (f 15 197)), (some (bi 13)), (some (.bool true))])
def o0Y : Obj := di #[(d 43 278 (f 44 187)), (d 62 280 (f 19 279)), (d 45 282 (j 12 281)), (d 47 290 (r 90)), (d 46 292 (r 91))] 5
def o0Z : Obj := fd #[(i 14), (i 4), (r 89)]
def o10 : Obj := ob 5 #[(f 19 273), (f 19 274), (f 3 275), (i 12), (i 0), (i 0), (i 0), (i 0), (r 79), (.bool false), (i 181), (r 80), u, u, u, u, (i 276), (i 12), (f 3 277)]
def o11 : Obj := (Obj.mk (.type (t 14)) none .plain #[(some (r 81)), (some (r 3)), (some (r 78)), none, (some (f 44 187)), none, (some (r 0))])
def o12 : Obj := sq 4 #[u]
def o13 : Obj := sq 4 #[(f 0 286), (f 77 287)]
def o14 : Obj := fn 47 69 (inClass (stm 6) 0)
def o15 : Obj := ob 5 #[(f 47 283), (f 69 284), (f 3 285), (i 14), (i 2), (i 0), (i 0), (i 3), (r 84), (.bool true), (i 181), (r 85), u, (r 86), (r 87), (r 88), (i 288), (i 14), (f 3 289)]
def o16 : Obj := fo 6 47 69 (inClass (stm 6) 0) 3 [] (r 83) .none .none 44 187 89
def o17 : Obj := sq 4 #[(f 77 291)]
def o18 : Obj := di #[(d 43 278 (f 44 187)), (d 45 282 (j 12 281)), (d 47 290 (r 90)), (d 46 292 (r 91)), (d 7 293 .none)] 2
def o19 : Obj := (Obj.mk (.type (t 3)) none (.cls (ClassData.mk (s 19) [(r 24)] [(r 93), (r 24), (T 9), (T 10), (T 11), (T 12)] 92 (s 19) true [] [] false none false)) #[(some (r 76)), none, (some (f 19 271)), (some (f 19 279)), (some (bi 13)), (some (.bool true))])
def o1a : Obj := ob 0 #[(r 93), (r 93), (r 93)]
def o1b : Obj := ob 1 #[(bi 17), (r 93)]
def o1c : Obj := di #[(d 6 165 (f 44 187)), (d 7 166 .none), (d 8 167 .none), (d 9 168 (bi 8)), (d 10 169 .none), (d 11 170 (r 6)), (d 12 171 (r 4)), (d 13 173 (f 3 172)), (d 14 174 .none), (d 15 206 (r 24)), (d 2 222 (r 37)), (d 16 238 (r 49)), (d 17 254 (r 61)), (d 18 270 (r 73)), (d 19 295 (r 93)), (d 20 311 (r 105))] 16
def o1d : Obj := fd #[(i 2), (i 0), (r 20), (i 4), (i 0), (r 33), (i 6), (i 0), (r 45), (i 8), (i 0), (r 57), (i 10), (i 0), (r 69), (i 12), (i 0), (r 81), (i 16), (i 0), (r 101)]
def o1e : Obj := (Obj.mk (.type (t 3)) none (.cls (ClassData.mk (s 15) [(T 9)] [(r 24), (T 9), (T 10), (T 11), (T 12)] 23 (s 15) true [] [(r 37), (r 49), (r 61), (r 73), (r 93), (r 105)] false none false)) #[(some (r 15)), none, (some (f 15 189)), (some (f 15 197)), (some (bi 13)), (some (.bool true))])
def o1f : Obj := di #[(d 43 303 (f 44 187)), (d 62 305 (f 20 304)), (d 45 307 (j 16 306)), (d 46 308 (r 103))] 4
def o1g : Obj := ob 5 #[(f 20 298), (f 20 299), (f 3 300), (i 16), (i 0), (i 0), (i 0), (i 0), (r 99), (.bool false), (i 181), (r 100), u, u, u, u, (i 301), (i 16), (f 3 302)]
def o1h : Obj := (Obj.mk (.type (t 14)) none .plain #[(some (r 101)), (some (r 3)), (some (r 98)), none, (some (f 44 187)), none, (some (r 0))])
def o1i : Obj := di #[(d 43 303 (f 44 187)), (d 45 307 (j 16 306)), (d 46 308 (r 103)), (d 7 309 .none)] 2
def o1j : Obj := (Obj.mk (.type (t 3)) none (.cls (ClassData.mk (s 20) [(r 24)] [(r 105), (r 24), (T 9), (T 10), (T 11), (T 12)] 104 (s 20) true [] [] false none false)) #[(some (r 96)), none, (some (f 20 296)), (some (f 20 304)), (some (bi 13)), (some (.bool true))])
def o1k : Obj := ob 0 #[(r 105), (r 105), (r 105)]
def o1l : Obj := ob 1 #[(bi 17), (r 105)]
def o1m : Obj := di #[(d 6 165 (f 44 187)), (d 7 166 .none), (d 8 167 .none), (d 9 168 (bi 8)), (d 10 169 .none), (d 11 170 (r 6)), (d 12 171 (r 4)), (d 13 173 (f 3 172)), (d 14 174 .none), (d 15 206 (r 24)), (d 2 222 (r 37)), (d 16 238 (r 49)), (d 17 254 (r 61)), (d 18 270 (r 73)), (d 19 295 (r 93)), (d 20 311 (r 105)), (d 21 327 (r 117))] 17
def o1n : Obj := fd #[(i 2), (i 0), (r 20), (i 4), (i 0), (r 33), (i 6), (i 0), (r 45), (i 8), (i 0), (r 57), (i 10), (i 0), (r 69), (i 12), (i 0), (r 81), (i 16), (i 0), (r 101), (i 18), (i 0), (r 113)]
def o1o : Obj := (Obj.mk (.type (t 3)) none (.cls (ClassData.mk (s 15) [(T 9)] [(r 24), (T 9), (T 10), (T 11), (T 12)] 23 (s 15) true [] [(r 37), (r 49), (r 61), (r 73), (r 93), (r 105), (r 117)] false none false)) #[(some (r 15)), none, (some (f 15 189)), (some (f 15 197)), (some (bi 13)), (some (.bool true))])
def o1p : Obj := di #[(d 43 319 (f 44 187)), (d 62 321 (f 21 320)), (d 45 323 (j 18 322)), (d 46 324 (r 115))] 4
def o1q : Obj := ob 5 #[(f 21 314), (f 21 315), (f 3 316), (i 18), (i 0), (i 0), (i 0), (i 0), (r 111), (.bool false), (i 181), (r 112), u, u, u, u, (i 317), (i 18), (f 3 318)]
def o1r : Obj := (Obj.mk (.type (t 14)) none .plain #[(some (r 113)), (some (r 3)), (some (r 110)), none, (some (f 44 187)), none, (some (r 0))])
def o1s : Obj := di #[(d 43 319 (f 44 187)), (d 45 323 (j 18 322)), (d 46 324 (r 115)), (d 7 325 .none)] 2
def o1t : Obj := (Obj.mk (.type (t 3)) none (.cls (ClassData.mk (s 21) [(r 24)] [(r 117), (r 24), (T 9), (T 10), (T 11), (T 12)] 116 (s 21) true [] [] false none false)) #[(some (r 108)), none, (some (f 21 312)), (some (f 21 320)), (some (bi 13)), (some (.bool true))])
def o1u : Obj := ob 0 #[(r 117), (r 117), (r 117)]
def o1v : Obj := ob 1 #[(bi 17), (r 117)]
def o1w : Obj := di #[(d 6 165 (f 44 187)), (d 7 166 .none), (d 8 167 .none), (d 9 168 (bi 8)), (d 10 169 .none), (d 11 170 (r 6)), (d 12 171 (r 4)), (d 13 173 (f 3 172)), (d 14 174 .none), (d 15 206 (r 24)), (d 2 222 (r 37)), (d 16 238 (r 49)), (d 17 254 (r 61)), (d 18 270 (r 73)), (d 19 295 (r 93)), (d 20 311 (r 105)), (d 21 327 (r 117)), (d 22 352 (r 137))] 18
def o1x : Obj := fd #[(i 2), (i 0), (r 20), (i 4), (i 0), (r 33), (i 6), (i 0), (r 45), (i 8), (i 0), (r 57), (i 10), (i 0), (r 69), (i 12), (i 0), (r 81), (i 16), (i 0), (r 101), (i 18), (i 0), (r 113), (i 20), (i 0), (r 125)]
def o1y : Obj := (Obj.mk (.type (t 3)) none (.cls (ClassData.mk (s 15) [(T 9)] [(r 24), (T 9), (T 10), (T 11), (T 12)] 23 (s 15) true [] [(r 37), (r 49), (r 61), (r 73), (r 93), (r 105), (r 117), (r 137)] false none false)) #[(some (r 15)), none, (some (f 15 189)), (some (f 15 197)), (some (bi 13)), (some (.bool true))])
def o1z : Obj := di #[(d 43 335 (f 44 187)), (d 62 337 (f 22 336)), (d 45 339 (j 20 338)), (d 47 347 (r 134)), (d 46 349 (r 135))] 5
def o1A : Obj := fd #[(i 22), (i 4), (r 133)]
def o1B : Obj := ob 5 #[(f 22 330), (f 22 331), (f 3 332), (i 20), (i 0), (i 0), (i 0), (i 0), (r 123), (.bool false), (i 181), (r 124), u, u, u, u, (i 333), (i 20), (f 3 334)]
def o1C : Obj := (Obj.mk (.type (t 14)) none .plain #[(some (r 125)), (some (r 3)), (some (r 122)), none, (some (f 44 187)), none, (some (r 0))])
def o1D : Obj := sq 4 #[(f 0 343), (f 67 344)]
def o1E : Obj := fn 47 66 (inClass (stm 9) 0)
def o1F : Obj := ob 5 #[(f 47 340), (f 66 341), (f 3 342), (i 22), (i 2), (i 0), (i 0), (i 3), (r 128), (.bool true), (i 181), (r 129), u, (r 130), (r 131), (r 132), (i 345), (i 22), (f 3 346)]
def o1G : Obj := fo 6 47 66 (inClass (stm 9) 0) 3 [] (r 127) .none .none 44 187 133
def o1H : Obj := sq 4 #[(f 67 348)]
def o1I : Obj := di #[(d 43 335 (f 44 187)), (d 45 339 (j 20 338)), (d 47 347 (r 134)), (d 46 349 (r 135)), (d 7 350 .none)] 2
def o1J : Obj := (Obj.mk (.type (t 3)) none (.cls (ClassData.mk (s 22) [(r 24)] [(r 137), (r 24), (T 9), (T 10), (T 11), (T 12)] 136 (s 22) true [] [] false none false)) #[(some (r 120)), none, (some (f 22 328)), (some (f 22 336)), (some (bi 13)), (some (.bool true))])
def o1K : Obj := ob 0 #[(r 137), (r 137), (r 137)]
def o1L : Obj := ob 1 #[(bi 17), (r 137)]
def o1M : Obj := di #[(d 6 165 (f 44 187)), (d 7 166 .none), (d 8 167 .none), (d 9 168 (bi 8)), (d 10 169 .none), (d 11 170 (r 6)), (d 12 171 (r 4)), (d 13 173 (f 3 172)), (d 14 174 .none), (d 15 206 (r 24)), (d 2 222 (r 37)), (d 16 238 (r 49)), (d 17 254 (r 61)), (d 18 270 (r 73)), (d 19 295 (r 93)), (d 20 311 (r 105)), (d 21 327 (r 117)), (d 22 352 (r 137)), (d 23 368 (r 149))] 19
def o1N : Obj := fd #[(i 2), (i 0), (r 20), (i 4), (i 0), (r 33), (i 6), (i 0), (r 45), (i 8), (i 0), (r 57), (i 10), (i 0), (r 69), (i 12), (i 0), (r 81), (i 16), (i 0), (r 101), (i 18), (i 0), (r 113), (i 20), (i 0), (r 125), (i 24), (i 0), (r 145)]
def o1O : Obj := (Obj.mk (.type (t 3)) none (.cls (ClassData.mk (s 15) [(T 9)] [(r 24), (T 9), (T 10), (T 11), (T 12)] 23 (s 15) true [] [(r 37), (r 49), (r 61), (r 73), (r 93), (r 105), (r 117), (r 137), (r 149)] false none false)) #[(some (r 15)), none, (some (f 15 189)), (some (f 15 197)), (some (bi 13)), (some (.bool true))])
def o1P : Obj := di #[(d 43 360 (f 44 187)), (d 62 362 (f 23 361)), (d 45 364 (j 24 363)), (d 46 365 (r 147))] 4
def o1Q : Obj := ob 5 #[(f 23 355), (f 23 356), (f 3 357), (i 24), (i 0), (i 0), (i 0), (i 0), (r 143), (.bool false), (i 181), (r 144), u, u, u, u, (i 358), (i 24), (f 3 359)]
def o1R : Obj := (Obj.mk (.type (t 14)) none .plain #[(some (r 145)), (some (r 3)), (some (r 142)), none, (some (f 44 187)), none, (some (r 0))])
def o1S : Obj := di #[(d 43 360 (f 44 187)), (d 45 364 (j 24 363)), (d 46 365 (r 147)), (d 7 366 .none)] 2
def o1T : Obj := (Obj.mk (.type (t 3)) none (.cls (ClassData.mk (s 23) [(r 24)] [(r 149), (r 24), (T 9), (T 10), (T 11), (T 12)] 148 (s 23) true [] [] false none false)) #[(some (r 140)), none, (some (f 23 353)), (some (f 23 361)), (some (bi 13)), (some (.bool true))])
def o1U : Obj := ob 0 #[(r 149), (r 149), (r 149)]
def o1V : Obj := ob 1 #[(bi 17), (r 149)]
def o1W : Obj := di #[(d 6 165 (f 44 187)), (d 7 166 .none), (d 8 167 .none), (d 9 168 (bi 8)), (d 10 169 .none), (d 11 170 (r 6)), (d 12 171 (r 4)), (d 13 173 (f 3 172)), (d 14 174 .none), (d 15 206 (r 24)), (d 2 222 (r 37)), (d 16 238 (r 49)), (d 17 254 (r 61)), (d 18 270 (r 73)), (d 19 295 (r 93)), (d 20 311 (r 105)), (d 21 327 (r 117)), (d 22 352 (r 137)), (d 23 368 (r 149)), (d 24 384 (r 161))] 20
def o1X : Obj := fd #[(i 2), (i 0), (r 20), (i 4), (i 0), (r 33), (i 6), (i 0), (r 45), (i 8), (i 0), (r 57), (i 10), (i 0), (r 69), (i 12), (i 0), (r 81), (i 16), (i 0), (r 101), (i 18), (i 0), (r 113), (i 20), (i 0), (r 125), (i 24), (i 0), (r 145), (i 26), (i 0), (r 157)]
def o1Y : Obj := (Obj.mk (.type (t 3)) none (.cls (ClassData.mk (s 15) [(T 9)] [(r 24), (T 9), (T 10), (T 11), (T 12)] 23 (s 15) true [] [(r 37), (r 49), (r 61), (r 73), (r 93), (r 105), (r 117), (r 137), (r 149), (r 161)] false none false)) #[(some (r 15)), none, (some (f 15 189)), (some (f 15 197)), (some (bi 13)), (some (.bool true))])
def o1Z : Obj := di #[(d 43 376 (f 44 187)), (d 62 378 (f 24 377)), (d 45 380 (j 26 379)), (d 46 381 (r 159))] 4
def o20 : Obj := ob 5 #[(f 24 371), (f 24 372), (f 3 373), (i 26), (i 0), (i 0), (i 0), (i 0), (r 155), (.bool false), (i 181), (r 156), u, u, u, u, (i 374), (i 26), (f 3 375)]
def o21 : Obj := (Obj.mk (.type (t 14)) none .plain #[(some (r 157)), (some (r 3)), (some (r 154)), none, (some (f 44 187)), none, (some (r 0))])
def o22 : Obj := di #[(d 43 376 (f 44 187)), (d 45 380 (j 26 379)), (d 46 381 (r 159)), (d 7 382 .none)] 2
def o23 : Obj := (Obj.mk (.type (t 3)) none (.cls (ClassData.mk (s 24) [(r 24)] [(r 161), (r 24), (T 9), (T 10), (T 11), (T 12)] 160 (s 24) true [] [] false none false)) #[(some (r 152)), none, (some (f 24 369)), (some (f 24 377)), (some (bi 13)), (some (.bool true))])
def o24 : Obj := ob 0 #[(r 161), (r 161), (r 161)]
def o25 : Obj := ob 1 #[(bi 17), (r 161)]
def o26 : Obj := di #[(d 6 165 (f 44 187)), (d 7 166 .none), (d 8 167 .none), (d 9 168 (bi 8)), (d 10 169 .none), (d 11 170 (r 6)), (d 12 171 (r 4)), (d 13 173 (f 3 172)), (d 14 174 .none), (d 15 206 (r 24)), (d 2 222 (r 37)), (d 16 238 (r 49)), (d 17 254 (r 61)), (d 18 270 (r 73)), (d 19 295 (r 93)), (d 20 311 (r 105)), (d 21 327 (r 117)), (d 22 352 (r 137)), (d 23 368 (r 149)), (d 24 384 (r 161)), (d 25 409 (r 181))] 21
def o27 : Obj := fd #[(i 2), (i 0), (r 20), (i 4), (i 0), (r 33), (i 6), (i 0), (r 45), (i 8), (i 0), (r 57), (i 10), (i 0), (r 69), (i 12), (i 0), (r 81), (i 16), (i 0), (r 101), (i 18), (i 0), (r 113), (i 20), (i 0), (r 125), (i 24), (i 0), (r 145), (i 26), (i 0), (r 157), (i 28), (i 0), (r 169)]
def o28 : Obj := (Obj.mk (.type (t 3)) none (.cls (ClassData.mk (s 15) [(T 9)] [(r 24), (T 9), (T 10), (T 11), (T 12)] 23 (s 15) true [] [(r 37), (r 49), (r 61), (r 73), (r 93), (r 105), (r 117), (r 137), (r 149), (r 161), (r 181)] false none false)) #[(some (r 15)), none, (some (f 15 189)), (some (f 15 197)), (some (bi 13)), (some (.bool true))])
def o29 : Obj := di #[(d 43 392 (f 44 187)), (d 62 394 (f 25 393)), (d 45 396 (j 28 395)), (d 47 404 (r 178)), (d 46 406 (r 179))] 5
def o2a : Obj := fd #[(i 30), (i 4), (r 177)]
def o2b : Obj := ob 5 #[(f 25 387), (f 25 388), (f 3 389), (i 28), (i 0), (i 0), (i 0), (i 0), (r 167), (.bool false), (i 181), (r 168), u, u, u, u, (i 390), (i 28), (f 3 391)]
def o2c : Obj := (Obj.mk (.type (t 14)) none .plain #[(some (r 169)), (some (r 3)), (some (r 166)), none, (some (f 44 187)), none, (some (r 0))])
def o2d : Obj := sq 4 #[(f 0 400), (f 1 401)]
def o2e : Obj := fn 47 49 (inClass (stm 12) 0)
def o2f : Obj := ob 5 #[(f 47 397), (f 49 398), (f 3 399), (i 30), (i 2), (i 0), (i 0), (i 3), (r 172), (.bool true), (i 181), (r 173), u, (r 174), (r 175), (r 176), (i 402), (i 30), (f 3 403)]
def o2g : Obj := fo 6 47 49 (inClass (stm 12) 0) 3 [] (r 171) .none .none 44 187 177
def o2h : Obj := sq 4 #[(f 1 405)]
def o2i : Obj := di #[(d 43 392 (f 44 187)), (d 45 396 (j 28 395)), (d 47 404 (r 178)), (d 46 406 (r 179)), (d 7 407 .none)] 2
def o2j : Obj := (Obj.mk (.type (t 3)) none (.cls (ClassData.mk (s 25) [(r 24)] [(r 181), (r 24), (T 9), (T 10), (T 11), (T 12)] 180 (s 25) true [] [] false none false)) #[(some (r 164)), none, (some (f 25 385)), (some (f 25 393)), (some (bi 13)), (some (.bool true))])
def o2k : Obj := ob 0 #[(r 181), (r 181), (r 181)]
def o2l : Obj := ob 1 #[(bi 17), (r 181)]
def o2m : Obj := di #[(d 6 165 (f 59 465)), (d 7 166 .none), (d 8 167 .none), (d 9 168 (bi 8)), (d 10 169 .none), (d 11 170 (r 6)), (d 12 171 (r 4)), (d 13 173 (f 3 172)), (d 14 174 .none), (d 15 206 (r 24)), (d 2 222 (r 37)), (d 16 238 (r 49)), (d 17 254 (r 61)), (d 18 270 (r 73)), (d 19 295 (r 93)), (d 20 311 (r 105)), (d 21 327 (r 117)), (d 22 352 (r 137)), (d 23 368 (r 149)), (d 24 384 (r 161)), (d 25 409 (r 181)), (d 26 435 (r 201)), (d 27 444 (r 210)), (d 28 452 (r 217)), (d 29 456 (f 30 455)), (d 31 458 (j 8 457)), (d 32 464 (r 222))] 27
def o2n : Obj := fd #[(i 2), (i 0), (r 20), (i 4), (i 0), (r 33), (i 6), (i 0), (r 45), (i 8), (i 0), (r 57), (i 10), (i 0), (r 69), (i 12), (i 0), (r 81), (i 16), (i 0), (r 101), (i 18), (i 0), (r 113), (i 20), (i 0), (r 125), (i 24), (i 0), (r 145), (i 26), (i 0), (r 157), (i 28), (i 0), (r 169), (i 32), (i 0), (r 189), (i 37), (i 0), (r 209), (i 39), (i 0), (r 216), (i 44), (i 0), (r 221)]
def o2o : Obj := (Obj.mk (.type (t 3)) none (.cls (ClassData.mk (s 15) [(T 9)] [(r 24), (T 9), (T 10), (T 11), (T 12)] 23 (s 15) true [] [(r 37), (r 49), (r 61), (r 73), (r 93), (r 105), (r 117), (r 137), (r 149), (r 161), (r 181), (r 201)] false none false)) #[(some (r 15)), none, (some (f 15 189)), (some (f 15 197)), (some (bi 13)), (some (.bool true))])
def o2p : Obj := di #[(d 43 417 (f 44 187)), (d 62 419 (f 26 418)), (d 45 421 (j 32 420)), (d 47 430 (r 198)), (d 46 432 (r 199))] 5
def o2q : Obj := fd #[(i 34), (i 4), (r 197)]
def o2r : Obj := ob 5 #[(f 26 412), (f 26 413), (f 3 414), (i 32), (i 0), (i 0), (i 0), (i 0), (r 187), (.bool false), (i 181), (r 188), u, u, u, u, (i 415), (i 32), (f 3 416)]
def o2s : Obj := (Obj.mk (.type (t 14)) none .plain #[(some (r 189)), (some (r 3)), (some (r 186)), none, (some (f 44 187)), none, (some (r 0))])
def o2t : Obj := sq 4 #[(j 0 422)]
def o2u : Obj := sq 4 #[(f 0 426), (f 1 427)]
def o2v : Obj := fn 47 48 (inClass (stm 13) 0)
def o2w : Obj := ob 5 #[(f 47 423), (f 48 424), (f 3 425), (i 34), (i 2), (i 0), (i 0), (i 3), (r 192), (.bool true), (i 181), (r 193), u, (r 194), (r 195), (r 196), (i 428), (i 34), (f 3 429)]
def o2x : Obj := fo 6 47 48 (inClass (stm 13) 0) 3 [] (r 191) .none .none 44 187 197
def o2y : Obj := sq 4 #[(f 1 431)]
def o2z : Obj := di #[(d 43 417 (f 44 187)), (d 45 421 (j 32 420)), (d 47 430 (r 198)), (d 46 432 (r 199)), (d 7 433 .none)] 2
def o2A : Obj := (Obj.mk (.type (t 3)) none (.cls (ClassData.mk (s 26) [(r 24)] [(r 201), (r 24), (T 9), (T 10), (T 11), (T 12)] 200 (s 26) true [] [] false none false)) #[(some (r 184)), none, (some (f 26 410)), (some (f 26 418)), (some (bi 13)), (some (.bool true))])
def o2B : Obj := ob 0 #[(r 201), (r 201), (r 201)]
def o2C : Obj := ob 1 #[(bi 17), (r 201)]
def o2D : Obj := sq 4 #[(f 68 441)]
def o2E : Obj := fn 27 27 (stm 15)
def o2F : Obj := ob 5 #[(f 27 438), (f 27 439), (f 3 440), (i 37), (i 1), (i 0), (i 0), (i 3), (r 204), (.bool true), (i 181), (r 205), u, (r 206), (r 207), (r 208), (i 442), (i 37), (f 3 443)]
def o2G : Obj := fo 6 27 27 (stm 15) 3 [] .none .none .none 63 436 209
def o2H : Obj := sq 4 #[(f 68 448), (f 70 449)]
def o2I : Obj := fn 28 28 (stm 16)
def o2J : Obj := ob 5 #[(f 28 445), (f 28 446), (f 3 447), (i 39), (i 2), (i 0), (i 0), (i 3), (r 211), (.bool true), (i 181), (r 212), u, (r 213), (r 214), (r 215), (i 450), (i 39), (f 3 451)]
def o2K : Obj := fo 6 28 28 (stm 16) 3 [] .none .none .none 63 436 216
def o2L : Obj := fn 32 32 (stm 20)
def o2M : Obj := ob 5 #[(f 32 459), (f 32 460), (f 3 461), (i 44), (i 1), (i 0), (i 0), (i 3), (r 218), (.bool true), (i 181), (r 219), u, u, u, (r 220), (i 462), (i 44), (f 3 463)]
def o2N : Obj := fo 6 32 32 (stm 20) 3 [] .none .none .none 79 453 221
def o2O : Obj := di #[(d 6 165 (f 5 501)), (d 7 166 .none), (d 8 167 .none), (d 9 168 (bi 8)), (d 10 169 .none), (d 11 170 (r 6)), (d 12 171 (r 4)), (d 13 173 (f 3 172)), (d 14 174 .none), (d 15 206 (r 24)), (d 2 222 (r 37)), (d 16 238 (r 49)), (d 17 254 (r 61)), (d 18 270 (r 73)), (d 19 295 (r 93)), (d 20 311 (r 105)), (d 21 327 (r 117)), (d 22 352 (r 137)), (d 23 368 (r 149)), (d 24 384 (r 161)), (d 25 409 (r 181)), (d 26 435 (r 201)), (d 27 444 (r 210)), (d 28 452 (r 217)), (d 29 456 (f 30 455)), (d 31 458 (j 8 457)), (d 32 464 (r 222)), (d 33 500 (r 240)), (d 34 510 (r 251)), (d 4 519 (r 258)), (d 35 526 (r 265)), (d 36 536 (r 272)), (d 37 543 (r 279))] 33
def o2P : Obj := fd #[(i 2), (i 0), (r 20), (i 4), (i 0), (r 33), (i 6), (i 0), (r 45), (i 8), (i 0), (r 57), (i 10), (i 0), (r 69), (i 12), (i 0), (r 81), (i 16), (i 0), (r 101), (i 18), (i 0), (r 113), (i 20), (i 0), (r 125), (i 24), (i 0), (r 145), (i 26), (i 0), (r 157), (i 28), (i 0), (r 169), (i 32), (i 0), (r 189), (i 37), (i 0), (r 209), (i 39), (i 0), (r 216), (i 44), (i 0), (r 221), (i 49), (i 0), (r 228), (i 58), (i 0), (r 250), (i 62), (i 0), (r 257), (i 66), (i 0), (r 264), (i 68), (i 0), (r 271), (i 78), (i 0), (r 278)]
def o2Q : Obj := di #[(d 43 474 (f 59 465)), (d 62 476 (f 33 475)), (d 45 478 (j 49 477)), (d 47 489 (r 237)), (d 46 493 (r 238))] 5
def o2R : Obj := fd #[(i 51), (i 4), (r 236)]
def o2S : Obj := ob 5 #[(f 33 469), (f 33 470), (f 3 471), (i 49), (i 0), (i 0), (i 0), (i 0), (r 226), (.bool false), (i 181), (r 227), u, u, u, u, (i 472), (i 49), (f 3 473)]
def o2T : Obj := (Obj.mk (.type (t 14)) none .plain #[(some (r 228)), (some (r 3)), (some (r 225)), none, (some (f 59 465)), none, (some (r 0))])
def o2U : Obj := sq 4 #[(j 0 479), (.bool false)]
def o2V : Obj := sq 4 #[(f 0 483), (f 50 484), (f 51 485), (f 52 486)]
def o2W : Obj := fn 47 78 (inClass (stm 22) 0)
def o2X : Obj := ob 5 #[(f 47 480), (f 78 481), (f 3 482), (i 51), (i 4), (i 0), (i 0), (i 3), (r 231), (.bool true), (i 181), (r 232), u, (r 233), (r 234), (r 235), (i 487), (i 51), (f 3 488)]
def o2Y : Obj := fo 6 47 78 (inClass (stm 22) 0) 3 [] (r 230) .none .none 59 465 236
def o2Z : Obj := sq 4 #[(f 52 490), (f 50 491), (f 51 492)]
def o30 : Obj := di #[(d 43 474 (f 59 465)), (d 45 478 (j 49 477)), (d 47 489 (r 237)), (d 46 493 (r 238)), (d 60 495 (r 241)), (d 61 497 (r 242)), (d 7 498 .none)] 4
def o31 : Obj := (Obj.mk (.type (t 3)) none (.cls (ClassData.mk (s 33) [(T 12)] [(r 240), (T 12)] 239 (s 33) true [] [] false none false)) #[none, none, (some (f 33 467)), (some (f 33 475)), (some (bi 20)), (some (.bool true))])
def o32 : Obj := ob 15 #[(f 60 494), (r 240), (bi 18), (bi 19)]
def o33 : Obj := ob 15 #[(f 61 496), (r 240), (bi 16), u]
def o34 : Obj := ob 0 #[(r 240), (r 240), (r 240)]
def o35 : Obj := ob 1 #[(bi 17), (r 240)]
def o36 : Obj := sq 4 #[(f 71 506), (f 80 507)]
def o37 : Obj := fn 34 34 (stm 24)
def o38 : Obj := ob 5 #[(f 34 503), (f 34 504), (f 3 505), (i 58), (i 2), (i 0), (i 0), (i 3), (r 245), (.bool true), (i 181), (r 246), u, (r 247), (r 248), (r 249), (i 508), (i 58), (f 3 509)]
def o39 : Obj := fo 6 34 34 (stm 24) 3 [] .none .none .none 5 501 250
def o3a : Obj := sq 4 #[(f 64 514), (f 80 515), (f 81 516)]
def o3b : Obj := fn 4 4 (stm 25)
def o3c : Obj := ob 5 #[(f 4 511), (f 4 512), (f 3 513), (i 62), (i 2), (i 0), (i 0), (i 3), (r 252), (.bool true), (i 181), (r 253), u, (r 254), (r 255), (r 256), (i 517), (i 62), (f 3 518)]
def o3d : Obj := fo 6 4 4 (stm 25) 3 [] .none .none .none 5 501 257
def o3e : Obj := sq 4 #[(f 64 523)]
def o3f : Obj := fn 35 35 (stm 26)
def o3g : Obj := ob 5 #[(f 35 520), (f 35 521), (f 3 522), (i 66), (i 1), (i 0), (i 0), (i 3), (r 259), (.bool true), (i 181), (r 260), u, (r 261), (r 262), (r 263), (i 524), (i 66), (f 3 525)]
def o3h : Obj := fo 6 35 35 (stm 26) 3 [] .none .none .none 5 501 264
def o3i : Obj := sq 4 #[(f 73 530), (f 74 531), (f 56 532), (f 75 533)]
def o3j : Obj := fn 36 36 (stm 27)
def o3k : Obj := ob 5 #[(f 36 527), (f 36 528), (f 3 529), (i 68), (i 2), (i 0), (i 0), (i 3), (r 266), (.bool true), (i 181), (r 267), u, (r 268), (r 269), (r 270), (i 534), (i 68), (f 3 535)]
def o3l : Obj := fo 6 36 36 (stm 27) 3 [] .none .none .none 5 501 271
def o3m : Obj := sq 4 #[(f 56 540)]
def o3n : Obj := fn 37 37 (stm 28)
def o3o : Obj := ob 5 #[(f 37 537), (f 37 538), (f 3 539), (i 78), (i 1), (i 0), (i 0), (i 3), (r 273), (.bool true), (i 181), (r 274), u, (r 275), (r 276), (r 277), (i 541), (i 78), (f 3 542)]
def o3p : Obj := fo 6 37 37 (stm 28) 3 [] .none .none .none 5 501 278
def o3q : Obj := di #[(d 6 165 (f 5 501)), (d 7 166 .none), (d 8 167 .none), (d 9 168 (bi 8)), (d 10 169 .none), (d 11 170 (r 6)), (d 12 171 (r 4)), (d 13 173 (f 3 172)), (d 14 174 .none), (d 15 206 (r 24)), (d 2 222 (r 37)), (d 16 238 (r 49)), (d 17 254 (r 61)), (d 18 270 (r 73)), (d 19 295 (r 93)), (d 20 311 (r 105)), (d 21 327 (r 117)), (d 22 352 (r 137)), (d 23 368 (r 149)), (d 24 384 (r 161)), (d 25 409 (r 181)), (d 26 435 (r 201)), (d 27 444 (r 210)), (d 28 452 (r 217)), (d 29 456 (f 30 455)), (d 31 458 (j 8 457)), (d 32 464 (r 222)), (d 33 500 (r 240)), (d 34 510 (r 251)), (d 4 519 (r 258)), (d 35 526 (r 265)), (d 36 536 (r 272)), (d 37 543 (r 279)), (d 38 549 (r 284)), (d 39 559 (r 291)), (d 40 571 (r 298)), (d 41 582 (r 305)), (d 42 590 (r 312))] 38
def o3r : Obj := fd #[(i 2), (i 0), (r 20), (i 4), (i 0), (r 33), (i 6), (i 0), (r 45), (i 8), (i 0), (r 57), (i 10), (i 0), (r 69), (i 12), (i 0), (r 81), (i 16), (i 0), (r 101), (i 18), (i 0), (r 113), (i 20), (i 0), (r 125), (i 24), (i 0), (r 145), (i 26), (i 0), (r 157), (i 28), (i 0), (r 169), (i 32), (i 0), (r 189), (i 37), (i 0), (r 209), (i 39), (i 0), (r 216), (i 44), (i 0), (r 221), (i 49), (i 0), (r 228), (i 58), (i 0), (r 250), (i 62), (i 0), (r 257), (i 66), (i 0), (r 264), (i 68), (i 0), (r 271), (i 78), (i 0), (r 278), (i 80), (i 0), (r 283), (i 91), (i 0), (r 290), (i 95), (i 0), (r 297), (i 104), (i 0), (r 304), (i 120), (i 0), (r 311)]
def o3s : Obj := fn 38 38 (stm 29)
def o3t : Obj := ob 5 #[(f 38 544), (f 38 545), (f 3 546), (i 80), (i 2), (i 0), (i 0), (i 3), (r 280), (.bool true), (i 181), (r 281), u, u, u, (r 282), (i 547), (i 80), (f 3 548)]
def o3u : Obj := fo 6 38 38 (stm 29) 3 [] .none .none .none 5 501 283
def o3v : Obj := sq 4 #[(f 82 553), (f 53 554), (f 54 555), (f 55 556)]
def o3w : Obj := fn 39 39 (stm 30)
def o3x : Obj := ob 5 #[(f 39 550), (f 39 551), (f 3 552), (i 91), (i 4), (i 0), (i 0), (i 3), (r 285), (.bool true), (i 181), (r 286), u, (r 287), (r 288), (r 289), (i 557), (i 91), (f 3 558)]
def o3y : Obj := fo 6 39 39 (stm 30) 3 [] .none .none .none 5 501 290
def o3z : Obj := sq 4 #[(f 53 563), (f 54 564), (f 55 565), (f 56 566), (f 57 567), (f 58 568)]
def o3A : Obj := fn 40 40 (stm 31)
def o3B : Obj := ob 5 #[(f 40 560), (f 40 561), (f 3 562), (i 95), (i 3), (i 0), (i 0), (i 3), (r 292), (.bool true), (i 181), (r 293), u, (r 294), (r 295), (r 296), (i 569), (i 95), (f 3 570)]
def o3C : Obj := fo 6 40 40 (stm 31) 3 [] .none .none .none 5 501 297
def o3D : Obj := sq 4 #[(f 73 575), (f 53 576), (f 54 577), (f 55 578), (f 76 579)]
def o3E : Obj := fn 41 41 (stm 32)
def o3F : Obj := ob 5 #[(f 41 572), (f 41 573), (f 3 574), (i 104), (i 1), (i 0), (i 0), (i 3), (r 299), (.bool true), (i 181), (r 300), u, (r 301), (r 302), (r 303), (i 580), (i 104), (f 3 581)]
def o3G : Obj := fo 6 41 41 (stm 32) 3 [] .none .none .none 5 501 304
def o3H : Obj := sq 4 #[(f 71 586), (f 64 587)]
def o3I : Obj := fn 42 42 (stm 33)
def o3J : Obj := ob 5 #[(f 42 583), (f 42 584), (f 3 585), (i 120), (i 1), (i 0), (i 0), (i 3), (r 306), (.bool true), (i 181), (r 307), u, (r 308), (r 309), (r 310), (i 588), (i 120), (f 3 589)]
def o3K : Obj := fo 6 42 42 (stm 33) 3 [] .none .none .none 5 501 311
def o3L : Obj := (Obj.mk .none none (.dict #[] 0) #[])
def b0 : Obj := boot_o_0 c.P
def b1 : Obj := boot_o_1 c.P
def b2 : Obj := boot_o_2 c.P
def b3 : Obj := boot_o_3 c.P
def b4 : Obj := boot_o_4 c.P
def b5 : Obj := boot_o_5 c.P
def b6 : Obj := boot_o_6 c.P
def b7 : Obj := boot_o_7 c.P
def b8 : Obj := boot_o_8 c.P
def b9 : Obj := boot_o_9 c.P
def b10 : Obj := boot_o_10 c.P
def q00 : BT := (N o12 (N o00 L L) L)
def q01 : BT := (N o0K q00 (N o2t L L))
def q02 : BT := (N o00 (N o00 (N o3k L L) L) (N o00 L L))
def q03 : BT := (N o00 (N o1H (N o3f L L) L) (N o2y L L))
def q04 : BT := (N o00 (N o00 L L) (N o00 L L))
def q05 : BT := (N o00 (N o1V (N o3p L L) L) (N o2I L L))
def q06 : BT := (N o00 (N o00 L L) L)
def q07 : BT := (N o00 q06 (N o00 L L))
def q08 : BT := (N o12 (N o00 (N o3m L L) L) (N o00 L L))
def q09 : BT := (N o0U (N o1L (N o01 L L) L) (N o2C L L))
def q0a : BT := (N o17 (N o00 L L) (N o01 L L))
def q0b : BT := (N o00 (N o00 L L) (N o39 L L))
def q0c : BT := (N o07 (N o01 (N o3c L L) L) (N o01 L L))
def q0d : BT := (N o10 (N o1Q (N o00 L L) L) (N o2F L L))
def q0e : BT := (N o0S (N o1J (N o3h L L) L) (N o2A L L))
def q0f : BT := (N o15 (N o07 L L) (N o2K L L))
def q0g : BT := (N o07 (N o07 L L) (N o37 L L))
def q0h : BT := (N o0P (N o1F (N o3e L L) L) (N o2w L L))
def q0i : BT := (N o01 (N o1T (N o3n L L) L) (N o2H L L))
def q0j : BT := (N o07 (N o07 (N o00 L L) L) (N o01 L L))
def q0k : BT := (N o19 (N o20 L L) (N o2M L L))
def q0l : BT := (N o1B (N o2r L L) (N o01 L L))
def q0m : BT := (N o0j (N o00 (N o3b L L) L) (N o00 L L))
def q0n : BT := (N o0Z (N o01 (N o3l L L) L) (N o2E L L))
def q0o : BT := (N o0R (N o1I (N o3g L L) L) (N o2z L L))
def q0p : BT := (N o14 (N o0j L L) (N o2J L L))
def q0q : BT := (N o0j (N o0j L L) (N o00 L L))
def q0r : BT := (N o01 (N o1E (N o01 L L) L) (N o2v L L))
def q0s : BT := (N o00 (N o1S (N o00 L L) L) (N o01 L L))
def q0t : BT := (N o0j (N o0j (N o3i L L) L) (N o00 L L))
def q0u : BT := (N o18 (N o01 L L) (N o2L L L))
def q0v : BT := (N o1A (N o2q L L) (N o00 L L))
def q0w : BT := (N o0O (N o1D (N o3d L L) L) (N o2u L L))
def q0x : BT := (N o11 (N o1R (N o01 L L) L) (N o2G L L))
def q0y : BT := (N o0T (N o1K (N o00 L L) L) (N o2B L L))
def q0z : BT := (N o16 (N o1Z L L) (N o00 L L))
def q0A : BT := (N o1z (N o2p L L) (N o38 L L))
def q0B : BT := (N o0Q (N o1G (N o00 L L) L) (N o2x L L))
def q0C : BT := (N o13 (N o1U (N o3o L L) L) (N o00 L L))
def q0D : BT := (N o0Y (N o1P (N o3j L L) L) (N o2D L L))
def q0E : BT := (N o1a (N o21 L L) (N o2N L L))
def q0F : BT := (N o1C (N o2s L L) (N o3a L L))
def tree_353_ : BT := (N b0 (N b1 (N o2O (N b7 (N o06 (N o00 q01 (N o1b (N o00 L L) (N o00 L L))) (N o00 q02 (N o00 (N o00 L L) (N o30 L L)))) (N o0b (N o0q q03 q04) (N o00 q05 (N o1v (N o2l L L) (N o36 L L))))) (N o00 (N o01 (N o00 q07 (N o00 (N o25 L L) (N o2R L L))) (N o0A q08 (N o00 (N o2h L L) (N o34 L L)))) (N o0f (N o00 q09 (N o1l (N o12 L L) (N o2W L L))) (N o00 q0a q0b)))) (N b5 (N b9 (N o08 (N o0l q0c (N o07 (N o23 L L) (N o2Q L L))) (N o0y q0d (N o1q (N o2f L L) (N o32 L L)))) (N o0d (N o07 q0e (N o1j (N o2b L L) (N o2V L L))) (N o0F q0f q0g))) (N o02 (N o0a (N o0o q0h (N o1g (N o07 L L) (N o2T L L))) (N o07 q0i (N o1t (N o2j L L) (N o00 L L)))) (N o07 (N o0v q0j (N o07 (N o01 L L) (N o2Y L L))) (N o0I q0k q0l))))) (N b2 (N b4 (N b8 (N o07 (N o01 q0m (N o0j (N o22 L L) (N o07 L L))) (N o0x q0n (N o01 (N o2e L L) (N o31 L L)))) (N o2o (N o0j q0o (N o1i (N o2a L L) (N o01 L L))) (N o01 q0p q0q))) (N o2P (N o09 (N o0n q0r (N o01 (N o0j L L) (N o2S L L))) (N o0j q0s (N o1s (N o2i L L) (N o35 L L)))) (N o0j (N o01 q0t (N o0j (N o00 L L) (N o2X L L))) (N o0H q0u q0v)))) (N b6 (N b10 (N o00 (N o0m q0w (N o1f (N o24 L L) (N o00 L L))) (N o0z q0x (N o1r (N o2g L L) (N o33 L L)))) (N o0e (N o0u q0y (N o1k (N o2c L L) (N o00 L L))) (N o0G q0z q0A))) (N o03 (N o00 (N o0p q0B (N o1h (N o29 L L) (N o2U L L))) (N o0E q0C (N o1u (N o2k L L) (N o01 L L)))) (N o0k (N o0w q0D (N o1p (N o2d L L) (N o2Z L L))) (N o0J q0E q0F))))))
def q0G : BT := (N o06 (N o00 (N o0K L L) L) (N o00 L L))
def q0H : BT := (N o0q (N o00 L L) L)
def q0I : BT := (N o00 (N o0U L L) L)
def q0J : BT := (N o0l (N o07 L L) L)
def q0K : BT := (N o07 (N o0S L L) L)
def q0L : BT := (N o0o (N o0P L L) L)
def q0M : BT := (N o07 (N o0v L L) (N o0I L L))
def q0N : BT := (N o01 (N o0j L L) L)
def q0O : BT := (N o0j (N o0R L L) L)
def q0P : BT := (N o0n (N o01 L L) L)
def q0Q : BT := (N o0j (N o01 L L) (N o0H L L))
def q0R : BT := (N o0m (N o0O L L) L)
def q0S : BT := (N o0u (N o0T L L) L)
def q0T : BT := (N o0p (N o0Q L L) L)
def q0U : BT := (N o0k (N o0w L L) (N o0J L L))
def tree_123_ : BT := (N b0 (N b1 (N o0L (N b7 q0G (N o0b q0H (N o00 L L))) (N o00 (N o01 q06 (N o0A L L)) (N o0f q0I (N o00 L L)))) (N b5 (N b9 (N o08 q0J (N o0y L L)) (N o0d q0K (N o0F L L))) (N o02 (N o0a q0L (N o07 L L)) q0M))) (N b2 (N b4 (N b8 (N o07 q0N (N o0x L L)) (N o0N q0O (N o01 L L))) (N o0M (N o09 q0P (N o0j L L)) q0Q)) (N b6 (N b10 (N o00 q0R (N o0z L L)) (N o0e q0S (N o0G L L))) (N o03 (N o00 q0T (N o0E L L)) q0U))))
def q0V : BT := (N o0b (N o0q L L) L)
def q0W : BT := (N o0a (N o0o L L) L)
def q0X : BT := (N o07 (N o01 L L) L)
def q0Y : BT := (N o09 (N o0n L L) L)
def q0Z : BT := (N o00 (N o0p L L) L)
def tree_78_ : BT := (N b0 (N b1 (N o0g (N b7 (N o06 (N o00 L L) L) q0V) (N o00 (N o01 (N o00 L L) L) (N o0f L L))) (N b5 (N b9 (N o08 (N o0l L L) L) (N o0d L L)) (N o02 q0W (N o07 L L)))) (N b2 (N b4 (N b8 q0X (N o0i L L)) (N o0h q0Y (N o0j L L))) (N b6 (N b10 (N o00 (N o0m L L) L) (N o0e L L)) (N o03 q0Z (N o0k L L)))))
def heap_39_ : Frag := [(2, o3L), (3, o3q), (15, o06), (22, o00), (23, o0b), (24, o2o), (25, o0d), (28, o0j), (35, o00), (36, o0n), (37, o0o), (40, o0j), (47, o00), (48, o0x), (49, o0y), (52, o0j), (59, o00), (60, o0H), (61, o0I), (64, o0j), (71, o00), (72, o0R), (73, o0S), (76, o0j), (83, o12), (84, o00), (86, o13), (87, o00), (89, o15), (90, o16), (91, o17), (92, o18), (93, o19), (96, o0j), (103, o00), (104, o1i), (105, o1j), (108, o0j), (115, o00), (116, o1s), (117, o1t), (120, o0j), (127, o12), (128, o00), (130, o1D), (131, o00), (133, o1F), (134, o1G), (135, o1H), (136, o1I), (137, o1J), (140, o0j), (147, o00), (148, o1S), (149, o1T), (152, o0j), (159, o00), (160, o22), (161, o23), (164, o0j), (171, o12), (172, o00), (174, o2d), (175, o00), (177, o2f), (178, o2g), (179, o2h), (180, o2i), (181, o2j), (184, o0j), (191, o2t), (192, o00), (194, o2u), (195, o00), (197, o2w), (198, o2x), (199, o2y), (200, o2z), (201, o2A), (204, o00), (206, o2D), (207, o00), (209, o2F), (210, o2G), (211, o00), (213, o2H), (214, o00), (216, o2J), (217, o2K), (218, o00), (221, o2M), (222, o2N), (230, o2U), (231, o00), (233, o2V), (234, o00), (236, o2X), (237, o2Y), (238, o2Z), (239, o30), (240, o31), (241, o32), (242, o33), (245, o00), (247, o36), (248, o00), (250, o38), (251, o39), (252, o00), (254, o3a), (255, o00), (257, o3c), (258, o3d), (259, o00), (261, o3e), (262, o00), (264, o3g), (265, o3h), (266, o00), (268, o3i), (269, o00), (271, o3k), (272, o3l), (273, o00), (275, o3m), (276, o00), (278, o3o), (279, o3p), (280, o00), (283, o3t), (284, o3u), (285, o00), (287, o3v), (288, o00), (290, o3x), (291, o3y), (292, o00), (294, o3z), (295, o00), (297, o3B), (298, o3C), (299, o00), (301, o3D), (302, o00), (304, o3F), (305, o3G), (306, o00), (308, o3H), (309, o00), (311, o3J), (312, o3K)]
def tree_63_ : BT := (N b0 (N b1 (N o04 (N b7 (N o06 L L) (N o0b L L)) (N o00 (N o01 L L) (N o0f L L))) (N b5 (N b9 (N o08 L L) (N o0d L L)) (N o02 (N o0a L L) L))) (N b2 (N b4 (N b8 (N o07 L L) (N o0c L L)) (N o05 (N o09 L L) L)) (N b6 (N b10 (N o00 L L) (N o0e L L)) (N o03 (N o00 L L) L))))
def q10 : BT := (N o0K (N o12 L L) L)
def q11 : BT := (N o00 q10 (N o1b L L))
def q12 : BT := (N o00 (N o1H L L) L)
def q13 : BT := (N o0q q12 (N o00 L L))
def q14 : BT := (N o00 (N o1V L L) L)
def q15 : BT := (N o0b q13 (N o00 q14 (N o1v L L)))
def q16 : BT := (N o0A q00 (N o00 L L))
def q17 : BT := (N o0U (N o1L L L) L)
def q18 : BT := (N o00 q17 (N o1l L L))
def q19 : BT := (N o0f q18 (N o00 (N o17 L L) (N o00 L L)))
def q1a : BT := (N o0l q0X (N o07 L L))
def q1b : BT := (N o10 (N o1Q L L) L)
def q1c : BT := (N o0y q1b (N o1q L L))
def q1d : BT := (N o0S (N o1J L L) L)
def q1e : BT := (N o07 q1d (N o1j L L))
def q1f : BT := (N o0d q1e (N o0F (N o15 L L) (N o07 L L)))
def q1g : BT := (N o0P (N o1F L L) L)
def q1h : BT := (N o0o q1g (N o1g L L))
def q1i : BT := (N o01 (N o1T L L) L)
def q1j : BT := (N o0a q1h (N o07 q1i (N o1t L L)))
def q1k : BT := (N o07 (N o07 L L) L)
def q1l : BT := (N o0v q1k (N o07 L L))
def q1m : BT := (N o0I (N o19 L L) (N o1B L L))
def q1n : BT := (N o0j (N o00 L L) L)
def q1o : BT := (N o01 q1n (N o0j L L))
def q1p : BT := (N o0Z (N o01 L L) L)
def q1q : BT := (N o0x q1p (N o01 L L))
def q1r : BT := (N o0R (N o1I L L) L)
def q1s : BT := (N o0j q1r (N o1i L L))
def q1t : BT := (N o01 (N o14 L L) (N o0j L L))
def q1u : BT := (N o01 (N o1E L L) L)
def q1v : BT := (N o0n q1u (N o01 L L))
def q1w : BT := (N o00 (N o1S L L) L)
def q1x : BT := (N o09 q1v (N o0j q1w (N o1s L L)))
def q1y : BT := (N o0j (N o0j L L) L)
def q1z : BT := (N o01 q1y (N o0j L L))
def q1A : BT := (N o0H (N o18 L L) (N o1A L L))
def q1B : BT := (N o0O (N o1D L L) L)
def q1C : BT := (N o0m q1B (N o1f L L))
def q1D : BT := (N o11 (N o1R L L) L)
def q1E : BT := (N o0z q1D (N o1r L L))
def q1F : BT := (N o0T (N o1K L L) L)
def q1G : BT := (N o0u q1F (N o1k L L))
def q1H : BT := (N o0e q1G (N o0G (N o16 L L) (N o1z L L)))
def q1I : BT := (N o0Q (N o1G L L) L)
def q1J : BT := (N o0p q1I (N o1h L L))
def q1K : BT := (N o13 (N o1U L L) L)
def q1L : BT := (N o00 q1J (N o0E q1K (N o1u L L)))
def q1M : BT := (N o0Y (N o1P L L) L)
def q1N : BT := (N o0w q1M (N o1p L L))
def q1O : BT := (N o0J (N o1a L L) (N o1C L L))
def tree_214_ : BT := (N b0 (N b1 (N o1M (N b7 (N o06 q11 q07) q15) (N o00 (N o01 q07 q16) q19)) (N b5 (N b9 (N o08 q1a q1c) q1f) (N o02 q1j (N o07 q1l q1m)))) (N b2 (N b4 (N b8 (N o07 q1o q1q) (N o1O q1s q1t)) (N o1N q1x (N o0j q1z q1A))) (N b6 (N b10 (N o00 q1C q1E) q1H) (N o03 q1L (N o0k q1N q1O)))))
def q1P : BT := (N o01 (N o00 L L) (N o0A L L))
def q1Q : BT := (N o08 (N o0l L L) (N o0y L L))
def q1R : BT := (N o07 (N o01 L L) (N o0x L L))
def q1S : BT := (N o00 (N o0m L L) (N o0z L L))
def tree_93_ : BT := (N b0 (N b1 (N o0r (N b7 (N o06 (N o00 L L) (N o00 L L)) q0V) (N o00 q1P (N o0f (N o00 L L) L))) (N b5 (N b9 q1Q (N o0d (N o07 L L) L)) (N o02 q0W (N o07 (N o0v L L) L)))) (N b2 (N b4 (N b8 q1R (N o0t (N o0j L L) L)) (N o0s q0Y (N o0j (N o01 L L) L))) (N b6 (N b10 q1S (N o0e (N o0u L L) L)) (N o03 q0Z (N o0k (N o0w L L) L)))))
def q1T : BT := (N o1b (N o00 L L) L)
def q1U : BT := (N o00 (N o25 L L) L)
def q1V : BT := (N o00 (N o17 (N o00 L L) L) (N o00 L L))
def q1W : BT := (N o07 (N o23 L L) L)
def q1X : BT := (N o0F (N o15 (N o07 L L) L) (N o07 L L))
def q1Y : BT := (N o0I (N o19 (N o20 L L) L) (N o1B L L))
def q1Z : BT := (N o0j (N o22 L L) L)
def q20 : BT := (N o01 (N o14 (N o0j L L) L) (N o0j L L))
def q21 : BT := (N o0H (N o18 (N o01 L L) L) (N o1A L L))
def q22 : BT := (N o1f (N o24 L L) L)
def q23 : BT := (N o0G (N o16 (N o1Z L L) L) (N o1z L L))
def q24 : BT := (N o0J (N o1a (N o21 L L) L) (N o1C L L))
def tree_229_ : BT := (N b0 (N b1 (N o1W (N b7 (N o06 (N o00 q10 q1T) q07) q15) (N o00 (N o01 (N o00 q06 q1U) q16) (N o0f q18 q1V))) (N b5 (N b9 (N o08 (N o0l q0X q1W) q1c) (N o0d q1e q1X)) (N o02 q1j (N o07 q1l q1Y)))) (N b2 (N b4 (N b8 (N o07 (N o01 q1n q1Z) q1q) (N o1Y q1s q20)) (N o1X q1x (N o0j q1z q21))) (N b6 (N b10 (N o00 (N o0m q1B q22) q1E) (N o0e q1G q23)) (N o03 q1L (N o0k q1N q24)))))
def q25 : BT := (N o00 (N o0K L L) (N o1b L L))
def q26 : BT := (N o0q (N o00 L L) (N o00 L L))
def q27 : BT := (N o0A (N o12 L L) L)
def q28 : BT := (N o00 (N o17 L L) L)
def q29 : BT := (N o0f (N o00 (N o0U L L) (N o1l L L)) q28)
def q2a : BT := (N o0l (N o07 L L) (N o07 L L))
def q2b : BT := (N o0y (N o10 L L) L)
def q2c : BT := (N o0F (N o15 L L) L)
def q2d : BT := (N o0d (N o07 (N o0S L L) (N o1j L L)) q2c)
def q2e : BT := (N o0o (N o0P L L) (N o1g L L))
def q2f : BT := (N o0I (N o19 L L) L)
def q2g : BT := (N o07 (N o0v (N o07 L L) L) q2f)
def q2h : BT := (N o01 (N o0j L L) (N o0j L L))
def q2i : BT := (N o0x (N o0Z L L) L)
def q2j : BT := (N o0j (N o0R L L) (N o1i L L))
def q2k : BT := (N o01 (N o14 L L) L)
def q2l : BT := (N o0n (N o01 L L) (N o01 L L))
def q2m : BT := (N o0H (N o18 L L) L)
def q2n : BT := (N o0m (N o0O L L) (N o1f L L))
def q2o : BT := (N o0z (N o11 L L) L)
def q2p : BT := (N o0G (N o16 L L) L)
def q2q : BT := (N o0e (N o0u (N o0T L L) (N o1k L L)) q2p)
def q2r : BT := (N o0p (N o0Q L L) (N o1h L L))
def q2s : BT := (N o0E (N o13 L L) L)
def q2t : BT := (N o0J (N o1a L L) L)
def q2u : BT := (N o0k (N o0w (N o0Y L L) L) q2t)
def tree_161_ : BT := (N b0 (N b1 (N o1c (N b7 (N o06 q25 q06) (N o0b q26 q06)) (N o00 (N o01 q04 q27) q29)) (N b5 (N b9 (N o08 q2a q2b) q2d) (N o02 (N o0a q2e q0X) q2g))) (N b2 (N b4 (N b8 (N o07 q2h q2i) (N o1e q2j q2k)) (N o1d (N o09 q2l q1n) (N o0j q0N q2m))) (N b6 (N b10 (N o00 q2n q2o) q2q) (N o03 (N o00 q2r q2s) q2u))))
def q2v : BT := (N o1v (N o2l L L) L)
def q2w : BT := (N o00 (N o2h L L) L)
def q2x : BT := (N o1l (N o12 L L) L)
def q2y : BT := (N o1q (N o2f L L) L)
def q2z : BT := (N o1j (N o2b L L) L)
def q2A : BT := (N o1g (N o07 L L) L)
def q2B : BT := (N o1t (N o2j L L) L)
def q2C : BT := (N o01 (N o2e L L) L)
def q2D : BT := (N o1i (N o2a L L) L)
def q2E : BT := (N o1s (N o2i L L) L)
def q2F : BT := (N o1r (N o2g L L) L)
def q2G : BT := (N o1k (N o2c L L) L)
def q2H : BT := (N o1h (N o29 L L) L)
def q2I : BT := (N o1u (N o2k L L) L)
def q2J : BT := (N o1p (N o2d L L) L)
def tree_252_ : BT := (N b0 (N b1 (N o26 (N b7 (N o06 (N o00 q10 q1T) (N o00 q06 q06)) (N o0b (N o0q q12 q06) (N o00 q14 q2v))) (N o00 (N o01 (N o00 q06 q1U) (N o0A q00 q2w)) (N o0f (N o00 q17 q2x) q1V))) (N b5 (N b9 (N o08 (N o0l q0X q1W) (N o0y q1b q2y)) (N o0d (N o07 q1d q2z) q1X)) (N o02 (N o0a (N o0o q1g q2A) (N o07 q1i q2B)) (N o07 (N o0v q1k q0X) q1Y)))) (N b2 (N b4 (N b8 (N o07 (N o01 q1n q1Z) (N o0x q1p q2C)) (N o28 (N o0j q1r q2D) q20)) (N o27 (N o09 (N o0n q1u q0N) (N o0j q1w q2E)) (N o0j (N o01 q1y q1n) q21))) (N b6 (N b10 (N o00 (N o0m q1B q22) (N o0z q1D q2F)) (N o0e (N o0u q1F q2G) q23)) (N o03 (N o00 (N o0p q1I q2H) (N o0E q1K q2I)) (N o0k (N o0w q1M q2J) q24)))))
def tree_108_ : BT := (N b0 (N b1 (N o0B (N b7 q0G (N o0b (N o0q L L) (N o00 L L))) (N o00 q1P (N o0f (N o00 L L) (N o00 L L)))) (N b5 (N b9 q1Q (N o0d (N o07 L L) (N o0F L L))) (N o02 (N o0a (N o0o L L) (N o07 L L)) q0M))) (N b2 (N b4 (N b8 q1R (N o0D (N o0j L L) (N o01 L L))) (N o0C (N o09 (N o0n L L) (N o0j L L)) q0Q)) (N b6 (N b10 q1S (N o0e (N o0u L L) (N o0G L L))) (N o03 (N o00 (N o0p L L) (N o0E L L)) q0U))))
def heap_46_ : PySem.Heap := (Heap.mk (Array.mk [b0, b1, b2, b3, b4, b5, b6, b7, b8, b9, b10, o00, o01, o02, o03]) (Life.mk [] [] [] 0 [] [] false #[] [] 0 false false false 0 [2000, 10, 10] false 0 true [] [] 0 false))
def heap_389_ : PySem.Heap := (Heap.mk (Array.mk [b0, b1, b2, o3q, b4, b5, b6, b7, b8, b9, b10, o00, o3r, o02, o03, o06, o07, o08, o00, o01, o09, o0a, o00, o0b, o2o, o0d, o0e, o0f, o0j, o07, o0k, o00, o01, o0l, o0m, o00, o0n, o0o, o0p, o0q, o0j, o07, o0u, o00, o01, o0v, o0w, o00, o0x, o0y, o0z, o0A, o0j, o07, o0E, o00, o01, o0F, o0G, o00, o0H, o0I, o0J, o0K, o0j, o07, o0O, o00, o01, o0P, o0Q, o00, o0R, o0S, o0T, o0U, o0j, o07, o0Y, o00, o0Z, o10, o11, o12, o00, o01, o13, o00, o14, o15, o16, o17, o18, o19, o1a, o1b, o0j, o07, o1f, o00, o01, o1g, o1h, o00, o1i, o1j, o1k, o1l, o0j, o07, o1p, o00, o01, o1q, o1r, o00, o1s, o1t, o1u, o1v, o0j, o07, o1z, o00, o1A, o1B, o1C, o12, o00, o01, o1D, o00, o1E, o1F, o1G, o1H, o1I, o1J, o1K, o1L, o0j, o07, o1P, o00, o01, o1Q, o1R, o00, o1S, o1T, o1U, o1V, o0j, o07, o1Z, o00, o01, o20, o21, o00, o22, o23, o24, o25, o0j, o07, o29, o00, o2a, o2b, o2c, o12, o00, o01, o2d, o00, o2e, o2f, o2g, o2h, o2i, o2j, o2k, o2l, o0j, o07, o2p, o00, o2q, o2r, o2s, o2t, o00, o01, o2u, o00, o2v, o2w, o2x, o2y, o2z, o2A, o2B, o2C, o00, o01, o2D, o00, o2E, o2F, o2G, o00, o01, o2H, o00, o2I, o2J, o2K, o00, o01, o2L, o2M, o2N, o00, o07, o2Q, o00, o2R, o2S, o2T, o2U, o00, o01, o2V, o00, o2W, o2X, o2Y, o2Z, o30, o31, o32, o33, o34, o35, o00, o01, o36, o00, o37, o38, o39, o00, o01, o3a, o00, o3b, o3c, o3d, o00, o01, o3e, o00, o3f, o3g, o3h, o00, o01, o3i, o00, o3j, o3k, o3l, o00, o01, o3m, o00, o3n, o3o, o3p, o00, o01, o3s, o3t, o3u, o00, o01, o3v, o00, o3w, o3x, o3y, o00, o01, o3z, o00, o3A, o3B, o3C, o00, o01, o3D, o00, o3E, o3F, o3G, o00, o01, o3H, o00, o3I, o3J, o3K]) (Life.mk [] [] [] 0 [] [] false #[] [] 0 false false false 0 [2000, 10, 10] false 0 true [] [] 0 false))
def q2K : BT := (N o00 (N o00 L L) (N o1v L L))
def q2L : BT := (N o0A (N o12 L L) (N o00 L L))
def q2M : BT := (N o0y (N o10 L L) (N o1q L L))
def q2N : BT := (N o07 (N o01 L L) (N o1t L L))
def q2O : BT := (N o0v (N o07 L L) (N o07 L L))
def q2P : BT := (N o0x (N o0Z L L) (N o01 L L))
def q2Q : BT := (N o0j (N o00 L L) (N o1s L L))
def q2R : BT := (N o0z (N o11 L L) (N o1r L L))
def q2S : BT := (N o0E (N o13 L L) (N o1u L L))
def q2T : BT := (N o0w (N o0Y L L) (N o1p L L))
def tree_176_ : BT := (N b0 (N b1 (N o1m (N b7 (N o06 q25 q04) (N o0b q26 q2K)) (N o00 (N o01 q04 q2L) q29)) (N b5 (N b9 (N o08 q2a q2M) q2d) (N o02 (N o0a q2e q2N) (N o07 q2O q2f)))) (N b2 (N b4 (N b8 (N o07 q2h q2P) (N o1o q2j q2k)) (N o1n (N o09 q2l q2Q) (N o0j q2h q2m))) (N b6 (N b10 (N o00 q2n q2R) q2q) (N o03 (N o00 q2r q2S) (N o0k q2T q2t)))))
def tree_199_ : BT := (N b0 (N b1 (N o1w (N b7 (N o06 q11 q04) (N o0b q13 q2K)) (N o00 (N o01 q07 q2L) q19)) (N b5 (N b9 (N o08 q1a q2M) q1f) (N o02 (N o0a q1h q2N) (N o07 q2O q1m)))) (N b2 (N b4 (N b8 (N o07 q1o q2P) (N o1y q1s q1t)) (N o1x (N o09 q1v q2Q) (N o0j q2h q1A))) (N b6 (N b10 (N o00 q1C q2R) q1H) (N o03 (N o00 q1J q2S) (N o0k q2T q1O)))))
def tree_388_ : BT := (N b0 (N b1 (N o3q (N b7 (N o06 (N o00 q01 (N o1b (N o00 (N o3v L L) L) (N o00 L L))) (N o00 q02 (N o00 (N o00 (N o3E L L) L) (N o30 L L)))) (N o0b (N o0q q03 q07) (N o00 q05 (N o1v (N o2l (N o3J L L) L) (N o36 L L))))) (N o00 (N o01 (N o00 q07 (N o00 (N o25 (N o3y L L) L) (N o2R L L))) (N o0A q08 (N o00 (N o2h (N o01 L L) L) (N o34 L L)))) (N o0f (N o00 q09 (N o1l q00 (N o2W L L))) (N o00 (N o17 (N o00 (N o3t L L) L) (N o01 L L)) q0b)))) (N b5 (N b9 (N o08 (N o0l q0c (N o07 (N o23 (N o3w L L) L) (N o2Q L L))) (N o0y q0d (N o1q (N o2f (N o3G L L) L) (N o32 L L)))) (N o0d (N o07 q0e (N o1j (N o2b (N o3B L L) L) (N o2V L L))) (N o0F (N o15 q0X (N o2K L L)) q0g))) (N o02 (N o0a (N o0o q0h (N o1g q0X (N o2T L L))) (N o07 q0i (N o1t (N o2j (N o00 L L) L) (N o00 L L)))) (N o07 (N o0v q0j (N o07 (N o01 (N o3D L L) L) (N o2Y L L))) (N o0I (N o19 (N o20 (N o00 L L) L) (N o2M L L)) q0l))))) (N b2 (N b4 (N b8 (N o07 (N o01 q0m (N o0j (N o22 (N o00 L L) L) (N o07 L L))) (N o0x q0n (N o01 (N o2e (N o3F L L) L) (N o31 L L)))) (N o2o (N o0j q0o (N o1i (N o2a (N o3A L L) L) (N o01 L L))) (N o01 (N o14 q1n (N o2J L L)) (N o0j (N o0j (N o3K L L) L) (N o00 L L))))) (N o3r (N o09 (N o0n q0r (N o01 q1n (N o2S L L))) (N o0j q0s (N o1s (N o2i (N o3H L L) L) (N o35 L L)))) (N o0j (N o01 q0t (N o0j (N o00 (N o01 L L) L) (N o2X L L))) (N o0H (N o18 (N o01 (N o3u L L) L) (N o2L L L)) q0v)))) (N b6 (N b10 (N o00 (N o0m q0w (N o1f (N o24 (N o3x L L) L) (N o00 L L))) (N o0z q0x (N o1r (N o2g (N o00 L L) L) (N o33 L L)))) (N o0e (N o0u q0y (N o1k (N o2c (N o3C L L) L) (N o00 L L))) (N o0G (N o16 (N o1Z (N o3s L L) L) (N o00 L L)) q0A))) (N o03 (N o00 (N o0p q0B (N o1h (N o29 (N o3z L L) L) (N o2U L L))) (N o0E q0C (N o1u (N o2k (N o3I L L) L) (N o01 L L)))) (N o0k (N o0w q0D (N o1p (N o2d (N o00 L L) L) (N o2Z L L))) (N o0J (N o1a (N o21 (N o01 L L) L) (N o2N L L)) q0F))))))
def tree_294_ : BT := (N b0 (N b1 (N o2m (N b7 (N o06 (N o00 (N o0K (N o12 L L) (N o2t L L)) q1T) (N o00 q04 q06)) (N o0b (N o0q (N o00 (N o1H L L) (N o2y L L)) q06) (N o00 (N o00 (N o1V L L) (N o2I L L)) q2v))) (N o00 (N o01 (N o00 q04 q1U) (N o0A (N o12 (N o00 L L) (N o00 L L)) q2w)) (N o0f (N o00 (N o0U (N o1L L L) (N o2C L L)) q2x) (N o00 q0a q06)))) (N b5 (N b9 (N o08 (N o0l (N o07 (N o01 L L) (N o01 L L)) q1W) (N o0y (N o10 (N o1Q L L) (N o2F L L)) q2y)) (N o0d (N o07 (N o0S (N o1J L L) (N o2A L L)) q2z) (N o0F q0f q1k))) (N o02 (N o0a (N o0o (N o0P (N o1F L L) (N o2w L L)) q2A) (N o07 (N o01 (N o1T L L) (N o2H L L)) q2B)) (N o07 (N o0v (N o07 (N o07 L L) (N o01 L L)) q0X) (N o0I q0k (N o1B (N o2r L L) L)))))) (N b2 (N b4 (N b8 (N o07 (N o01 (N o0j (N o00 L L) (N o00 L L)) q1Z) (N o0x (N o0Z (N o01 L L) (N o2E L L)) q2C)) (N o2o (N o0j (N o0R (N o1I L L) (N o2z L L)) q2D) (N o01 q0p q1y))) (N o2n (N o09 (N o0n (N o01 (N o1E L L) (N o2v L L)) q0N) (N o0j (N o00 (N o1S L L) (N o01 L L)) q2E)) (N o0j (N o01 q0q q1n) (N o0H q0u (N o1A (N o2q L L) L))))) (N b6 (N b10 (N o00 (N o0m (N o0O (N o1D L L) (N o2u L L)) q22) (N o0z (N o11 (N o1R L L) (N o2G L L)) q2F)) (N o0e (N o0u (N o0T (N o1K L L) (N o2B L L)) q2G) (N o0G q0z (N o1z (N o2p L L) L)))) (N o03 (N o00 (N o0p (N o0Q (N o1G L L) (N o2x L L)) q2H) (N o0E (N o13 (N o1U L L) (N o00 L L)) q2I)) (N o0k (N o0w (N o0Y (N o1P L L) (N o2D L L)) q2J) (N o0J q0E (N o1C (N o2s L L) L)))))))
def tree_146_ : BT := (N b0 (N b1 (N o0V (N b7 (N o06 q25 q06) (N o0b q0H q06)) (N o00 (N o01 q06 q27) (N o0f q0I q28))) (N b5 (N b9 (N o08 q0J q2b) (N o0d q0K q2c)) (N o02 (N o0a q0L q0X) q2g))) (N b2 (N b4 (N b8 (N o07 q0N q2i) (N o0X q0O q2k)) (N o0W (N o09 q0P q1n) (N o0j q0N q2m))) (N b6 (N b10 (N o00 q0R q2o) (N o0e q0S q2p)) (N o03 (N o00 q0T q2s) q2u))))
def tree_47_ : BT := (N b0 (N b1 (N b3 (N b7 L L) (N o00 L L)) (N b5 (N b9 L L) (N o02 L L))) (N b2 (N b4 (N b8 L L) (N o01 L L)) (N b6 (N b10 L L) (N o03 L L))))
end
end
noncomputable section
def tree_353 (A : AT) : Params → PySem.W.BT := fun P => @tree_353_ A ⟨P⟩
def tree_123 (A : AT) : Params → PySem.W.BT := fun P => @tree_123_ A ⟨P⟩
def tree_78 (A : AT) : Params → PySem.W.BT := fun P => @tree_78_ A ⟨P⟩
def heap_39 (A : AT) : Params → PySem.W.Frag := fun P => @heap_39_ A ⟨P⟩
def tree_63 (A : AT) : Params → PySem.W.BT := fun P => @tree_63_ A ⟨P⟩
def tree_214 (A : AT) : Params → PySem.W.BT := fun P => @tree_214_ A ⟨P⟩
def tree_93 (A : AT) : Params → PySem.W.BT := fun P => @tree_93_ A ⟨P⟩
def tree_229 (A : AT) : Params → PySem.W.BT := fun P => @tree_229_ A ⟨P⟩
def tree_161 (A : AT) : Params → PySem.W.BT := fun P => @tree_161_ A ⟨P⟩
def tree_252 (A : AT) : Params → PySem.W.BT := fun P => @tree_252_ A ⟨P⟩
def tree_108 (A : AT) : Params → PySem.W.BT := fun P => @tree_108_ A ⟨P⟩
def heap_46 (A : AT) : Params → PySem.Heap := fun P => @heap_46_ A ⟨P⟩
def heap_389 (A : AT) : Params → PySem.Heap := fun P => @heap_389_ A ⟨P⟩
def tree_176 (A : AT) : Params → PySem.W.BT := fun P => @tree_176_ A ⟨P⟩
def tree_199 (A : AT) : Params → PySem.W.BT := fun P => @tree_199_ A ⟨P⟩
def tree_388 (A : AT) : Params → PySem.W.BT := fun P => @tree_388_ A ⟨P⟩
def tree_294 (A : AT) : Params → PySem.W.BT := fun P => @tree_294_ A ⟨P⟩
def tree_146 (A : AT) : Params → PySem.W.BT := fun P => @tree_146_ A ⟨P⟩
def tree_47 (A : AT) : Params → PySem.W.BT := fun P => @tree_47_ A ⟨P⟩
end
theorem trig : (PySem.Challenge.pw_bellsaway_k31_roads_made.main.body.length == 0) = (PySem.Challenge.pw_bellsaway_k31_roads_made.main.body.length == 0) := rfl
theorem trig2 : (!(PySem.Challenge.pw_bellsaway_k31_roads_made.main.body.length == 0)) = true := by k_qdec
noncomputable def a0 : List Str := [Str.ofString "self", Str.ofString "line", Str.ofString "NoClock", Str.ofString "/claim/cut.py", Str.ofString "_law_mixed", Str.ofString "law_bellsaway_k31_roads_made", Str.ofString "__name__", Str.ofString "__doc__", Str.ofString "__package__", Str.ofString "__loader__", Str.ofString "__spec__", Str.ofString "__annotations__", Str.ofString "__builtins__", Str.ofString "__file__", Str.ofString "__cached__", Str.ofString "BellError", Str.ofString "NoHappening", Str.ofString "NoFit", Str.ofString "NoWish", Str.ofString "NoRoad", Str.ofString "NoTime", Str.ofString "NoRow", Str.ofString "Backward", Str.ofString "NoNumber", Str.ofString "Fallen", Str.ofString "NoBook", Str.ofString "NoText", Str.ofString "is_whole", Str.ofString "is_whole_from", Str.ofString "LETTERS", Str.ofString "abcdefghijklmnopqrstuvwxyz", Str.ofString "MOST_LETTERS", Str.ofString "is_name", Str.ofString "Road", Str.ofString "_law_cell_at", Str.ofString "_law_well", Str.ofString "_law_draw", Str.ofString "_law_whole", Str.ofString "_law_names", Str.ofString "_law_right", Str.ofString "_law_refused", Str.ofString "_law_all_right", Str.ofString "law", Str.ofString "__module__", Str.ofString "bellsaway.errors", Str.ofString "__firstlineno__", Str.ofString "__static_attributes__", Str.ofString "__init__", Str.ofString "NoText.__init__", Str.ofString "NoBook.__init__", Str.ofString "name", Str.ofString "slow", Str.ofString "knows", Str.ofString "_law_name", Str.ofString "_law_slow", Str.ofString "_law_wise", Str.ofString "_law_found", Str.ofString "e", Str.ofString "_law_others", Str.ofString "bellsaway.roads", Str.ofString "__dict__", Str.ofString "__weakref__", Str.ofString "__qualname__", Str.ofString "bellsaway.wholes", Str.ofString "_law_cell", Str.ofString "__main__", Str.ofString "Backward.__init__", Str.ofString "now", Str.ofString "thing", Str.ofString "NoRoad.__init__", Str.ofString "least", Str.ofString "_law_script", Str.ofString "<module>", Str.ofString "_law_well_here", Str.ofString "_law_most", Str.ofString "_law_turn", Str.ofString "_law_bad", Str.ofString "road", Str.ofString "Road.__init__", Str.ofString "bellsaway.happenings", Str.ofString "_law_k", Str.ofString "_law_number", Str.ofString "_law_road"]
noncomputable def a1 : List Str := [⟨⟨[115, 101, 108, 102]⟩⟩, ⟨⟨[108, 105, 110, 101]⟩⟩, ⟨⟨[78, 111, 67, 108, 111, 99, 107]⟩⟩, ⟨⟨[47, 99, 108, 97, 105, 109, 47, 99, 117, 116, 46, 112, 121]⟩⟩, ⟨⟨[95, 108, 97, 119, 95, 109, 105, 120, 101, 100]⟩⟩, ⟨⟨[108, 97, 119, 95, 98, 101, 108, 108, 115, 97, 119, 97, 121, 95, 107, 51, 49, 95, 114, 111, 97, 100, 115, 95, 109, 97, 100, 101]⟩⟩, ⟨⟨[95, 95, 110, 97, 109, 101, 95, 95]⟩⟩, ⟨⟨[95, 95, 100, 111, 99, 95, 95]⟩⟩, ⟨⟨[95, 95, 112, 97, 99, 107, 97, 103, 101, 95, 95]⟩⟩, ⟨⟨[95, 95, 108, 111, 97, 100, 101, 114, 95, 95]⟩⟩, ⟨⟨[95, 95, 115, 112, 101, 99, 95, 95]⟩⟩, ⟨⟨[95, 95, 97, 110, 110, 111, 116, 97, 116, 105, 111, 110, 115, 95, 95]⟩⟩, ⟨⟨[95, 95, 98, 117, 105, 108, 116, 105, 110, 115, 95, 95]⟩⟩, ⟨⟨[95, 95, 102, 105, 108, 101, 95, 95]⟩⟩, ⟨⟨[95, 95, 99, 97, 99, 104, 101, 100, 95, 95]⟩⟩, ⟨⟨[66, 101, 108, 108, 69, 114, 114, 111, 114]⟩⟩, ⟨⟨[78, 111, 72, 97, 112, 112, 101, 110, 105, 110, 103]⟩⟩, ⟨⟨[78, 111, 70, 105, 116]⟩⟩, ⟨⟨[78, 111, 87, 105, 115, 104]⟩⟩, ⟨⟨[78, 111, 82, 111, 97, 100]⟩⟩, ⟨⟨[78, 111, 84, 105, 109, 101]⟩⟩, ⟨⟨[78, 111, 82, 111, 119]⟩⟩, ⟨⟨[66, 97, 99, 107, 119, 97, 114, 100]⟩⟩, ⟨⟨[78, 111, 78, 117, 109, 98, 101, 114]⟩⟩, ⟨⟨[70, 97, 108, 108, 101, 110]⟩⟩, ⟨⟨[78, 111, 66, 111, 111, 107]⟩⟩, ⟨⟨[78, 111, 84, 101, 120, 116]⟩⟩, ⟨⟨[105, 115, 95, 119, 104, 111, 108, 101]⟩⟩, ⟨⟨[105, 115, 95, 119, 104, 111, 108, 101, 95, 102, 114, 111, 109]⟩⟩, ⟨⟨[76, 69, 84, 84, 69, 82, 83]⟩⟩, ⟨⟨[97, 98, 99, 100, 101, 102, 103, 104, 105, 106, 107, 108, 109, 110, 111, 112, 113, 114, 115, 116, 117, 118, 119, 120, 121, 122]⟩⟩, ⟨⟨[77, 79, 83, 84, 95, 76, 69, 84, 84, 69, 82, 83]⟩⟩, ⟨⟨[105, 115, 95, 110, 97, 109, 101]⟩⟩, ⟨⟨[82, 111, 97, 100]⟩⟩, ⟨⟨[95, 108, 97, 119, 95, 99, 101, 108, 108, 95, 97, 116]⟩⟩, ⟨⟨[95, 108, 97, 119, 95, 119, 101, 108, 108]⟩⟩, ⟨⟨[95, 108, 97, 119, 95, 100, 114, 97, 119]⟩⟩, ⟨⟨[95, 108, 97, 119, 95, 119, 104, 111, 108, 101]⟩⟩, ⟨⟨[95, 108, 97, 119, 95, 110, 97, 109, 101, 115]⟩⟩, ⟨⟨[95, 108, 97, 119, 95, 114, 105, 103, 104, 116]⟩⟩, ⟨⟨[95, 108, 97, 119, 95, 114, 101, 102, 117, 115, 101, 100]⟩⟩, ⟨⟨[95, 108, 97, 119, 95, 97, 108, 108, 95, 114, 105, 103, 104, 116]⟩⟩, ⟨⟨[108, 97, 119]⟩⟩, ⟨⟨[95, 95, 109, 111, 100, 117, 108, 101, 95, 95]⟩⟩, ⟨⟨[98, 101, 108, 108, 115, 97, 119, 97, 121, 46, 101, 114, 114, 111, 114, 115]⟩⟩, ⟨⟨[95, 95, 102, 105, 114, 115, 116, 108, 105, 110, 101, 110, 111, 95, 95]⟩⟩, ⟨⟨[95, 95, 115, 116, 97, 116, 105, 99, 95, 97, 116, 116, 114, 105, 98, 117, 116, 101, 115, 95, 95]⟩⟩, ⟨⟨[95, 95, 105, 110, 105, 116, 95, 95]⟩⟩, ⟨⟨[78, 111, 84, 101, 120, 116, 46, 95, 95, 105, 110, 105, 116, 95, 95]⟩⟩, ⟨⟨[78, 111, 66, 111, 111, 107, 46, 95, 95, 105, 110, 105, 116, 95, 95]⟩⟩, ⟨⟨[110, 97, 109, 101]⟩⟩, ⟨⟨[115, 108, 111, 119]⟩⟩, ⟨⟨[107, 110, 111, 119, 115]⟩⟩, ⟨⟨[95, 108, 97, 119, 95, 110, 97, 109, 101]⟩⟩, ⟨⟨[95, 108, 97, 119, 95, 115, 108, 111, 119]⟩⟩, ⟨⟨[95, 108, 97, 119, 95, 119, 105, 115, 101]⟩⟩, ⟨⟨[95, 108, 97, 119, 95, 102, 111, 117, 110, 100]⟩⟩, ⟨⟨[101]⟩⟩, ⟨⟨[95, 108, 97, 119, 95, 111, 116, 104, 101, 114, 115]⟩⟩, ⟨⟨[98, 101, 108, 108, 115, 97, 119, 97, 121, 46, 114, 111, 97, 100, 115]⟩⟩, ⟨⟨[95, 95, 100, 105, 99, 116, 95, 95]⟩⟩, ⟨⟨[95, 95, 119, 101, 97, 107, 114, 101, 102, 95, 95]⟩⟩, ⟨⟨[95, 95, 113, 117, 97, 108, 110, 97, 109, 101, 95, 95]⟩⟩, ⟨⟨[98, 101, 108, 108, 115, 97, 119, 97, 121, 46, 119, 104, 111, 108, 101, 115]⟩⟩, ⟨⟨[95, 108, 97, 119, 95, 99, 101, 108, 108]⟩⟩, ⟨⟨[95, 95, 109, 97, 105, 110, 95, 95]⟩⟩, ⟨⟨[66, 97, 99, 107, 119, 97, 114, 100, 46, 95, 95, 105, 110, 105, 116, 95, 95]⟩⟩, ⟨⟨[110, 111, 119]⟩⟩, ⟨⟨[116, 104, 105, 110, 103]⟩⟩, ⟨⟨[78, 111, 82, 111, 97, 100, 46, 95, 95, 105, 110, 105, 116, 95, 95]⟩⟩, ⟨⟨[108, 101, 97, 115, 116]⟩⟩, ⟨⟨[95, 108, 97, 119, 95, 115, 99, 114, 105, 112, 116]⟩⟩, ⟨⟨[60, 109, 111, 100, 117, 108, 101, 62]⟩⟩, ⟨⟨[95, 108, 97, 119, 95, 119, 101, 108, 108, 95, 104, 101, 114, 101]⟩⟩, ⟨⟨[95, 108, 97, 119, 95, 109, 111, 115, 116]⟩⟩, ⟨⟨[95, 108, 97, 119, 95, 116, 117, 114, 110]⟩⟩, ⟨⟨[95, 108, 97, 119, 95, 98, 97, 100]⟩⟩, ⟨⟨[114, 111, 97, 100]⟩⟩, ⟨⟨[82, 111, 97, 100, 46, 95, 95, 105, 110, 105, 116, 95, 95]⟩⟩, ⟨⟨[98, 101, 108, 108, 115, 97, 119, 97, 121, 46, 104, 97, 112, 112, 101, 110, 105, 110, 103, 115]⟩⟩, ⟨⟨[95, 108, 97, 119, 95, 107]⟩⟩, ⟨⟨[95, 108, 97, 119, 95, 110, 117, 109, 98, 101, 114]⟩⟩, ⟨⟨[95, 108, 97, 119, 95, 114, 111, 97, 100]⟩⟩]
noncomputable def t0 : List String := ["super", "builtin_function_or_method", "type.__prepare__", "type", "tuple", "code", "function", "dict", "__main__.__loader__#opaque", "ValueError", "Exception", "BaseException", "object", "ValueError.__new__", "frame", "getset_descriptor", "ExceptionGroup.__weakref__", "object.__init_subclass__", "function.__dict__", "function.__dict__#set", "object.__new__"]
noncomputable def t1 : List String := [PySem.W.SL.s4290257624100764138x5, PySem.W.SL.s11030030927630378310x26, PySem.W.SL.s10062305145149207511x16, PySem.W.SL.s17162191345867700912x4, PySem.W.SL.s2766695959194262286x5, PySem.W.SL.s5856160107412720595x4, PySem.W.SL.s7174869446012820540x8, PySem.W.SL.s14018661285674007319x4, PySem.W.SL.s7097527257260152453x26, PySem.W.SL.s6070975301684473832x10, PySem.W.SL.s5946037652744460706x9, PySem.W.SL.s4278001404047624695x13, PySem.W.SL.s2742458400755230247x6, PySem.W.SL.s4209523147560561109x18, PySem.W.SL.s658472552662922059x5, PySem.W.SL.s14755015743595814543x17, PySem.W.SL.s10220274742760427390x26, PySem.W.SL.s4860613602091757760x24, PySem.W.SL.s6511155373996960695x17, PySem.W.SL.s12411053484034534018x21, PySem.W.SL.s11443829558043349243x14]
theorem cc {α : Type} {x y : α} {l m : List α} (h : x = y) (k : l = m) : x :: l = y :: m := by rw [h, k]
theorem ea : a0 = a1 := (cc (by kernel_rfl) (cc (by kernel_rfl) (cc (by kernel_rfl) (cc (by kernel_rfl) (cc (by kernel_rfl) (cc (by kernel_rfl) (cc (by kernel_rfl) (cc (by kernel_rfl) (cc (by kernel_rfl) (cc (by kernel_rfl) (cc (by kernel_rfl) (cc (by kernel_rfl) (cc (by kernel_rfl) (cc (by kernel_rfl) (cc (by kernel_rfl) (cc (by kernel_rfl) (cc (by kernel_rfl) (cc (by kernel_rfl) (cc (by kernel_rfl) (cc (by kernel_rfl) (cc (by kernel_rfl) (cc (by kernel_rfl) (cc (by kernel_rfl) (cc (by kernel_rfl) (cc (by kernel_rfl) (cc (by kernel_rfl) (cc (by kernel_rfl) (cc (by kernel_rfl) (cc (by kernel_rfl) (cc (by kernel_rfl) (cc (by kernel_rfl) (cc (by kernel_rfl) (cc (by kernel_rfl) (cc (by kernel_rfl) (cc (by kernel_rfl) (cc (by kernel_rfl) (cc (by kernel_rfl) (cc (by kernel_rfl) (cc (by kernel_rfl) (cc (by kernel_rfl) (cc (by kernel_rfl) (cc (by kernel_rfl) (cc (by kernel_rfl) (cc (by kernel_rfl) (cc (by kernel_rfl) (cc (by kernel_rfl) (cc (by kernel_rfl) (cc (by kernel_rfl) (cc (by kernel_rfl) (cc (by kernel_rfl) (cc (by kernel_rfl) (cc (by kernel_rfl) (cc (by kernel_rfl) (cc (by kernel_rfl) (cc (by kernel_rfl) (cc (by kernel_rfl) (cc (by kernel_rfl) (cc (by kernel_rfl) (cc (by kernel_rfl) (cc (by kernel_rfl) (cc (by kernel_rfl) (cc (by kernel_rfl) (cc (by kernel_rfl) (cc (by kernel_rfl) (cc (by kernel_rfl) (cc (by kernel_rfl) (cc (by kernel_rfl) (cc (by kernel_rfl) (cc (by kernel_rfl) (cc (by kernel_rfl) (cc (by kernel_rfl) (cc (by kernel_rfl) (cc (by kernel_rfl) (cc (by kernel_rfl) (cc (by kernel_rfl) (cc (by kernel_rfl) (cc (by kernel_rfl) (cc (by kernel_rfl) (cc (by kernel_rfl) (cc (by kernel_rfl) (cc (by kernel_rfl) (cc (by kernel_rfl) (cc (by kernel_rfl) rfl)))))))))))))))))))))))))))))))))))))))))))))))))))))))))))))))))))))))))))))))))))
theorem et : t0 = t1 := (cc PySem.W.SL.e4290257624100764138x5 (cc PySem.W.SL.e11030030927630378310x26 (cc PySem.W.SL.e10062305145149207511x16 (cc PySem.W.SL.e17162191345867700912x4 (cc PySem.W.SL.e2766695959194262286x5 (cc PySem.W.SL.e5856160107412720595x4 (cc PySem.W.SL.e7174869446012820540x8 (cc PySem.W.SL.e14018661285674007319x4 (cc PySem.W.SL.e7097527257260152453x26 (cc PySem.W.SL.e6070975301684473832x10 (cc PySem.W.SL.e5946037652744460706x9 (cc PySem.W.SL.e4278001404047624695x13 (cc PySem.W.SL.e2742458400755230247x6 (cc PySem.W.SL.e4209523147560561109x18 (cc PySem.W.SL.e658472552662922059x5 (cc PySem.W.SL.e14755015743595814543x17 (cc PySem.W.SL.e10220274742760427390x26 (cc PySem.W.SL.e4860613602091757760x24 (cc PySem.W.SL.e6511155373996960695x17 (cc PySem.W.SL.e12411053484034534018x21 (cc PySem.W.SL.e11443829558043349243x14 rfl)))))))))))))))))))))
noncomputable def A0 : AT := ⟨PySem.Challenge.pw_bellsaway_k31_roads_made, a0, t0⟩
noncomputable def B0 : AT := ⟨PySem.W.Fast.tw10184821278223993724, a1, t1⟩
theorem ab : A0 = B0 := by
  unfold A0 B0
  rw [ea, et, PySem.W.Fast.te10184821278223993724]
end Hd
namespace PySem.W.Fast
open Hd
noncomputable def tw14684486960372437186 : Params → PySem.W.BT := tree_353 B0
theorem te14684486960372437186 : tree_353 A0 = tw14684486960372437186 := congrArg tree_353 Hd.ab
noncomputable def tw12635428420597591619 : Params → PySem.W.BT := tree_123 B0
theorem te12635428420597591619 : tree_123 A0 = tw12635428420597591619 := congrArg tree_123 Hd.ab
noncomputable def tw1991341232486642598 : Params → PySem.W.BT := tree_78 B0
theorem te1991341232486642598 : tree_78 A0 = tw1991341232486642598 := congrArg tree_78 Hd.ab
noncomputable def tw4151454057290610215 : Params → PySem.W.Frag := heap_39 B0
theorem te4151454057290610215 : heap_39 A0 = tw4151454057290610215 := congrArg heap_39 Hd.ab
noncomputable def tw9985630185919482280 : Params → PySem.W.BT := tree_63 B0
theorem te9985630185919482280 : tree_63 A0 = tw9985630185919482280 := congrArg tree_63 Hd.ab
noncomputable def tw18126494864150801676 : Params → PySem.W.BT := tree_214 B0
theorem te18126494864150801676 : tree_214 A0 = tw18126494864150801676 := congrArg tree_214 Hd.ab
noncomputable def tw13932484250150759724 : Params → PySem.W.BT := tree_93 B0
theorem te13932484250150759724 : tree_93 A0 = tw13932484250150759724 := congrArg tree_93 Hd.ab
noncomputable def tw15723231083203065966 : Params → PySem.W.BT := tree_229 B0
theorem te15723231083203065966 : tree_229 A0 = tw15723231083203065966 := congrArg tree_229 Hd.ab
noncomputable def tw11170752772467044942 : Params → PySem.W.BT := tree_161 B0
theorem te11170752772467044942 : tree_161 A0 = tw11170752772467044942 := congrArg tree_161 Hd.ab
noncomputable def tw13234870464317839599 : Params → PySem.W.BT := tree_252 B0
theorem te13234870464317839599 : tree_252 A0 = tw13234870464317839599 := congrArg tree_252 Hd.ab
noncomputable def tw4321864532042314319 : Params → PySem.W.BT := tree_108 B0
theorem te4321864532042314319 : tree_108 A0 = tw4321864532042314319 := congrArg tree_108 Hd.ab
noncomputable def tw11249652506441462671 : Params → PySem.Heap := heap_46 B0
theorem te11249652506441462671 : heap_46 A0 = tw11249652506441462671 := congrArg heap_46 Hd.ab
noncomputable def tw17717220146671390607 : Params → PySem.Heap := heap_389 B0
theorem te17717220146671390607 : heap_389 A0 = tw17717220146671390607 := congrArg heap_389 Hd.ab
noncomputable def tw15890159813395622192 : Params → PySem.W.BT := tree_176 B0
theorem te15890159813395622192 : tree_176 A0 = tw15890159813395622192 := congrArg tree_176 Hd.ab
noncomputable def tw12797460177168697777 : Params → PySem.W.BT := tree_199 B0
theorem te12797460177168697777 : tree_199 A0 = tw12797460177168697777 := congrArg tree_199 Hd.ab
noncomputable def tw3454308586035115700 : Params → PySem.W.BT := tree_388 B0
theorem te3454308586035115700 : tree_388 A0 = tw3454308586035115700 := congrArg tree_388 Hd.ab
noncomputable def tw14931059262787264728 : Params → PySem.W.BT := tree_294 B0
theorem te14931059262787264728 : tree_294 A0 = tw14931059262787264728 := congrArg tree_294 Hd.ab
noncomputable def tw7484377852262259899 : Params → PySem.W.BT := tree_146 B0
theorem te7484377852262259899 : tree_146 A0 = tw7484377852262259899 := congrArg tree_146 Hd.ab
noncomputable def tw1703150003693709789 : Params → PySem.W.BT := tree_47 B0
theorem te1703150003693709789 : tree_47 A0 = tw1703150003693709789 := congrArg tree_47 Hd.ab
end PySem.W.Fast
set_option Elab.async false
set_option linter.all false
set_option maxRecDepth 100000
set_option maxHeartbeats 8000000
namespace Bw
open PySem L2
theorem xs_of {K : PySem.W.Frag} {C B N : Addr} {nm q : Str} {bs : List Value} {sn : List Str} {sub : List Value} {ab : Bool} {col : Option Bool} {dd : Option Addr} {k0 k1 k2 k3 k5 : Option Value}
    (l : K.lookup C = some ⟨.type "type", dd, .cls ⟨nm, bs, [.ref C, .ref B, .type "ValueError", .type "Exception", .type "BaseException", .type "object"], N, q, true, sn, sub, ab, col, false⟩, #[k0, k1, k2, k3, some (.builtin "ValueError.__new__"), k5]⟩)
    (sa : PySem.W.findIn K (.ref C) "__setattr__" = some (some (.builtin "object.__setattr__"))) : ∃ cd, ExcS K C cd := ⟨_, by unfold PySem.W.clsIn; rw [l], rfl, rfl, sa⟩
theorem all_mk {l : PySem.W.OpenLaw} {w : World} {K : PySem.W.Frag} {h : Heap} {mg : Str → Option Value} {fa f0 f1 f2 f3 f4 f5 f6 f7 f8 f9 f10 f11 f12 f13 f14 cBellError cBackward cFallen cNoBook cNoClock cNoFit cNoHappening cNoNumber cNoRow cNoText cNoTime cNoWish cNoRoad cRoad : Addr} {t0 t1 : Tok} (X : K.In h) (G : h.Ns mainGlobals mg) (hfa : mg "law" = some (.ref fa))
    {od0 an0 : Option Addr} {sl0 : Array (Option Value)} {oc0 kV0 dc0 pm0 cd0 ct0 : Value}
    (a0 : PySem.W.findIn K (.ref cNoRoad) "__init__" = some (some (.ref f0)))
    (i0 : PySem.W.isFn K (.ref f0) = true)
    {T0 : Addr} {doc0 : Value} {dod0 : Option Addr} {dn0 : Nat} {dsl0 : Array (Option Value)}
    (l0 : K.lookup f0 = some ⟨oc0, od0, .func (PySem.W.fnOf "__init__" "NoRoad.__init__" (defArgs s_NoRoad___init__) (defBody s_NoRoad___init__) (defScope s_NoRoad___init__) (.ref T0) kV0 dc0 pm0 an0 cd0 ct0), sl0⟩)
    (d0 : K.lookup T0 = some ⟨doc0, dod0, .seq #[.none] dn0, dsl0⟩)
    (c0 : PySem.W.codeIn K cd0 "NoRoad.__init__" = true)
    {od1 an1 : Option Addr} {sl1 : Array (Option Value)} {oc1 kV1 dc1 pm1 cd1 ct1 : Value}
    (a1 : PySem.W.nsIn K mainGlobals "is_whole" = some (some (.ref f1)))
    (l1 : K.lookup f1 = some ⟨oc1, od1, .func (PySem.W.fnOf "is_whole" "is_whole" (defArgs s_is_whole) (defBody s_is_whole) (defScope s_is_whole) .none kV1 dc1 pm1 an1 cd1 ct1), sl1⟩)
    (c1 : PySem.W.codeIn K cd1 "is_whole" = true)
    (k1 : PySem.W.keepIn K (.ref f1) = true)
    {od2 an2 : Option Addr} {sl2 : Array (Option Value)} {oc2 kV2 dc2 pm2 cd2 ct2 : Value}
    (a2 : PySem.W.nsIn K mainGlobals "is_whole_from" = some (some (.ref f2)))
    (l2 : K.lookup f2 = some ⟨oc2, od2, .func (PySem.W.fnOf "is_whole_from" "is_whole_from" (defArgs s_is_whole_from) (defBody s_is_whole_from) (defScope s_is_whole_from) .none kV2 dc2 pm2 an2 cd2 ct2), sl2⟩)
    (c2 : PySem.W.codeIn K cd2 "is_whole_from" = true)
    (k2 : PySem.W.keepIn K (.ref f2) = true)
    {od3 an3 : Option Addr} {sl3 : Array (Option Value)} {oc3 kV3 dc3 pm3 cd3 ct3 : Value}
    (a3 : PySem.W.nsIn K mainGlobals "is_name" = some (some (.ref f3)))
    (l3 : K.lookup f3 = some ⟨oc3, od3, .func (PySem.W.fnOf "is_name" "is_name" (defArgs s_is_name) (defBody s_is_name) (defScope s_is_name) .none kV3 dc3 pm3 an3 cd3 ct3), sl3⟩)
    (c3 : PySem.W.codeIn K cd3 "is_name" = true)
    (k3 : PySem.W.keepIn K (.ref f3) = true)
    {od4 an4 : Option Addr} {sl4 : Array (Option Value)} {oc4 kV4 dc4 pm4 cd4 ct4 : Value}
    (a4 : PySem.W.findIn K (.ref cRoad) "__init__" = some (some (.ref f4)))
    (i4 : PySem.W.isFn K (.ref f4) = true)
    {T4 : Addr} {doc4 : Value} {dod4 : Option Addr} {dn4 : Nat} {dsl4 : Array (Option Value)} {dt4_0 : Tok}
    (l4 : K.lookup f4 = some ⟨oc4, od4, .func (PySem.W.fnOf "__init__" "Road.__init__" (defArgs s_Road___init__) (defBody s_Road___init__) (defScope s_Road___init__) (.ref T4) kV4 dc4 pm4 an4 cd4 ct4), sl4⟩)
    (d4 : K.lookup T4 = some ⟨doc4, dod4, .seq #[.int 0 dt4_0, .bool false] dn4, dsl4⟩)
    (c4 : PySem.W.codeIn K cd4 "Road.__init__" = true)
    {od5 an5 : Option Addr} {sl5 : Array (Option Value)} {oc5 kV5 dc5 pm5 cd5 ct5 : Value}
    (a5 : PySem.W.nsIn K mainGlobals "_law_cell_at" = some (some (.ref f5)))
    (l5 : K.lookup f5 = some ⟨oc5, od5, .func (PySem.W.fnOf "_law_cell_at" "_law_cell_at" (defArgs s_law_cell_at) (defBody s_law_cell_at) (defScope s_law_cell_at) .none kV5 dc5 pm5 an5 cd5 ct5), sl5⟩)
    (c5 : PySem.W.codeIn K cd5 "_law_cell_at" = true)
    (k5 : PySem.W.keepIn K (.ref f5) = true)
    {od6 an6 : Option Addr} {sl6 : Array (Option Value)} {oc6 kV6 dc6 pm6 cd6 ct6 : Value}
    (a6 : PySem.W.nsIn K mainGlobals "_law_mixed" = some (some (.ref f6)))
    (l6 : K.lookup f6 = some ⟨oc6, od6, .func (PySem.W.fnOf "_law_mixed" "_law_mixed" (defArgs s_law_mixed) (defBody s_law_mixed) (defScope s_law_mixed) .none kV6 dc6 pm6 an6 cd6 ct6), sl6⟩)
    (c6 : PySem.W.codeIn K cd6 "_law_mixed" = true)
    (k6 : PySem.W.keepIn K (.ref f6) = true)
    {od7 an7 : Option Addr} {sl7 : Array (Option Value)} {oc7 kV7 dc7 pm7 cd7 ct7 : Value}
    (a7 : PySem.W.nsIn K mainGlobals "_law_well" = some (some (.ref f7)))
    (l7 : K.lookup f7 = some ⟨oc7, od7, .func (PySem.W.fnOf "_law_well" "_law_well" (defArgs s_law_well) (defBody s_law_well) (defScope s_law_well) .none kV7 dc7 pm7 an7 cd7 ct7), sl7⟩)
    (c7 : PySem.W.codeIn K cd7 "_law_well" = true)
    (k7 : PySem.W.keepIn K (.ref f7) = true)
    {od8 an8 : Option Addr} {sl8 : Array (Option Value)} {oc8 kV8 dc8 pm8 cd8 ct8 : Value}
    (a8 : PySem.W.nsIn K mainGlobals "_law_draw" = some (some (.ref f8)))
    (l8 : K.lookup f8 = some ⟨oc8, od8, .func (PySem.W.fnOf "_law_draw" "_law_draw" (defArgs s_law_draw) (defBody s_law_draw) (defScope s_law_draw) .none kV8 dc8 pm8 an8 cd8 ct8), sl8⟩)
    (c8 : PySem.W.codeIn K cd8 "_law_draw" = true)
    (k8 : PySem.W.keepIn K (.ref f8) = true)
    {od9 an9 : Option Addr} {sl9 : Array (Option Value)} {oc9 kV9 dc9 pm9 cd9 ct9 : Value}
    (a9 : PySem.W.nsIn K mainGlobals "_law_whole" = some (some (.ref f9)))
    (l9 : K.lookup f9 = some ⟨oc9, od9, .func (PySem.W.fnOf "_law_whole" "_law_whole" (defArgs s_law_whole) (defBody s_law_whole) (defScope s_law_whole) .none kV9 dc9 pm9 an9 cd9 ct9), sl9⟩)
    (c9 : PySem.W.codeIn K cd9 "_law_whole" = true)
    (k9 : PySem.W.keepIn K (.ref f9) = true)
    {od10 an10 : Option Addr} {sl10 : Array (Option Value)} {oc10 kV10 dc10 pm10 cd10 ct10 : Value}
    (a10 : PySem.W.nsIn K mainGlobals "_law_names" = some (some (.ref f10)))
    (l10 : K.lookup f10 = some ⟨oc10, od10, .func (PySem.W.fnOf "_law_names" "_law_names" (defArgs s_law_names) (defBody s_law_names) (defScope s_law_names) .none kV10 dc10 pm10 an10 cd10 ct10), sl10⟩)
    (c10 : PySem.W.codeIn K cd10 "_law_names" = true)
    (k10 : PySem.W.keepIn K (.ref f10) = true)
    {od11 an11 : Option Addr} {sl11 : Array (Option Value)} {oc11 kV11 dc11 pm11 cd11 ct11 : Value}
    (a11 : PySem.W.nsIn K mainGlobals "_law_right" = some (some (.ref f11)))
    (l11 : K.lookup f11 = some ⟨oc11, od11, .func (PySem.W.fnOf "_law_right" "_law_right" (defArgs s_law_right) (defBody s_law_right) (defScope s_law_right) .none kV11 dc11 pm11 an11 cd11 ct11), sl11⟩)
    (c11 : PySem.W.codeIn K cd11 "_law_right" = true)
    (k11 : PySem.W.keepIn K (.ref f11) = true)
    {od12 an12 : Option Addr} {sl12 : Array (Option Value)} {oc12 kV12 dc12 pm12 cd12 ct12 : Value}
    (a12 : PySem.W.nsIn K mainGlobals "_law_refused" = some (some (.ref f12)))
    (l12 : K.lookup f12 = some ⟨oc12, od12, .func (PySem.W.fnOf "_law_refused" "_law_refused" (defArgs s_law_refused) (defBody s_law_refused) (defScope s_law_refused) .none kV12 dc12 pm12 an12 cd12 ct12), sl12⟩)
    (c12 : PySem.W.codeIn K cd12 "_law_refused" = true)
    (k12 : PySem.W.keepIn K (.ref f12) = true)
    {od13 an13 : Option Addr} {sl13 : Array (Option Value)} {oc13 kV13 dc13 pm13 cd13 ct13 : Value}
    (a13 : PySem.W.nsIn K mainGlobals "_law_all_right" = some (some (.ref f13)))
    (l13 : K.lookup f13 = some ⟨oc13, od13, .func (PySem.W.fnOf "_law_all_right" "_law_all_right" (defArgs s_law_all_right) (defBody s_law_all_right) (defScope s_law_all_right) .none kV13 dc13 pm13 an13 cd13 ct13), sl13⟩)
    (c13 : PySem.W.codeIn K cd13 "_law_all_right" = true)
    (k13 : PySem.W.keepIn K (.ref f13) = true)
    {od14 an14 : Option Addr} {sl14 : Array (Option Value)} {oc14 kV14 dc14 pm14 cd14 ct14 : Value}
    (a14 : PySem.W.nsIn K mainGlobals "law" = some (some (.ref f14)))
    (l14 : K.lookup f14 = some ⟨oc14, od14, .func (PySem.W.fnOf "law" "law" (defArgs s_law) (defBody s_law) (defScope s_law) .none kV14 dc14 pm14 an14 cd14 ct14), sl14⟩)
    (c14 : PySem.W.codeIn K cd14 "law" = true)
    (k14 : PySem.W.keepIn K (.ref f14) = true)
    (y0 : PySem.W.nsIn K mainGlobals "len" = some none)
    (y1 : PySem.W.nsIn K mainGlobals "int" = some none)
    (y2 : PySem.W.nsIn K mainGlobals "bool" = some none)
    (y3 : PySem.W.nsIn K mainGlobals "str" = some none)
    (y4 : PySem.W.nsIn K mainGlobals "all" = some none)
    (y5 : PySem.W.nsIn K mainGlobals "isinstance" = some none)
    (y6 : PySem.W.nsIn K mainGlobals "range" = some none)
    (y7 : PySem.W.nsIn K mainGlobals "ValueError" = some none)
    (y8 : PySem.W.nsIn K mainGlobals "LETTERS" = some (some (.str "abcdefghijklmnopqrstuvwxyz" t0)))
    (y9 : PySem.W.nsIn K mainGlobals "MOST_LETTERS" = some (some (.int 8 t1)))
    (y10 : PySem.W.nsIn K mainGlobals "BellError" = some (some (.ref cBellError)))
    (y11 : PySem.W.nsIn K mainGlobals "Backward" = some (some (.ref cBackward)))
    (y12 : PySem.W.nsIn K mainGlobals "Fallen" = some (some (.ref cFallen)))
    (y13 : PySem.W.nsIn K mainGlobals "NoBook" = some (some (.ref cNoBook)))
    (y14 : PySem.W.nsIn K mainGlobals "NoClock" = some (some (.ref cNoClock)))
    (y15 : PySem.W.nsIn K mainGlobals "NoFit" = some (some (.ref cNoFit)))
    (y16 : PySem.W.nsIn K mainGlobals "NoHappening" = some (some (.ref cNoHappening)))
    (y17 : PySem.W.nsIn K mainGlobals "NoNumber" = some (some (.ref cNoNumber)))
    (y18 : PySem.W.nsIn K mainGlobals "NoRow" = some (some (.ref cNoRow)))
    (y19 : PySem.W.nsIn K mainGlobals "NoText" = some (some (.ref cNoText)))
    (y20 : PySem.W.nsIn K mainGlobals "NoTime" = some (some (.ref cNoTime)))
    (y21 : PySem.W.nsIn K mainGlobals "NoWish" = some (some (.ref cNoWish)))
    (y22 : PySem.W.nsIn K mainGlobals "NoRoad" = some (some (.ref cNoRoad)))
    (y23 : PySem.W.nsIn K mainGlobals "Road" = some (some (.ref cRoad)))
    (y24_0 : PySem.W.findIn K (.ref cNoRoad) "__getattribute__" = some (some (.builtin "BaseException.__getattribute__")))
    (y24_1 : PySem.W.findIn K (.ref cNoRoad) "__getattr__" = some none)
    (y24_2 : PySem.W.findIn K (.ref cNoRoad) "__class__" = some (some (.builtin "object.__class__")))
    (y24_3 : PySem.W.mroIn K cNoRoad (.type "BaseException") = some true)
    (y24_4 : PySem.W.mroIn K cNoRoad (.type "object") = some true)
    (y24_5 : PySem.W.isClsIn K cNoRoad = true)
    (y25 : PySem.W.exmOne K (.ref cNoRoad) (.ref cBellError) = some true)
    (y26 : PySem.W.kitAny K (.ref cNoRoad) ([.ref cBackward, .ref cFallen, .ref cNoBook, .ref cNoClock, .ref cNoFit, .ref cNoHappening, .ref cNoNumber, .ref cNoRow] : List Value) = some false)
    (y27 : PySem.W.kitAny K (.ref cNoRoad) ([.ref cNoText, .ref cNoTime, .ref cNoWish] : List Value) = some false)
    (y28 : PySem.W.kitOne K (.ref cNoRoad) (.type "ValueError") = some true)
    (y29 : PySem.W.kitOne K (.ref cNoRoad) (.ref cNoRoad) = some true)
    (y30 : PySem.W.kitOne K (.ref cRoad) (.ref cRoad) = some true)
    (y31 : PySem.W.hasDictIn K cNoRoad = true)
    (y32 : PySem.W.mroIn K cNoRoad (.type "object") = some true)
    (y33 : PySem.W.findIn K (.ref cNoRoad) "road" = some none)
    (y34_0 : PySem.W.plainGet K cRoad Str.empty = true)
    (y34_1 : PySem.W.hasDictIn K cRoad = true)
    (y34_2 : PySem.W.plainOver K cRoad = true)
    (y34_3 : PySem.W.findIn K (.ref cRoad) "__setattr__" = some (some (.builtin "object.__setattr__")))
    (y34_4 : PySem.W.findIn K (.ref cRoad) "__class__" = some (some (.builtin "object.__class__")))
    (y34_5 : PySem.W.specialIn K (.builtin "object.__class__") "__get__" = some (some (.builtin "getset_descriptor.__get__")))
    (y34_6 : PySem.W.takesIn K (.builtin "object.__class__") = some true)
    (y34_7 : PySem.W.mroIn K cRoad (.type "object") = some true)
    (y35 : PySem.W.findIn K (.ref cRoad) "name" = some none)
    (y36 : PySem.W.findIn K (.ref cRoad) "slow" = some none)
    (y37 : PySem.W.findIn K (.ref cRoad) "knows" = some none)
    {nmXNoRoad qXNoRoad : Str} {NXNoRoad : Addr} {bsXNoRoad : List Value} {snXNoRoad : List Str} {subXNoRoad : List Value} {abXNoRoad : Bool} {colXNoRoad : Option Bool} {ddXNoRoad : Option Addr} {kx0NoRoad kx1NoRoad kx2NoRoad kx3NoRoad kx5NoRoad : Option Value}
    (lxNoRoad : K.lookup cNoRoad = some ⟨.type "type", ddXNoRoad, .cls ⟨nmXNoRoad, bsXNoRoad, [.ref cNoRoad, .ref cBellError, .type "ValueError", .type "Exception", .type "BaseException", .type "object"], NXNoRoad, qXNoRoad, true, snXNoRoad, subXNoRoad, abXNoRoad, colXNoRoad, false⟩, #[kx0NoRoad, kx1NoRoad, kx2NoRoad, kx3NoRoad, some (.builtin "ValueError.__new__"), kx5NoRoad]⟩)
    (xbNoRoad : PySem.W.excIn K cBellError vbm "ValueError.__new__" = true)
    (sxNoRoad : PySem.W.findIn K (.ref cNoRoad) "__setattr__" = some (some (.builtin "object.__setattr__")))
    (mkRoad : PySem.W.makesIn K cRoad = true)
    (kcRoad : PySem.W.keepIn K (.ref cRoad) = true) :
    ∃ (a : Ad) (fd : FuncData), (∀ (s : Shared) (v : Value), BindsTo s fd ⟨[v], []⟩ [("_law_script", v)]) ∧ ∀ base : Heap, K.In base → base.Ns mainGlobals mg → FnOk l.prog w K mg base CX0 7 fa fd ["_law_script"] (sp_law K a) := by
  have e := hfa.symm.trans (PySem.W.mg_of X G a14)
  cases e
  have B : Bt K mg ⟨cBellError, cBackward, cFallen, cNoBook, cNoClock, cNoFit, cNoHappening, cNoNumber, cNoRow, cNoText, cNoTime, cNoWish, cNoRoad, cRoad, t0, t1⟩ := ⟨PySem.W.mg_none_of X G y0, PySem.W.mg_none_of X G y1, PySem.W.mg_none_of X G y2, PySem.W.mg_none_of X G y3, PySem.W.mg_none_of X G y4, PySem.W.mg_none_of X G y5, PySem.W.mg_none_of X G y6, PySem.W.mg_none_of X G y7, PySem.W.mg_of X G y8, PySem.W.mg_of X G y9, PySem.W.mg_of X G y10, PySem.W.mg_of X G y11, PySem.W.mg_of X G y12, PySem.W.mg_of X G y13, PySem.W.mg_of X G y14, PySem.W.mg_of X G y15, PySem.W.mg_of X G y16, PySem.W.mg_of X G y17, PySem.W.mg_of X G y18, PySem.W.mg_of X G y19, PySem.W.mg_of X G y20, PySem.W.mg_of X G y21, PySem.W.mg_of X G y22, PySem.W.mg_of X G y23, ⟨y24_0, y24_1, y24_2, y24_3, y24_4, y24_5⟩, y25, y26, y27, y28, y29, y30, y31, y32, y33, ⟨⟨y34_0, y34_1, y34_2, y34_3⟩, y34_4, y34_5, y34_6, y34_7⟩, y35, y36, y37, xs_of lxNoRoad sxNoRoad⟩
  have F0 := funA_mk (st := s_NoRoad___init__) l0 c0
  have b0_0 : Binds K _ ["self", "road"] [.none] := bindsD (fd := PySem.W.fnOf "__init__" "NoRoad.__init__" (defArgs s_NoRoad___init__) (defBody s_NoRoad___init__) (defScope s_NoRoad___init__) (.ref T0) kV0 dc0 pm0 an0 cd0 ct0) 1 rfl fun s us X hl => match us, hl with | [_], _ => by first | exact .of_eq rfl | exact PySem.W.binds_K X rfl d0 rfl rfl rfl
  have F1 := fun_mk (st := s_is_whole) l1 c1 k1
  have b1 := F1.binds (ps := ["thing"]) fun _ _ _ _ _ _ us hl => match us, hl with | [_], _ => rfl
  have F2 := fun_mk (st := s_is_whole_from) l2 c2 k2
  have b2 := F2.binds (ps := ["thing", "least"]) fun _ _ _ _ _ _ us hl => match us, hl with | [_, _], _ => rfl
  have F3 := fun_mk (st := s_is_name) l3 c3 k3
  have b3 := F3.binds (ps := ["thing"]) fun _ _ _ _ _ _ us hl => match us, hl with | [_], _ => rfl
  have F4 := funA_mk (st := s_Road___init__) l4 c4
  have b4_3 : Binds K _ ["self", "name", "slow", "knows"] [] := bindsD (fd := PySem.W.fnOf "__init__" "Road.__init__" (defArgs s_Road___init__) (defBody s_Road___init__) (defScope s_Road___init__) (.ref T4) kV4 dc4 pm4 an4 cd4 ct4) 4 rfl fun s us X hl => match us, hl with | [_, _, _, _], _ => by first | exact .of_eq rfl | exact PySem.W.binds_K X rfl d4 rfl rfl rfl
  have b4_1 : Binds K _ ["self", "name", "slow", "knows"] [.int 0 dt4_0, .bool false] := bindsD (fd := PySem.W.fnOf "__init__" "Road.__init__" (defArgs s_Road___init__) (defBody s_Road___init__) (defScope s_Road___init__) (.ref T4) kV4 dc4 pm4 an4 cd4 ct4) 2 rfl fun s us X hl => match us, hl with | [_, _], _ => by first | exact .of_eq rfl | exact PySem.W.binds_K X rfl d4 rfl rfl rfl
  have b4_2 : Binds K _ ["self", "name", "slow", "knows"] [.bool false] := bindsD (fd := PySem.W.fnOf "__init__" "Road.__init__" (defArgs s_Road___init__) (defBody s_Road___init__) (defScope s_Road___init__) (.ref T4) kV4 dc4 pm4 an4 cd4 ct4) 3 rfl fun s us X hl => match us, hl with | [_, _, _], _ => by first | exact .of_eq rfl | exact PySem.W.binds_K X rfl d4 rfl rfl rfl
  have F5 := fun_mk (st := s_law_cell_at) l5 c5 k5
  have b5 := F5.binds (ps := ["_law_script", "_law_k"]) fun _ _ _ _ _ _ us hl => match us, hl with | [_, _], _ => rfl
  have F6 := fun_mk (st := s_law_mixed) l6 c6 k6
  have b6 := F6.binds (ps := ["_law_cell", "_law_k"]) fun _ _ _ _ _ _ us hl => match us, hl with | [_, _], _ => rfl
  have F7 := fun_mk (st := s_law_well) l7 c7 k7
  have b7 := F7.binds (ps := ["_law_cell"]) fun _ _ _ _ _ _ us hl => match us, hl with | [_], _ => rfl
  have F8 := fun_mk (st := s_law_draw) l8 c8 k8
  have b8 := F8.binds (ps := ["_law_well_here", "_law_most"]) fun _ _ _ _ _ _ us hl => match us, hl with | [_, _], _ => rfl
  have F9 := fun_mk (st := s_law_whole) l9 c9 k9
  have b9 := F9.binds (ps := ["_law_found"]) fun _ _ _ _ _ _ us hl => match us, hl with | [_], _ => rfl
  have F10 := fun_mk (st := s_law_names) l10 c10 k10
  have b10 := F10.binds (ps := ["_law_well_here", "_law_many"]) fun _ _ _ _ _ _ us hl => match us, hl with | [_, _], _ => rfl
  have F11 := fun_mk (st := s_law_right) l11 c11 k11
  have b11 := F11.binds (ps := ["_law_road", "_law_name", "_law_slow", "_law_wise"]) fun _ _ _ _ _ _ us hl => match us, hl with | [_, _, _, _], _ => rfl
  have F12 := fun_mk (st := s_law_refused) l12 c12 k12
  have b12 := F12.binds (ps := ["_law_name", "_law_slow", "_law_wise"]) fun _ _ _ _ _ _ us hl => match us, hl with | [_, _, _], _ => rfl
  have F13 := fun_mk (st := s_law_all_right) l13 c13 k13
  have b13 := F13.binds (ps := ["_law_well_here"]) fun _ _ _ _ _ _ us hl => match us, hl with | [_], _ => rfl
  have F14 := fun_mk (st := s_law) l14 c14 k14
  have b14 := F14.binds (ps := ["_law_script"]) fun _ _ _ _ _ _ us hl => match us, hl with | [_], _ => rfl
  refine ⟨(⟨cBellError, cBackward, cFallen, cNoBook, cNoClock, cNoFit, cNoHappening, cNoNumber, cNoRow, cNoText, cNoTime, cNoWish, cNoRoad, cRoad, t0, t1⟩ : Ad), PySem.W.fnOf "law" "law" (defArgs s_law) (defBody s_law) (defScope s_law) .none kV14 dc14 pm14 an14 cd14 ct14, fun s v => .of_eq rfl, fun base _ _ => ?_⟩
  have G_NoRoad___init__ : FnOk l.prog w K mg base (CXF l.prog w) 1 f0 _ ["self", "road"] (sp_NoRoad___init__ K (⟨cBellError, cBackward, cFallen, cNoBook, cNoClock, cNoFit, cNoHappening, cNoNumber, cNoRow, cNoText, cNoTime, cNoWish, cNoRoad, cRoad, t0, t1⟩ : Ad)) := FnOk.up (ok_NoRoad___init__ (P := l.prog) (w := w) (base := base) B  F0)
  have CI_NoRoad : CalI l.prog w K mg base "NoRoad" cNoRoad "road" 1 (.non) := ⟨cBellError, f0, _, _, _, G_NoRoad___init__, b0_0, rfl, ⟨⟨_, _, _, _, _, _, _, _, _, _, _, _, _, _, _, lxNoRoad⟩, xbNoRoad, a0, i0⟩, B.NoRoad⟩
  have G_is_whole : FnOk l.prog w K mg base (CXF l.prog w) 1 f1 _ ["thing"] (sp_is_whole K (⟨cBellError, cBackward, cFallen, cNoBook, cNoClock, cNoFit, cNoHappening, cNoNumber, cNoRow, cNoText, cNoTime, cNoWish, cNoRoad, cRoad, t0, t1⟩ : Ad)) := FnOk.up (ok_is_whole (P := l.prog) (w := w) (base := base) B  F1)
  have C_is_whole : CalX l.prog w K mg base "is_whole" ["thing"] 1 (sp_is_whole K (⟨cBellError, cBackward, cFallen, cNoBook, cNoClock, cNoFit, cNoHappening, cNoNumber, cNoRow, cNoText, cNoTime, cNoWish, cNoRoad, cRoad, t0, t1⟩ : Ad)) := ⟨_, _, G_is_whole, b1, k1, PySem.W.mg_of X G a1⟩
  have G_is_name : FnOk l.prog w K mg base (CXF l.prog w) 1 f3 _ ["thing"] (sp_is_name K (⟨cBellError, cBackward, cFallen, cNoBook, cNoClock, cNoFit, cNoHappening, cNoNumber, cNoRow, cNoText, cNoTime, cNoWish, cNoRoad, cRoad, t0, t1⟩ : Ad)) := FnOk.up (ok_is_name (P := l.prog) (w := w) (base := base) B  F3)
  have C_is_name : CalX l.prog w K mg base "is_name" ["thing"] 1 (sp_is_name K (⟨cBellError, cBackward, cFallen, cNoBook, cNoClock, cNoFit, cNoHappening, cNoNumber, cNoRow, cNoText, cNoTime, cNoWish, cNoRoad, cRoad, t0, t1⟩ : Ad)) := ⟨_, _, G_is_name, b3, k3, PySem.W.mg_of X G a3⟩
  have G_law_cell_at : FnOk l.prog w K mg base (CXF l.prog w) 1 f5 _ ["_law_script", "_law_k"] (sp_law_cell_at K (⟨cBellError, cBackward, cFallen, cNoBook, cNoClock, cNoFit, cNoHappening, cNoNumber, cNoRow, cNoText, cNoTime, cNoWish, cNoRoad, cRoad, t0, t1⟩ : Ad)) := FnOk.up (ok_law_cell_at (P := l.prog) (w := w) (base := base) B  F5)
  have C_law_cell_at : CalX l.prog w K mg base "_law_cell_at" ["_law_script", "_law_k"] 1 (sp_law_cell_at K (⟨cBellError, cBackward, cFallen, cNoBook, cNoClock, cNoFit, cNoHappening, cNoNumber, cNoRow, cNoText, cNoTime, cNoWish, cNoRoad, cRoad, t0, t1⟩ : Ad)) := ⟨_, _, G_law_cell_at, b5, k5, PySem.W.mg_of X G a5⟩
  have G_law_mixed : FnOk l.prog w K mg base (CXF l.prog w) 1 f6 _ ["_law_cell", "_law_k"] (sp_law_mixed K (⟨cBellError, cBackward, cFallen, cNoBook, cNoClock, cNoFit, cNoHappening, cNoNumber, cNoRow, cNoText, cNoTime, cNoWish, cNoRoad, cRoad, t0, t1⟩ : Ad)) := FnOk.up (ok_law_mixed (P := l.prog) (w := w) (base := base) B  F6)
  have C_law_mixed : CalX l.prog w K mg base "_law_mixed" ["_law_cell", "_law_k"] 1 (sp_law_mixed K (⟨cBellError, cBackward, cFallen, cNoBook, cNoClock, cNoFit, cNoHappening, cNoNumber, cNoRow, cNoText, cNoTime, cNoWish, cNoRoad, cRoad, t0, t1⟩ : Ad)) := ⟨_, _, G_law_mixed, b6, k6, PySem.W.mg_of X G a6⟩
  have G_law_well : FnOk l.prog w K mg base (CXF l.prog w) 1 f7 _ ["_law_cell"] (sp_law_well K (⟨cBellError, cBackward, cFallen, cNoBook, cNoClock, cNoFit, cNoHappening, cNoNumber, cNoRow, cNoText, cNoTime, cNoWish, cNoRoad, cRoad, t0, t1⟩ : Ad)) := FnOk.up (ok_law_well (P := l.prog) (w := w) (base := base) B  F7)
  have C_law_well : CalX l.prog w K mg base "_law_well" ["_law_cell"] 1 (sp_law_well K (⟨cBellError, cBackward, cFallen, cNoBook, cNoClock, cNoFit, cNoHappening, cNoNumber, cNoRow, cNoText, cNoTime, cNoWish, cNoRoad, cRoad, t0, t1⟩ : Ad)) := ⟨_, _, G_law_well, b7, k7, PySem.W.mg_of X G a7⟩
  have G_law_whole : FnOk l.prog w K mg base (CXF l.prog w) 1 f9 _ ["_law_found"] (sp_law_whole K (⟨cBellError, cBackward, cFallen, cNoBook, cNoClock, cNoFit, cNoHappening, cNoNumber, cNoRow, cNoText, cNoTime, cNoWish, cNoRoad, cRoad, t0, t1⟩ : Ad)) := FnOk.up (ok_law_whole (P := l.prog) (w := w) (base := base) B  F9)
  have C_law_whole : CalX l.prog w K mg base "_law_whole" ["_law_found"] 1 (sp_law_whole K (⟨cBellError, cBackward, cFallen, cNoBook, cNoClock, cNoFit, cNoHappening, cNoNumber, cNoRow, cNoText, cNoTime, cNoWish, cNoRoad, cRoad, t0, t1⟩ : Ad)) := ⟨_, _, G_law_whole, b9, k9, PySem.W.mg_of X G a9⟩
  have G_is_whole_from : FnOk l.prog w K mg base (CXF l.prog w) 2 f2 _ ["thing", "least"] (sp_is_whole_from K (⟨cBellError, cBackward, cFallen, cNoBook, cNoClock, cNoFit, cNoHappening, cNoNumber, cNoRow, cNoText, cNoTime, cNoWish, cNoRoad, cRoad, t0, t1⟩ : Ad)) := FnOk.up (ok_is_whole_from (P := l.prog) (w := w) (base := base) B C_is_whole F2)
  have C_is_whole_from : CalX l.prog w K mg base "is_whole_from" ["thing", "least"] 2 (sp_is_whole_from K (⟨cBellError, cBackward, cFallen, cNoBook, cNoClock, cNoFit, cNoHappening, cNoNumber, cNoRow, cNoText, cNoTime, cNoWish, cNoRoad, cRoad, t0, t1⟩ : Ad)) := ⟨_, _, G_is_whole_from, b2, k2, PySem.W.mg_of X G a2⟩
  have G_law_draw : FnOk l.prog w K mg base (CXF l.prog w) 2 f8 _ ["_law_well_here", "_law_most"] (sp_law_draw K (⟨cBellError, cBackward, cFallen, cNoBook, cNoClock, cNoFit, cNoHappening, cNoNumber, cNoRow, cNoText, cNoTime, cNoWish, cNoRoad, cRoad, t0, t1⟩ : Ad)) := FnOk.up (ok_law_draw (P := l.prog) (w := w) (base := base) B C_law_mixed F8)
  have C_law_draw : CalX l.prog w K mg base "_law_draw" ["_law_well_here", "_law_most"] 2 (sp_law_draw K (⟨cBellError, cBackward, cFallen, cNoBook, cNoClock, cNoFit, cNoHappening, cNoNumber, cNoRow, cNoText, cNoTime, cNoWish, cNoRoad, cRoad, t0, t1⟩ : Ad)) := ⟨_, _, G_law_draw, b8, k8, PySem.W.mg_of X G a8⟩
  have G_law_right : FnOk l.prog w K mg base (CXF l.prog w) 2 f11 _ ["_law_road", "_law_name", "_law_slow", "_law_wise"] (sp_law_right K (⟨cBellError, cBackward, cFallen, cNoBook, cNoClock, cNoFit, cNoHappening, cNoNumber, cNoRow, cNoText, cNoTime, cNoWish, cNoRoad, cRoad, t0, t1⟩ : Ad)) := FnOk.up (ok_law_right (P := l.prog) (w := w) (base := base) B C_law_whole F11)
  have C_law_right : CalX l.prog w K mg base "_law_right" ["_law_road", "_law_name", "_law_slow", "_law_wise"] 2 (sp_law_right K (⟨cBellError, cBackward, cFallen, cNoBook, cNoClock, cNoFit, cNoHappening, cNoNumber, cNoRow, cNoText, cNoTime, cNoWish, cNoRoad, cRoad, t0, t1⟩ : Ad)) := ⟨_, _, G_law_right, b11, k11, PySem.W.mg_of X G a11⟩
  have G_Road___init__ : FnOk l.prog w K mg base (CXF l.prog w) 3 f4 _ ["self", "name", "slow", "knows"] (sp_Road___init__ K (⟨cBellError, cBackward, cFallen, cNoBook, cNoClock, cNoFit, cNoHappening, cNoNumber, cNoRow, cNoText, cNoTime, cNoWish, cNoRoad, cRoad, t0, t1⟩ : Ad)) := ok_Road___init__ (P := l.prog) (w := w) (base := base) B C_is_name C_is_whole_from CI_NoRoad F4
  have CK_Road_1_knows : CalK l.prog w K mg base "Road" cRoad ["self", "name", "slow", "knows"] ["knows"] 3 gV1 (sp_Road___init__ K (⟨cBellError, cBackward, cFallen, cNoBook, cNoClock, cNoFit, cNoHappening, cNoNumber, cNoRow, cNoText, cNoTime, cNoWish, cNoRoad, cRoad, t0, t1⟩ : Ad)) := ⟨_, _, _, G_Road___init__, kb1 (fun s x y z X => by first | exact .of_eq rfl | exact PySem.W.binds_K X rfl d4 rfl rfl rfl), ⟨mkRoad, a4, i4, kcRoad⟩, B.Road⟩
  have CD_Road_3 : CalD l.prog w K mg base "Road" cRoad ["self", "name", "slow", "knows"] 3 [] (sp_Road___init__ K (⟨cBellError, cBackward, cFallen, cNoBook, cNoClock, cNoFit, cNoHappening, cNoNumber, cNoRow, cNoText, cNoTime, cNoWish, cNoRoad, cRoad, t0, t1⟩ : Ad)) := ⟨_, _, _, G_Road___init__, b4_3, .nil, ⟨mkRoad, a4, i4, kcRoad⟩, B.Road⟩
  have CD_Road_1 : CalD l.prog w K mg base "Road" cRoad ["self", "name", "slow", "knows"] 3 [.int 0, .bl false] (sp_Road___init__ K (⟨cBellError, cBackward, cFallen, cNoBook, cNoClock, cNoFit, cNoHappening, cNoNumber, cNoRow, cNoText, cNoTime, cNoWish, cNoRoad, cRoad, t0, t1⟩ : Ad)) := ⟨_, _, _, G_Road___init__, b4_1, (.cons ⟨_, rfl⟩ (.cons rfl .nil)), ⟨mkRoad, a4, i4, kcRoad⟩, B.Road⟩
  have CD_Road_2 : CalD l.prog w K mg base "Road" cRoad ["self", "name", "slow", "knows"] 3 [.bl false] (sp_Road___init__ K (⟨cBellError, cBackward, cFallen, cNoBook, cNoClock, cNoFit, cNoHappening, cNoNumber, cNoRow, cNoText, cNoTime, cNoWish, cNoRoad, cRoad, t0, t1⟩ : Ad)) := ⟨_, _, _, G_Road___init__, b4_2, (.cons rfl .nil), ⟨mkRoad, a4, i4, kcRoad⟩, B.Road⟩
  have G_law_names : FnOk l.prog w K mg base (CXF l.prog w) 3 f10 _ ["_law_well_here", "_law_many"] (sp_law_names K (⟨cBellError, cBackward, cFallen, cNoBook, cNoClock, cNoFit, cNoHappening, cNoNumber, cNoRow, cNoText, cNoTime, cNoWish, cNoRoad, cRoad, t0, t1⟩ : Ad)) := FnOk.up (ok_law_names (P := l.prog) (w := w) (base := base) B C_law_draw F10)
  have C_law_names : CalX l.prog w K mg base "_law_names" ["_law_well_here", "_law_many"] 3 (sp_law_names K (⟨cBellError, cBackward, cFallen, cNoBook, cNoClock, cNoFit, cNoHappening, cNoNumber, cNoRow, cNoText, cNoTime, cNoWish, cNoRoad, cRoad, t0, t1⟩ : Ad)) := ⟨_, _, G_law_names, b10, k10, PySem.W.mg_of X G a10⟩
  have G_law_refused : FnOk l.prog w K mg base (CXF l.prog w) 5 f12 _ ["_law_name", "_law_slow", "_law_wise"] (sp_law_refused K (⟨cBellError, cBackward, cFallen, cNoBook, cNoClock, cNoFit, cNoHappening, cNoNumber, cNoRow, cNoText, cNoTime, cNoWish, cNoRoad, cRoad, t0, t1⟩ : Ad)) := FnOk.up (ok_law_refused (P := l.prog) (w := w) (base := base) B CD_Road_3 F12)
  have C_law_refused : CalX l.prog w K mg base "_law_refused" ["_law_name", "_law_slow", "_law_wise"] 5 (sp_law_refused K (⟨cBellError, cBackward, cFallen, cNoBook, cNoClock, cNoFit, cNoHappening, cNoNumber, cNoRow, cNoText, cNoTime, cNoWish, cNoRoad, cRoad, t0, t1⟩ : Ad)) := ⟨_, _, G_law_refused, b12, k12, PySem.W.mg_of X G a12⟩
  have G_law_all_right : FnOk l.prog w K mg base (CXF l.prog w) 6 f13 _ ["_law_well_here"] (sp_law_all_right K (⟨cBellError, cBackward, cFallen, cNoBook, cNoClock, cNoFit, cNoHappening, cNoNumber, cNoRow, cNoText, cNoTime, cNoWish, cNoRoad, cRoad, t0, t1⟩ : Ad)) := FnOk.up (ok_law_all_right (P := l.prog) (w := w) (base := base) B C_law_right C_law_names C_law_draw C_law_refused CD_Road_3 CD_Road_1 CD_Road_2 CK_Road_1_knows F13)
  have C_law_all_right : CalX l.prog w K mg base "_law_all_right" ["_law_well_here"] 6 (sp_law_all_right K (⟨cBellError, cBackward, cFallen, cNoBook, cNoClock, cNoFit, cNoHappening, cNoNumber, cNoRow, cNoText, cNoTime, cNoWish, cNoRoad, cRoad, t0, t1⟩ : Ad)) := ⟨_, _, G_law_all_right, b13, k13, PySem.W.mg_of X G a13⟩
  exact ok_law (P := l.prog) (w := w) (base := base) B C_law_cell_at C_law_all_right C_law_well F14
theorem walk {l : PySem.W.OpenLaw} {q : Program} {loose : List Str} {XP : (Str → Option Value) → Heap → Prop} {YP : World → Heap → Prop} {d : DefRec} {K : Params → PySem.W.Frag} (hn : l.most = some 63) (hdf : d.params.defaults = [])
    (hY : ∀ (w : World) (h : Heap), YP w h → (K w.params).In h)
    (F : ∀ (w : World) (mg : Str → Option Value) (fa : Addr) (h : Heap), (K w.params).In h → h.Ns mainGlobals mg → mg d.name = some (.ref fa) →
      ∃ fd : FuncData, (∀ (s : Shared) (u : Value), BindsTo s fd ⟨[u], []⟩ [("_law_script", u)]) ∧ ∀ base : Heap, (K w.params).In base → base.Ns mainGlobals mg → FnOk l.prog w (K w.params) mg base CX0 7 fa fd ["_law_script"] (spL (K w.params))) :
    PySem.W.WalkO q loose XP YP l.row.toRowW d [] (fun f vs => PySem.call f vs) :=
  L2.walk_of (n := 63) (k := 7) (x := "_law_script") (CX := fun _ => CX0) (sp := fun w => spL (K w.params)) hn (by decide) hdf ⟨rfl, by decide, by decide⟩ hY F (fun _ _ a ns hl _ hS => ⟨a, ns, rfl, hS, hl, fun _ => rfl⟩) fun _ _ _ _ _ z => z
theorem all_mk2 {P : Program} {w : World} {K : PySem.W.Frag} {mg : Str → Option Value} {fa : Addr} (h : ∃ (a : Ad) (fd : FuncData), (∀ (s : Shared) (v : Value), BindsTo s fd ⟨[v], []⟩ [("_law_script", v)]) ∧ ∀ base : Heap, K.In base → base.Ns mainGlobals mg → FnOk P w K mg base CX0 7 fa fd ["_law_script"] (sp_law K a)) :
    ∃ fd : FuncData, (∀ (s : Shared) (v : Value), BindsTo s fd ⟨[v], []⟩ [("_law_script", v)]) ∧ ∀ base : Heap, K.In base → base.Ns mainGlobals mg → FnOk P w K mg base CX0 7 fa fd ["_law_script"] (spL K) := by
  obtain ⟨a, fd, b, q⟩ := h
  exact ⟨fd, b, fun base x y => q base x y⟩
end Bw
open PySem PySem.W PyProof.Rows
set_option maxRecDepth 100000 in
set_option maxHeartbeats 0 in
theorem PySem.Challenge.cw_bellsaway_k31_roads_made_holds : PySem.Challenge.rw_bellsaway_k31_roads_made.Holds := by
  w_on; o_law; k_head; (case hw => w_witness2)
  k_fill
  refine Bw.walk (l := PySem.Challenge.rw_bellsaway_k31_roads_made) rfl rfl (fun w h Y => PySem.W.kIn_of Y) ?F
  case F =>
    intro w mg fa h KX G hmg
    refine Bw.all_mk2 ?Z
    refine' Bw.all_mk KX G hmg ?a0 ?i0 ?l0 ?d0 ?c0 ?a1 ?l1 ?c1 ?k1 ?a2 ?l2 ?c2 ?k2 ?a3 ?l3 ?c3 ?k3 ?a4 ?i4 ?l4 ?d4 ?c4 ?a5 ?l5 ?c5 ?k5 ?a6 ?l6 ?c6 ?k6 ?a7 ?l7 ?c7 ?k7 ?a8 ?l8 ?c8 ?k8 ?a9 ?l9 ?c9 ?k9 ?a10 ?l10 ?c10 ?k10 ?a11 ?l11 ?c11 ?k11 ?a12 ?l12 ?c12 ?k12 ?a13 ?l13 ?c13 ?k13 ?a14 ?l14 ?c14 ?k14 ?y0 ?y1 ?y2 ?y3 ?y4 ?y5 ?y6 ?y7 ?y8 ?y9 ?y10 ?y11 ?y12 ?y13 ?y14 ?y15 ?y16 ?y17 ?y18 ?y19 ?y20 ?y21 ?y22 ?y23 ?y24_0 ?y24_1 ?y24_2 ?y24_3 ?y24_4 ?y24_5 ?y25 ?y26 ?y27 ?y28 ?y29 ?y30 ?y31 ?y32 ?y33 ?y34_0 ?y34_1 ?y34_2 ?y34_3 ?y34_4 ?y34_5 ?y34_6 ?y34_7 ?y35 ?y36 ?y37 ?lxNoRoad ?xbNoRoad ?sxNoRoad ?mkRoad ?kcRoad
    (case y0 => k_is)
    (case y1 => k_is)
    (case y2 => k_is)
    (case y3 => k_is)
    (case y4 => k_is)
    (case y5 => k_is)
    (case y6 => k_is)
    (case y7 => k_is)
    (case y8 => k_is)
    (case y9 => k_is)
    (case y10 => k_is)
    (case y11 => k_is)
    (case y12 => k_is)
    (case y13 => k_is)
    (case y14 => k_is)
    (case y15 => k_is)
    (case y16 => k_is)
    (case y17 => k_is)
    (case y18 => k_is)
    (case y19 => k_is)
    (case y20 => k_is)
    (case y21 => k_is)
    (case y22 => k_is)
    (case y23 => k_is)
    (case a0 => k_is)
    (case i0 => k_is)
    (case l0 => k_is)
    (case d0 => k_is)
    (case c0 => k_is)
    (case a1 => k_is)
    (case l1 => k_is)
    (case c1 => k_is)
    (case k1 => k_is)
    (case a2 => k_is)
    (case l2 => k_is)
    (case c2 => k_is)
    (case k2 => k_is)
    (case a3 => k_is)
    (case l3 => k_is)
    (case c3 => k_is)
    (case k3 => k_is)
    (case a4 => k_is)
    (case i4 => k_is)
    (case l4 => k_is)
    (case d4 => k_is)
    (case c4 => k_is)
    (case a5 => k_is)
    (case l5 => k_is)
    (case c5 => k_is)
    (case k5 => k_is)
    (case a6 => k_is)
    (case l6 => k_is)
    (case c6 => k_is)
    (case k6 => k_is)
    (case a7 => k_is)
    (case l7 => k_is)
    (case c7 => k_is)
    (case k7 => k_is)
    (case a8 => k_is)
    (case l8 => k_is)
    (case c8 => k_is)
    (case k8 => k_is)
    (case a9 => k_is)
    (case l9 => k_is)
    (case c9 => k_is)
    (case k9 => k_is)
    (case a10 => k_is)
    (case l10 => k_is)
    (case c10 => k_is)
    (case k10 => k_is)
    (case a11 => k_is)
    (case l11 => k_is)
    (case c11 => k_is)
    (case k11 => k_is)
    (case a12 => k_is)
    (case l12 => k_is)
    (case c12 => k_is)
    (case k12 => k_is)
    (case a13 => k_is)
    (case l13 => k_is)
    (case c13 => k_is)
    (case k13 => k_is)
    (case a14 => k_is)
    (case l14 => k_is)
    (case c14 => k_is)
    (case k14 => k_is)
    (case y24_0 => k_is)
    (case y24_1 => k_is)
    (case y24_2 => k_is)
    (case y24_3 => k_is)
    (case y24_4 => k_is)
    (case y24_5 => k_is)
    (case y25 => kts_exm)
    (case y26 => kit_is)
    (case y27 => kit_is)
    (case y28 => kit_is)
    (case y29 => kit_is)
    (case y30 => kit_is)
    (case y31 => k_is)
    (case y32 => k_is)
    (case y33 => k_is)
    (case y34_0 => k_is)
    (case y34_1 => k_is)
    (case y34_2 => k_is)
    (case y34_3 => k_is)
    (case y34_4 => k_is)
    (case y34_5 => k_is)
    (case y34_6 => k_is)
    (case y34_7 => k_is)
    (case y35 => k_is)
    (case y36 => k_is)
    (case y37 => k_is)
    (case lxNoRoad => k_is)
    (case xbNoRoad => k_exc)
    (case sxNoRoad => k_is)
    (case mkRoad => k_is)
    (case kcRoad => k_is)
