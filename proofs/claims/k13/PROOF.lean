import PyProof.Rows.All
import Wide.All
import OpenK.AllK
import Wide.FinOn
import Lean
import PyProof.EqAt
import PyProof.EqKinds
import PyProof.TupleCall
import PySem.Challenge.RW_bellsaway_k13_wishes_made
set_option Elab.async false
set_option linter.all false
set_option maxRecDepth 100000
namespace L2
open PySem PySem.Spec PyProof.Rows
abbrev Key := Sum Int Str
def keyIs : Key → Value → Bool
  | .inl k, v => Value.isInt k v
  | .inr x, v => Value.isStrOf x v
def keyH (w : World) : Key → Int
  | .inl k => hashInt k
  | .inr x => hashStr w x
theorem keyIs_shape : ∀ {k : Key} {v : Value}, keyIs k v = true → (∃ i t, k = Sum.inl i ∧ v = Value.int i t) ∨ (∃ x t, k = Sum.inr x ∧ v = Value.str x t)
  | .inl i, v, h => by
    obtain ⟨t, e⟩ := Value.isInt_shape (k := i) (v := v) h
    exact .inl ⟨i, t, rfl, e⟩
  | .inr x, v, h => by
    obtain ⟨t, e⟩ := Value.isStrOf_shape (x := x) (v := v) h
    exact .inr ⟨x, t, rfl, e⟩
theorem key_ll (a b : Int) : decide ((Sum.inl a : Key) = Sum.inl b) = (a == b) := by
  by_cases e : a = b
  · subst e; simp
  · have h : ¬ (Sum.inl a : Key) = Sum.inl b := fun q => e (Sum.inl.inj q)
    rw [decide_eq_false h]
    exact (beq_eq_false_iff_ne.mpr e).symm
theorem key_rr (a b : Str) : decide ((Sum.inr a : Key) = Sum.inr b) = decide (a = b) := by
  by_cases e : a = b
  · subst e; simp
  · have h : ¬ (Sum.inr a : Key) = Sum.inr b := fun q => e (Sum.inr.inj q)
    rw [decide_eq_false h, decide_eq_false e]
theorem key_lr (a : Int) (b : Str) : decide ((Sum.inl a : Key) = Sum.inr b) = false := decide_eq_false (fun q => nomatch q)
theorem key_rl (a : Str) (b : Int) : decide ((Sum.inr a : Key) = Sum.inl b) = false := decide_eq_false (fun q => nomatch q)
def mixKind (prog : Program) (w : World) : PySem.KeyKind prog w Key where
  is := keyIs
  hash := keyH w
  inj := fun v a b ha hb => by
    rcases keyIs_shape ha with ⟨i, t, rfl, rfl⟩ | ⟨x, t, rfl, rfl⟩
    · rcases keyIs_shape hb with ⟨j, u, rfl, e⟩ | ⟨y, u, rfl, e⟩
      · injection e with e1 _; rw [e1]
      · exact nomatch e
    · rcases keyIs_shape hb with ⟨j, u, rfl, e⟩ | ⟨y, u, rfl, e⟩
      · exact nomatch e
      · injection e with e1 _; rw [e1]
  byValue := fun k v h => by
    rcases keyIs_shape h with ⟨i, t, rfl, rfl⟩ | ⟨x, t, rfl, rfl⟩ <;> rfl
  pyHash := fun hv h => by
    rcases keyIs_shape hv with ⟨i, t, rfl, rfl⟩ | ⟨x, t, rfl, rfl⟩
    · exact wpAny_pyHash_int h
    · exact wpAny_pyHash_str h
  eqBool := fun hu hv h => by
    rcases keyIs_shape hu with ⟨i, t, rfl, rfl⟩ | ⟨x, t, rfl, rfl⟩
    · rcases keyIs_shape hv with ⟨j, u, rfl, rfl⟩ | ⟨y, u, rfl, rfl⟩
      · rw [key_ll] at h; exact wpAny_eqBool_int h
      · rw [key_lr] at h; exact SeqAt.EqAt.int_str i t y u _ _ _ _ h
    · rcases keyIs_shape hv with ⟨j, u, rfl, rfl⟩ | ⟨y, u, rfl, rfl⟩
      · rw [key_rl] at h; exact SeqAt.EqAt.str_int x t j u _ _ _ _ h
      · rw [key_rr] at h; exact wpAny_eqBool_str h
  «strs» := fun k x t v h => by
    rcases keyIs_shape h with ⟨i, u, rfl, e⟩ | ⟨y, u, rfl, e⟩
    · exact nomatch e
    · injection e with e1 _
      subst e1
      cases v <;> rfl
end L2
namespace L2
open PySem PySem.Spec PyProof.Rows
inductive V where
  | non | bl (b : Bool) | int (i : Int) | str (x : Str) | byt (b : Array UInt8) | flt (b : UInt64) | ref (a : Addr) | ty (n : String)
  deriving DecidableEq
def RelV : V → Value → Prop
  | .non, u => u = Value.none
  | .bl b, u => u = Value.bool b
  | .int i, u => ∃ t, u = Value.int i t
  | .str x, u => ∃ t, u = Value.str x t
  | .byt b, u => ∃ t, u = Value.bytes b t
  | .flt b, u => ∃ t, u = Value.float b t
  | .ref a, u => u = Value.ref a
  | .ty n, u => u = Value.type n
abbrev Vals : List V → List Value → Prop := Paired RelV
theorem Vals.length {xs : List V} {us : List Value} (r : Vals xs us) : xs.length = us.length := Paired.length r
theorem Vals.get : ∀ {xs : List V} {us : List Value} {i : Nat} {x : V}, Vals xs us → xs[i]? = some x → ∃ u, us[i]? = some u ∧ RelV x u
  | _, _, _, _, .nil, e => by simp at e
  | _, _, 0, _, .cons r _, e => by simp at e; subst e; exact ⟨_, rfl, r⟩
  | _, _, i + 1, x, .cons _ t, e => by
    obtain ⟨u, h1, h2⟩ := Vals.get (i := i) (x := x) t (by simpa using e)
    exact ⟨u, by simpa using h1, h2⟩
theorem Vals.set {x : V} {u : Value} (r : RelV x u) : ∀ {xs : List V} {us : List Value} (i : Nat), Vals xs us → Vals (xs.set i x) (us.set i u)
  | _, _, _, .nil => .nil
  | _, _, 0, .cons _ t => .cons r t
  | _, _, i + 1, .cons q t => .cons q (Vals.set r i t)
theorem Vals.append : ∀ {xs ys : List V} {us ws : List Value}, Vals xs us → Vals ys ws → Vals (xs ++ ys) (us ++ ws)
  | _, _, _, _, .nil, s => s
  | _, _, _, _, .cons r t, s => .cons r (Vals.append t s)
theorem Vals.take : ∀ {xs : List V} {us : List Value} (n : Nat), Vals xs us → Vals (xs.take n) (us.take n)
  | _, _, 0, _ => .nil
  | _, _, _ + 1, .nil => .nil
  | _, _, n + 1, .cons r t => .cons r (Vals.take n t)
theorem Vals.drop : ∀ {xs : List V} {us : List Value} (n : Nat), Vals xs us → Vals (xs.drop n) (us.drop n)
  | _, _, 0, r => r
  | _, _, _ + 1, .nil => .nil
  | _, _, n + 1, .cons _ t => Vals.drop n t
def RelO : Option V → Option Value → Prop
  | some v, some u => RelV v u
  | none, none => True
  | _, _ => False
def KV {κ : Type} : List (κ × V) → List (κ × Value) → Prop := Paired fun (p : κ × V) (q : κ × Value) => p.1 = q.1 ∧ RelV p.2 q.2
def kV : Key → V
  | .inl i => .int i
  | .inr x => .str x
inductive HO where
    | lst (xs : List V)
    | tup (xs : List V)
    | dK (kvs : List (Key × V)) | dT (kvs : List (List Key × V))
    | set (S : Int → Bool) (n : Nat)
    | ins (C dx : Addr) (fs : List (Str × V))
    | own (x : Addr)
    | xd (fs : List (Str × V))
    | met (f x : Addr)
    | rng (lo hi : Int)
    | frz (o : Obj) (u : HO)
    | tbl (ps : Array Value)
    | ext (φ : Heap → Prop)
abbrev Hp := Addr → Option HO
def upd (H : Hp) (a : Addr) (o : HO) : Hp := fun b => if b = a then some o else H b
theorem upd_same {H : Hp} {a : Addr} {o : HO} : upd H a o a = some o := by unfold upd; rw [if_pos rfl]
theorem upd_ne {H : Hp} {a b : Addr} {o : HO} (h : b ≠ a) : upd H a o b = H b := by unfold upd; rw [if_neg h]
theorem ne_of {H : Hp} {a b : Addr} {o u : HO} (h : H a = some o) (h' : H b = some u) (d : o ≠ u) : a ≠ b := by
  intro e; subst e; rw [h] at h'; exact d (Option.some.inj h')
theorem ne_of_none {H : Hp} {a b : Addr} {o : HO} (h : H a = some o) (h' : H b = none) : a ≠ b := by
  intro e; subst e; rw [h] at h'; cases h'
section
variable (P : Program) (w : World)
def ObjOk (H : Hp) (h : Heap) (a : Addr) : HO → Prop
  | .lst xs => xs.length ≤ sizeLine ∧ ∃ (its : List Value) (n : Nat), Vals xs its ∧ h.get? a = some { cls := .type "list", data := .seq its.toArray n }
  | .tup xs => xs.length ≤ sizeLine ∧ ∃ its : List Value, Vals xs its ∧ IsTup h a its.toArray
  | .dK kvs => kvs.length ≤ sizeLine ∧ (a == sysModules) = false ∧ ∃ vs, KV kvs vs ∧ h.DictOf (mixKind P w) a vs
  | .dT kvs => kvs.length ≤ sizeLine ∧ (a == sysModules) = false ∧ ∃ xs : List (List Key × Addr × Value),
      Paired (fun (p : List Key × V) (q : List Key × Addr × Value) => p.1 = q.1 ∧ H q.2.1 = some (.tup (p.1.map kV)) ∧ RelV p.2 q.2.2) kvs xs ∧
      ∃ o es ep, h.get? a = some o ∧ o.ExactDict ∧ o.data = .dict es ep ∧ es.toList = xs.map (entryOfKey (tupleKind (mixKind P w))) ∧ (xs.map (·.1)).Nodup
  | .set S n => h.SetOf (intKind P w) a S n
  | .ins C dx fs => H dx = some (.own a) ∧ fs.length ≤ 1000 ∧ dx ≠ a ∧ h.get? a = some (PySem.W.instObj C dx) ∧
      ∃ mA, h.Ns1 dx mA ∧ (∀ f, RelO (fs.lookup f) (mA f)) ∧ PySem.Within mA (fs.map (·.1))
  | .own _ => ∃ o, h.get? a = some o
  | .xd fs => ∃ mA, h.Ns1 a mA ∧ ∀ f, RelO (fs.lookup f) (mA f)
  | .rng lo hi => ∃ t u v, h.get? a = some { cls := .type "range", data := .fields #[.int lo t, .int hi u, .int 1 v] }
  | .frz o u => h.get? a = some o ∧ ObjOk H h a u
  | .tbl ps => h.get? a = some { cls := .none, data := .fields ps }
  | .met f x => h.get? a = some (PySem.W.methodObj (.ref f) (.ref x))
  | .ext φ => φ h ∧ (∃ o, h.get? a = some o) ∧ ∀ h1 h2 : Heap, φ h1 → (∀ o, h1.get? a = some o → h2.get? a = some o) → φ h2
def HOk (H : Hp) (h : Heap) : Prop := ∀ a o, H a = some o → ObjOk P w H h a o
end
section
variable {P : Program} {w : World} {H H' : Hp} {h h' : Heap} {a : Addr} {o : HO}
theorem ObjOk.lt (x : ObjOk P w H h a o) : a < h.objs.size := by
  cases o with
  | lst xs => obtain ⟨_, _, _, _, e⟩ := x; exact Heap.lt_size e
  | tup xs => obtain ⟨_, _, _, p⟩ := x; exact p.lt
  | dK kvs => obtain ⟨_, _, _, _, o, _, _, e, _⟩ := x; exact Heap.lt_size e
  | dT kvs => obtain ⟨_, _, _, _, o, _, _, e, _⟩ := x; exact Heap.lt_size e
  | set S n => obtain ⟨o, _, _, _, e, _⟩ := x; exact Heap.lt_size e
  | ins C dx fs => obtain ⟨_, _, _, e, _⟩ := x; exact Heap.lt_size e
  | own y => obtain ⟨_, e⟩ := x; exact Heap.lt_size e
  | xd fs => obtain ⟨_, ⟨_, _, _, e, _⟩, _⟩ := x; exact Heap.lt_size e
  | rng lo hi => obtain ⟨_, _, _, e⟩ := x; exact Heap.lt_size e
  | frz ob u => obtain ⟨e, _⟩ := x; exact Heap.lt_size e
  | tbl ps => exact Heap.lt_size (show h.get? a = some _ from x)
  | met f y => exact Heap.lt_size (show h.get? a = some _ from x)
  | ext φ => obtain ⟨_, ⟨_, e⟩, _⟩ := x; exact Heap.lt_size e
theorem Paired.mapP {α β : Type} {F G : α → β → Prop} : ∀ {l₁ : List α} {l₂ : List β}, Paired F l₁ l₂ → (∀ a b, F a b → G a b) → Paired G l₁ l₂
  | _, _, .nil, _ => .nil
  | _, _, .cons r t, f => .cons (f _ _ r) (Paired.mapP t f)
theorem ObjOk.stay (x : ObjOk P w H h a o) (k : ∀ b u, (b = a ∨ H b = some (.own a)) → h.get? b = some u → h'.get? b = some u)
    (ho : ∀ b, H b = some (.own a) → H' b = some (.own a)) (ht : ∀ b xs, H b = some (.tup xs) → H' b = some (.tup xs)) : ObjOk P w H' h' a o := by
  induction o with
  | lst xs => obtain ⟨z, its, n, r, e⟩ := x; exact ⟨z, its, n, r, k _ _ (.inl rfl) e⟩
  | tup xs => obtain ⟨z, its, r, ob, e, c⟩ := x; exact ⟨z, its, r, ob, k _ _ (.inl rfl) e, c⟩
  | dK kvs => obtain ⟨z, y, vs, r, ob, es, ep, e, c⟩ := x; exact ⟨z, y, vs, r, ob, es, ep, k _ _ (.inl rfl) e, c⟩
  | dT kvs =>
    obtain ⟨z, y, xs, r, ob, es, ep, e, c⟩ := x
    exact ⟨z, y, xs, Paired.mapP r fun p q z => ⟨z.1, ht _ _ z.2.1, z.2.2⟩, ob, es, ep, k _ _ (.inl rfl) e, c⟩
  | set S n => obtain ⟨ob, es, ep, t, e, c⟩ := x; exact ⟨ob, es, ep, t, k _ _ (.inl rfl) e, c⟩
  | ins C dx fs =>
    obtain ⟨d, z, ne, e, mA, ⟨od, es, ep, e2, c⟩, r⟩ := x
    exact ⟨ho _ d, z, ne, k _ _ (.inl rfl) e, mA, ⟨od, es, ep, k _ _ (.inr d) e2, c⟩, r⟩
  | own y => obtain ⟨ob, e⟩ := x; exact ⟨ob, k _ _ (.inl rfl) e⟩
  | xd fs => obtain ⟨mA, ⟨od, es, ep, e, c⟩, r⟩ := x; exact ⟨mA, ⟨od, es, ep, k _ _ (.inl rfl) e, c⟩, r⟩
  | rng lo hi => obtain ⟨t, u, v, e⟩ := x; exact ⟨t, u, v, k _ _ (.inl rfl) e⟩
  | frz ob u ih => obtain ⟨e, q⟩ := x; exact ⟨k _ _ (.inl rfl) e, ih q⟩
  | tbl ps =>
    have e : h.get? a = some { cls := .none, data := .fields ps } := x
    show h'.get? a = some { cls := .none, data := .fields ps }
    exact k a _ (.inl rfl) e
  | met f y =>
    have e : h.get? a = some (PySem.W.methodObj (.ref f) (.ref y)) := x
    show h'.get? a = some (PySem.W.methodObj (.ref f) (.ref y))
    exact k a _ (.inl rfl) e
  | ext φ => obtain ⟨p, ⟨o, e⟩, st⟩ := x; exact ⟨st _ _ p fun o q => k _ _ (.inl rfl) q, ⟨o, k _ _ (.inl rfl) e⟩, st⟩
theorem HOk.lt (x : HOk P w H h) (e : H a = some o) : a < h.objs.size := (x a o e).lt
theorem HOk.fresh (x : HOk P w H h) (e : h.objs.size ≤ a) : H a = none := by
  cases q : H a with
  | none => rfl
  | some u => exact absurd (Nat.lt_of_lt_of_le (x.lt q) e) (Nat.lt_irrefl _)
theorem HOk.kept (x : HOk P w H h) (k : ∀ b u, h.get? b = some u → h'.get? b = some u) : HOk P w H h' := fun a o e =>
  (x a o e).stay (fun b u _ q => k b u q) (fun _ q => q) fun _ _ q => q
theorem HOk.laid (x : HOk P w H h) (k : ∀ b u, h.get? b = some u → h'.get? b = some u) (hp : h.objs.size ≤ a) (new : ObjOk P w (upd H a o) h' a o) : HOk P w (upd H a o) h' := fun b u e => by
  have hn := x.fresh hp
  by_cases hb : b = a
  · subst hb; rw [upd_same] at e; cases e; exact new
  · rw [upd_ne hb] at e
    exact (x b u e).stay (fun c v _ q => k c v q) (fun c q => by rw [upd_ne (ne_of_none q hn)]; exact q) fun c xs q => by rw [upd_ne (ne_of_none q hn)]; exact q
end
def Rd (H : Hp) (a : Addr) (u : HO) : Prop := H a = some u ∨ ∃ o, H a = some (.frz o u)
theorem Rd.of {H : Hp} {a : Addr} {u : HO} (h : H a = some u) : Rd H a u := .inl h
theorem Rd.ok {P : Program} {w : World} {H : Hp} {h : Heap} {a : Addr} {u : HO} (r : Rd H a u) (x : HOk P w H h) : ObjOk P w H h a u := by
  rcases r with r | ⟨o, r⟩
  · exact x a u r
  · obtain ⟨_, q⟩ := x a _ r
    exact q
def Mut : Option HO → Prop
  | some (.lst _) => True
  | some (.dK _) => True
  | some (.dT _) => True
  | some (.set _ _) => True
  | some (.ins _ _ _) => True
  | some (.ext _) => True
  | _ => False
section
variable {P : Program} {w : World} {H : Hp} {h h' : Heap} {x e : Addr} {o' : HO}
theorem HOk.write (ok : HOk P w H h) (mu : Mut (H x)) (he : e = x ∨ H e = some (.own x)) (k : ∀ b u, b ≠ e → h.get? b = some u → h'.get? b = some u) (heo : ∃ u, h'.get? e = some u)
    (new : ObjOk P w (upd H x o') h' x o') : HOk P w (upd H x o') h' := fun b u q => by
  have nown : ∀ c y, H c = some (.own y) → c ≠ x := fun c y r z => by subst z; rw [r] at mu; exact mu
  have ntup : ∀ c xs, H c = some (.tup xs) → c ≠ x := fun c xs r z => by subst z; rw [r] at mu; exact mu
  by_cases hb : b = x
  · subst hb; rw [upd_same] at q; cases q; exact new
  · rw [upd_ne hb] at q
    by_cases hbe : b = e
    · have q' : H b = some (.own x) := by
        rcases he with z | z
        · exact absurd (hbe.trans z) hb
        · rw [hbe]; exact z
      rw [q] at q'; cases q'
      obtain ⟨v, hv⟩ := heo
      exact ⟨v, by rw [hbe]; exact hv⟩
    · refine (ok b u q).stay (fun c v hc r => k c v ?_ r) (fun c r => by rw [upd_ne (nown c b r)]; exact r) fun c xs r => by rw [upd_ne (ntup c xs r)]; exact r
      rcases hc with rfl | hc
      · exact hbe
      · rintro rfl
        rcases he with z | z
        · exact nown c b hc z
        · rw [hc] at z; cases z; exact hb rfl
end
structure Un (fs ex : List Addr) (H H' : Hp) (h h' : Heap) : Prop where
  keep : ∀ b o, h.get? b = some o → H b = none → b ∉ fs → b ∉ ex → h'.get? b = some o
  slot : ∀ b o, h.get? b = some o → H b = none → b ∈ fs → b ∉ ex → ∃ sl, h'.get? b = some { o with slots := sl }
  free : ∀ b o, h.get? b = some o → H b = none → b ∉ ex → H' b = none
  there : ∀ b o, h.get? b = some o → b ∉ ex → ∃ o', h'.get? b = some o'
  tups : ∀ b xs, H b = some (.tup xs) → H' b = some (.tup xs)
  frzs : ∀ b o u, H b = some (.frz o u) → H' b = some (.frz o u)
  tbls : ∀ b ps, H b = some (.tbl ps) → ∃ more, H' b = some (.tbl (ps ++ more))
section
variable {fs fs' ex ex' : List Addr} {H H1 H2 : Hp} {h h1 h2 h' : Heap} {a x e : Addr} {o : HO}
theorem Un.any (u : Un fs ex H H1 h h1) {b : Addr} {ob : Obj} (q : h.get? b = some ob) (n : H b = none) (hx : b ∉ ex) : ∃ sl, h1.get? b = some { ob with slots := sl } := by
  by_cases hb : b ∈ fs
  · exact u.slot b ob q n hb hx
  · exact ⟨ob.slots, u.keep b ob q n hb hx⟩
theorem Un.trans (a : Un fs ex H H1 h h1) (b : Un fs ex H1 H2 h1 h2) : Un fs ex H H2 h h2 where
  keep := fun c ob q n hc hx => b.keep c ob (a.keep c ob q n hc hx) (a.free c ob q n hx) hc hx
  slot := fun c ob q n hc hx => by
    obtain ⟨sl, e1⟩ := a.slot c ob q n hc hx
    obtain ⟨sl', e2⟩ := b.slot c _ e1 (a.free c ob q n hx) hc hx
    exact ⟨sl', e2⟩
  free := fun c ob q n hx => by
    obtain ⟨o', e1⟩ := a.there c ob q hx
    exact b.free c o' e1 (a.free c ob q n hx) hx
  there := fun c ob q hx => by
    obtain ⟨o', e1⟩ := a.there c ob q hx
    exact b.there c o' e1 hx
  tups := fun c xs q => b.tups c xs (a.tups c xs q)
  frzs := fun c ob xs q => b.frzs c ob xs (a.frzs c ob xs q)
  tbls := fun c ps q => by
    obtain ⟨m1, e1⟩ := a.tbls c ps q
    obtain ⟨m2, e2⟩ := b.tbls c _ e1
    exact ⟨m1 ++ m2, by rw [e2, Array.append_assoc]⟩
theorem Un.kept (k : ∀ b u, h.get? b = some u → h'.get? b = some u) : Un fs ex H H h h' :=
  ⟨fun b ob q _ _ _ => k b ob q, fun b ob q _ _ _ => ⟨ob.slots, k b ob q⟩, fun _ _ _ n _ => n, fun b ob q _ => ⟨ob, k b ob q⟩, fun _ _ q => q, fun _ _ _ q => q, fun _ ps q => ⟨#[], by rw [q]; simp⟩⟩
theorem Un.refl : Un fs ex H H h h := Un.kept fun _ _ q => q
theorem Un.laid (k : ∀ b u, h.get? b = some u → h'.get? b = some u) (hp : h.objs.size ≤ a) (hn : H a = none) : Un fs ex H (upd H a o) h h' where
  keep := fun b u q _ _ _ => k b u q
  slot := fun b u q _ _ _ => ⟨u.slots, k b u q⟩
  free := fun b u q n _ => by rw [upd_ne (Nat.ne_of_lt (Nat.lt_of_lt_of_le (Heap.lt_size q) hp))]; exact n
  there := fun b u q _ => ⟨u, k b u q⟩
  tups := fun b xs q => by rw [upd_ne (ne_of_none q hn)]; exact q
  frzs := fun b u xs q => by rw [upd_ne (ne_of_none q hn)]; exact q
  tbls := fun b ps q => ⟨#[], by rw [upd_ne (ne_of_none q hn), q]; simp⟩
theorem Un.write (mu : Mut (H x)) (he : e = x ∨ H e = some (.own x)) (k : ∀ b u, b ≠ e → h.get? b = some u → h'.get? b = some u) (heo : ∃ u, h'.get? e = some u) : Un fs ex H (upd H x o) h h' := by
  have hx : ∀ b, H b = none → b ≠ x := fun b n z => by subst z; rw [n] at mu; exact mu
  have hb : ∀ b, H b = none → b ≠ e := fun b n z => by
    subst z
    rcases he with r | r
    · exact hx b n r
    · rw [n] at r; cases r
  have hm : ∀ b u, H b = some u → ¬ Mut (some u) → b ≠ x := fun b u q nm z => by subst z; rw [q] at mu; exact nm mu
  refine ⟨fun b u q n _ _ => k b u (hb b n) q, fun b u q n _ _ => ⟨u.slots, k b u (hb b n) q⟩, fun b u q n _ => by rw [upd_ne (hx b n)]; exact n, fun b u q _ => ?_,
    fun b xs q => by rw [upd_ne (hm b _ q fun z => z)]; exact q, fun b u xs q => by rw [upd_ne (hm b _ q fun z => z)]; exact q, fun b ps q => ⟨#[], by rw [upd_ne (hm b _ q fun z => z), q]; simp⟩⟩
  by_cases hbe : b = e
  · subst hbe; exact heo
  · exact ⟨u, k b u hbe q⟩
theorem Un.mono (u : Un fs ex H H1 h h1) (hs : ∀ b ∈ fs, b ∈ fs') (hx : ∀ b ∈ ex, b ∈ ex') : Un fs' ex' H H1 h h1 :=
  ⟨fun b ob q n hb he => u.keep b ob q n (fun z => hb (hs b z)) fun z => he (hx b z), fun _ _ q n _ he => u.any q n fun z => he (hx _ z), fun b ob q n he => u.free b ob q n fun z => he (hx b z), fun b ob q he => u.there b ob q fun z => he (hx b z), u.tups, u.frzs, u.tbls⟩
end
def trk (h : Heap) (H : Hp) : List Addr := (List.range h.objs.size).filter fun a => (H a).isSome
def hidT (h : Heap) (H : Hp) : Heap := PySem.W.hideAll h (trk h H)
theorem hidT_size (h : Heap) (H : Hp) : (hidT h H).objs.size = h.objs.size := PySem.W.hideAll_size _ _
theorem hidT_get {h : Heap} {H : Hp} {b : Addr} {o : Obj} (e : h.get? b = some o) (n : H b = none) : (hidT h H).get? b = some o :=
  PySem.W.hideAll_get _ e fun hm => by
    have q : (H b).isSome = true := (List.mem_filter.mp hm).2
    rw [n] at q; simp at q
theorem of_hidT {h : Heap} {H : Hp} {b : Addr} {o : Obj} (e : (hidT h H).get? b = some o) : h.get? b = some o ∧ H b = none := by
  have e' : h.get? b = some o := PySem.W.of_hideAll (trk h H) e
  refine ⟨e', ?_⟩
  cases q : H b with
  | none => rfl
  | some x =>
    have hm : b ∈ trk h H := List.mem_filter.mpr ⟨List.mem_range.mpr (Heap.lt_size e'), by simp [q]⟩
    have z : (hidT h H).get? b = none := PySem.W.hideAll_none (trk h H) hm
    rw [z] at e; cases e
def allNews (g h : Heap) (L : Addr) : List (Addr × Obj) := (List.range h.objs.size).filterMap fun a => if a = L ∨ (g.get? a).isSome = true then none else (h.get? a).map fun o => (a, o)
def rest (g h : Heap) (L d : Addr) : List (Addr × Obj) := (allNews g h L).filter fun p => decide (p.1 ≠ d)
end L2
namespace L2
open PySem PySem.Spec PyProof.Rows
structure Mod (K : PySem.W.Frag) (mg : Str → Option Value) (base : Heap) : Prop where
  kin : K.In base
  glob : base.Ns mainGlobals mg
  blt : ∃ mb, base.Ns builtinsNs mb ∧ ∀ x : Str, x ≠ "__name__" → mb x = bootBuiltins x
  nolimit : base.NoLimit
structure Cx where
  prog : Program
  w : World
  K : PySem.W.Frag
  mg : Str → Option Value
  base : Heap
  A : Around
  N : List Str
  s₀ : Shared
  H₀ : Hp
  env : Env
  outer : List Env
  stack : List Env
  ex : List Addr
  fn : Str → Bool
  calm : Bool
  pn : List (Addr × Obj)
  xe : Value → Shared → Prop
def frs (l : List Env) : List Addr := l.filterMap (·.frame)
abbrev Cx.fs (X : Cx) : List Addr := frs X.outer
def Vis (sc : Scope) (x : Str) : Prop := sc.names.lookup x = some .local ∨ sc.names.lookup x = some .cell ∨ sc.names.lookup x = some .free
def Loc (sc : Scope) (x : Str) : Prop := sc.names.lookup x = some .local ∨ sc.names.lookup x = some .cell
def Look (env : Env) (h : Heap) (m : Str → Option Value) (x : Str) (u : Value) : Prop :=
  (env.kindOf x = some .local ∧ m x = some u) ∨ ((env.kindOf x = some .cell ∨ env.kindOf x = some .free) ∧ ∃ c, env.cells.lookup x = some c ∧ h.IsCell c (some u))
structure Cx.Ok (X : Cx) : Prop where
  mod : Mod X.K X.mg X.base
  kind : X.env.scope.kind = .function
  glob : X.env.globals = mainGlobals
  blt : X.env.builtins = builtinsNs
  above : X.s₀.heap.objs.size ≤ X.env.locals
  inj : ∀ x y c, X.env.cells.lookup x = some c → X.env.cells.lookup y = some c → x = y
  has : ∀ x, (X.env.kindOf x = some .cell ∨ X.env.kindOf x = some .free) → ∃ c, X.env.cells.lookup x = some c
  cab : ∀ x c, X.fn x = true → X.env.cells.lookup x = some c → X.s₀.heap.objs.size ≤ c
  hd : X.calm = true → X.A.handled = none
  frames : X.A.frames = some X.stack
  stk : X.stack = X.outer ∨ (X.stack = X.env :: X.outer ∧ X.env.frame = some X.env.locals)
  exf : ∀ b ∈ X.ex, b ≠ X.env.locals ∧ ∀ x c, X.env.cells.lookup x = some c → c ≠ b
  bs : ∀ b o, X.base.get? b = some o → X.s₀.heap.get? b = some o ∧ X.H₀ b = none
  bsz : X.base.objs.size ≤ X.s₀.heap.objs.size
  noex : ∀ b o, X.base.get? b = some o → b ∉ X.ex
  exfs : ∀ b ∈ X.ex, b ∉ X.fs
  funs : X.s₀.heap.FunFrames X.base X.outer
  frf : ∀ b ∈ X.fs, X.H₀ b = none
structure Inv (X : Cx) (pins : List (Addr × Obj)) (σ : List (Option V)) (H : Hp) (s : Shared) : Prop where
  ok : X.Ok
  os : s.os = X.s₀.os
  bare : AllBare s.gens
  base : Un X.fs X.ex X.H₀ H X.s₀.heap s.heap
  loc : ∃ m, s.heap.Ns X.env.locals m ∧ ∀ (i : Nat) (x : Str) (v : V), X.N[i]? = some x → σ[i]? = some (some v) → Vis X.env.scope x → ∃ u, RelV v u ∧ Look X.env s.heap m x u
  cell : ∀ x c, X.env.cells.lookup x = some c → ∃ v, s.heap.IsCell c v
  free : H X.env.locals = none
  freeC : ∀ x c, X.env.cells.lookup x = some c → H c = none
  pin : ∀ p ∈ X.pn ++ pins, s.heap.get? p.1 = some p.2 ∧ H p.1 = none ∧ p.1 ≠ X.env.locals ∧ p.1 ∉ X.fs ∧ ∀ v, p.2.data ≠ .cell v
  hok : HOk X.prog X.w H s.heap
  len : σ.length = X.N.length
section
variable {X : Cx} {pins : List (Addr × Obj)} {σ : List (Option V)} {H H' : Hp} {s : Shared} {h' : Heap}
theorem Cx.Ok.nofr (ok : X.Ok) {b : Addr} {o : Obj} (e : X.base.get? b = some o) : b ∉ X.fs := fun hb => by
  have := (ok.funs.mem hb).1
  rw [e] at this; cases this
theorem Inv.bs (I : Inv X pins σ H s) : ∀ b o, X.base.get? b = some o → s.heap.get? b = some o ∧ H b = none := fun b o e =>
  ⟨I.base.keep b o (I.ok.bs b o e).1 (I.ok.bs b o e).2 (I.ok.nofr e) (I.ok.noex b o e), I.base.free b o (I.ok.bs b o e).1 (I.ok.bs b o e).2 (I.ok.noex b o e)⟩
theorem Inv.bk (I : Inv X pins σ H s) : ∀ b o, X.base.get? b = some o → s.heap.get? b = some o := fun b o e => (I.bs b o e).1
theorem Inv.mod (I : Inv X pins σ H s) : Mod X.K X.mg X.base := I.ok.mod
theorem Inv.kIn (I : Inv X pins σ H s) : X.K.In s.heap := I.ok.mod.kin.keeps I.bk
theorem Inv.nolimit (I : Inv X pins σ H s) : s.heap.NoLimit := I.ok.mod.nolimit.keeps I.bk
theorem Inv.fr (I : Inv X pins σ H s) : ∃ m, Fr X.base X.env.locals s.heap m :=
  let ⟨m, hn, _⟩ := I.loc
  ⟨m, hn, I.bk, Nat.le_trans I.ok.bsz I.ok.above⟩
theorem Inv.lt (I : Inv X pins σ H s) : X.env.locals < s.heap.objs.size := let ⟨_, hn, _⟩ := I.loc; hn.lt
theorem Inv.sz (I : Inv X pins σ H s) : X.s₀.heap.objs.size ≤ s.heap.objs.size := Nat.le_trans I.ok.above (Nat.le_of_lt I.lt)
theorem Inv.nofs (I : Inv X pins σ H s) {a : Addr} (h : s.heap.objs.size ≤ a) : a ∉ X.fs := fun hb => by
  obtain ⟨_, o, ho, _⟩ := I.ok.funs.mem hb
  exact absurd (Nat.lt_of_lt_of_le (Heap.lt_size ho) (Nat.le_trans I.sz h)) (Nat.lt_irrefl _)
theorem Inv.cne (I : Inv X pins σ H s) : ∀ x c, X.env.cells.lookup x = some c → c ≠ X.env.locals := fun x c e z => by
  obtain ⟨v, o, ho, hd⟩ := I.cell x c e
  obtain ⟨m, ⟨o', es, ep, ho', hd', _⟩, _⟩ := I.loc
  rw [z, ho'] at ho; cases ho; rw [hd'] at hd; cases hd
theorem Inv.funs (I : Inv X pins σ H s) : s.heap.FunFrames X.base X.outer := by
  have all : ∀ (l : List Env), (∀ b ∈ frs l, b ∈ X.fs) → X.s₀.heap.FunFrames X.base l → s.heap.FunFrames X.base l := by
    intro l
    induction l with
    | nil => intro _ _; trivial
    | cons env r ih =>
      intro hs hl
      obtain ⟨hk, ⟨L, o, hf, hn, ho, hd⟩, hr⟩ := hl
      have hL : L ∈ X.fs := hs L (by unfold frs; rw [List.filterMap_cons, hf]; exact List.mem_cons_self)
      obtain ⟨sl, e⟩ := I.base.slot L o ho (I.ok.frf L hL) hL fun z => I.ok.exfs L z hL
      exact ⟨hk, ⟨L, _, hf, hn, e, hd⟩, ih (fun b hb => hs b (by unfold frs; rw [List.filterMap_cons, hf]; exact List.mem_cons_of_mem _ hb)) hr⟩
  exact all X.outer (fun _ hb => hb) I.ok.funs
theorem Inv.stack (I : Inv X pins σ H s) : s.heap.FunFrames X.base X.stack := by
  rcases I.ok.stk with e | ⟨e, hf⟩
  · rw [e]; exact I.funs
  · rw [e]
    obtain ⟨m, hn, _⟩ := I.loc
    refine .cons (by rw [I.ok.kind]; decide) hf hn ?_ I.funs
    exact Heap.get?_none_of_le (Nat.le_trans I.ok.bsz I.ok.above)
theorem Inv.stkSub (I : Inv X pins σ H s) : ∀ b ∈ frs X.stack, b ∈ X.env.locals :: X.fs := fun b hb => by
  rcases I.ok.stk with e | ⟨e, hf⟩
  · rw [e] at hb; exact List.mem_cons_of_mem _ hb
  · rw [e] at hb
    unfold frs at hb
    rw [List.filterMap_cons, hf] at hb
    exact hb
theorem Inv.stkFree (I : Inv X pins σ H s) : ∀ b ∈ frs X.stack, H b = none := fun b hb => by
  rcases List.mem_cons.mp (I.stkSub b hb) with e | hb
  · rw [e]; exact I.free
  · obtain ⟨_, o, ho, _⟩ := I.ok.funs.mem hb
    exact I.base.free b o ho (I.ok.frf b hb) fun z => I.ok.exfs b z hb
theorem Inv.step {g' : Array GenState} {t' : Nat} {d' : Drawn} {ch : List Addr} (I : Inv X pins σ H s)
    (hch : ∀ b ∈ ch, (b ∈ X.ex ∨ X.s₀.heap.objs.size ≤ b) ∧ b ≠ X.env.locals ∧ (∀ x c, X.env.cells.lookup x = some c → c ≠ b) ∧ ∀ p ∈ X.pn ++ pins, p.1 ≠ b)
    (keep : ∀ b o, b ≠ X.env.locals → b ∉ X.fs → b ∉ ch → s.heap.get? b = some o → H b = none → h'.get? b = some o)
    (slot : ∀ b o, b ≠ X.env.locals → b ∈ X.fs → b ∉ ch → s.heap.get? b = some o → H b = none → ∃ sl, h'.get? b = some { o with slots := sl }) (free : ∀ b o, b ∉ ch → s.heap.get? b = some o → H b = none → H' b = none)
    (there : ∀ b o, b ∉ ch → s.heap.get? b = some o → ∃ o', h'.get? b = some o')
    (tups : ∀ b xs, H b = some (.tup xs) → H' b = some (.tup xs)) (frzs : ∀ b o u, H b = some (.frz o u) → H' b = some (.frz o u)) (tbls : ∀ b ps, H b = some (.tbl ps) → ∃ more, H' b = some (.tbl (ps ++ more)))
    (ns : ∀ m, s.heap.Ns X.env.locals m → h'.Ns X.env.locals m) (hok : HOk X.prog X.w H' h') (hg : AllBare g') :
    Inv X pins σ H' { s with heap := h', gens := g', drawn := d', toks := t' } := by
  have neL : ∀ b o, X.s₀.heap.get? b = some o → b ≠ X.env.locals := fun b o e => Nat.ne_of_lt (Nat.lt_of_lt_of_le (Heap.lt_size e) I.ok.above)
  have neC : ∀ b o, X.s₀.heap.get? b = some o → b ∉ X.ex → b ∉ ch := fun b o e hx hb => by
    rcases (hch b hb).1 with z | z
    · exact hx z
    · exact absurd (Nat.lt_of_lt_of_le (Heap.lt_size e) z) (Nat.lt_irrefl _)
  have cellK : ∀ x c, X.env.cells.lookup x = some c → ∀ v, s.heap.IsCell c v → h'.IsCell c v := fun x c e v ⟨o, ho, hd⟩ => by
    have nch : c ∉ ch := fun z => (hch c z).2.2.1 x c e rfl
    by_cases hc : c ∈ X.fs
    · obtain ⟨sl, q⟩ := slot c o (I.cne x c e) hc nch ho (I.freeC x c e)
      exact ⟨_, q, hd⟩
    · exact ⟨o, keep c o (I.cne x c e) hc nch ho (I.freeC x c e), hd⟩
  refine ⟨I.ok, I.os, hg, ⟨fun b o e n hb hx => ?_, fun b o e n hb hx => ?_, fun b o e n hx => ?_, fun b o e hx => ?_, fun b xs e => tups b xs (I.base.tups b xs e), fun b o xs e => frzs b o xs (I.base.frzs b o xs e), fun b ps e => ?_⟩, ?_, fun x c e => ?_, ?_, fun x c e => ?_, fun p hp => ?_, hok, I.len⟩
  · exact keep b o (neL b o e) hb (neC b o e hx) (I.base.keep b o e n hb hx) (I.base.free b o e n hx)
  · obtain ⟨sl, e1⟩ := I.base.slot b o e n hb hx
    obtain ⟨sl', e2⟩ := slot b _ (neL b o e) hb (neC b o e hx) e1 (I.base.free b o e n hx)
    exact ⟨sl', e2⟩
  · obtain ⟨o', e1⟩ := I.base.there b o e hx
    exact free b o' (neC b o e hx) e1 (I.base.free b o e n hx)
  · obtain ⟨o', e1⟩ := I.base.there b o e hx
    exact there b o' (neC b o e hx) e1
  · obtain ⟨m1, e1⟩ := I.base.tbls b ps e
    obtain ⟨m2, e2⟩ := tbls b _ e1
    exact ⟨m1 ++ m2, by rw [e2, Array.append_assoc]⟩
  · obtain ⟨m, hn, hl⟩ := I.loc
    refine ⟨m, ns m hn, fun i x v e1 e2 e3 => ?_⟩
    obtain ⟨u, r, l⟩ := hl i x v e1 e2 e3
    refine ⟨u, r, ?_⟩
    rcases l with l | ⟨k, c, e, z⟩
    · exact .inl l
    · exact .inr ⟨k, c, e, cellK x c e _ z⟩
  · obtain ⟨v, z⟩ := I.cell x c e
    exact ⟨v, cellK x c e v z⟩
  · obtain ⟨m, ⟨o, _, _, ho, _⟩, _⟩ := I.loc
    exact free _ o (fun z => (hch _ z).2.1 rfl) ho I.free
  · obtain ⟨v, o, ho, hd⟩ := I.cell x c e
    exact free c o (fun z => (hch c z).2.2.1 x c e rfl) ho (I.freeC x c e)
  · obtain ⟨e, n, ne, nf, d⟩ := I.pin p hp
    have nch : p.1 ∉ ch := fun z => (hch p.1 z).2.2.2 p hp rfl
    exact ⟨keep p.1 p.2 ne nf nch e n, free p.1 p.2 nch e n, ne, nf, d⟩
theorem Inv.un {t' : Nat} (I : Inv X pins σ H s) (u : Un X.fs [] H H' s.heap h') (hok : HOk X.prog X.w H' h') : Inv X pins σ H' { s with heap := h', toks := t' } := by
  obtain ⟨m, ⟨o, es, ep, ho, r⟩, _⟩ := id I.loc
  obtain ⟨sl, hL⟩ := u.any ho I.free (by simp)
  exact I.step (g' := s.gens) (d' := s.drawn) (ch := []) (fun _ z => nomatch z) (fun b o _ hb _ e n => u.keep b o e n hb (by simp)) (fun b o _ hb _ e n => u.slot b o e n hb (by simp)) (fun b o _ e n => u.free b o e n (by simp)) (fun b o _ e => u.there b o e (by simp)) u.tups u.frzs u.tbls (fun m' hm => by
    obtain ⟨o', es', ep', ho', r'⟩ := hm
    rw [ho] at ho'; cases ho'
    exact ⟨_, es', ep', hL, r'⟩) hok I.bare
theorem Inv.call {g' : Array GenState} {t' : Nat} {d' : Drawn} {ch : List Addr} (I : Inv X pins σ H s) (u : Un (frs X.stack) ch H H' s.heap h') (hok : HOk X.prog X.w H' h') (hg : AllBare g')
    (hch : ∀ b ∈ ch, (b ∈ X.ex ∨ X.s₀.heap.objs.size ≤ b) ∧ b ≠ X.env.locals ∧ (∀ x c, X.env.cells.lookup x = some c → c ≠ b) ∧ ∀ p ∈ X.pn ++ pins, p.1 ≠ b) :
    Inv X pins σ H' { s with heap := h', gens := g', drawn := d', toks := t' } := by
  obtain ⟨m, ⟨o, es, ep, ho, r⟩, _⟩ := id I.loc
  obtain ⟨sl, hL⟩ := u.any ho I.free fun z => (hch _ z).2.1 rfl
  exact I.step (ch := ch) hch (fun b o hL hb hc e n => u.keep b o e n (fun z => (List.mem_cons.mp (I.stkSub b z)).elim hL hb) hc) (fun b o _ _ hc e n => u.any e n hc) (fun b o hc e n => u.free b o e n hc) (fun b o hc e => u.there b o e hc) u.tups u.frzs u.tbls (fun m' hm => by
    obtain ⟨o', es', ep', ho', r'⟩ := hm
    rw [ho] at ho'; cases ho'
    exact ⟨_, es', ep', hL, r'⟩) hok hg
theorem Inv.turned {t' : Nat} {it : Addr} (I : Inv X pins σ H s) (k : ∀ b o, b ≠ it → s.heap.get? b = some o → h'.get? b = some o) (hn : H it = none) (hL : it ≠ X.env.locals)
    (h1 : it ∈ X.ex ∨ X.s₀.heap.objs.size ≤ it) (h2 : ∀ x c, X.env.cells.lookup x = some c → c ≠ it) (h3 : ∀ p ∈ X.pn ++ pins, p.1 ≠ it) : Inv X pins σ H { s with heap := h', toks := t' } := by
  have nit : ∀ b u, H b = some u → b ≠ it := fun b u e z => by rw [z, hn] at e; cases e
  refine I.step (g' := s.gens) (d' := s.drawn) (ch := [it]) (fun b hb => ?_) (fun b o _ _ hc e _ => k b o (fun z => hc (by simp [z])) e) (fun b o _ _ hc e _ => ⟨o.slots, k b o (fun z => hc (by simp [z])) e⟩) (fun _ _ _ _ n => n)
    (fun b o hc e => ⟨o, k b o (fun z => hc (by simp [z])) e⟩) (fun _ _ e => e) (fun _ _ _ e => e) (fun b ps e => ⟨#[], by rw [e]; simp⟩) (fun m hm => ?_) (fun b u e => ?_) I.bare
  · have e : b = it := by simpa using hb
    subst e
    exact ⟨h1, hL, h2, h3⟩
  · obtain ⟨o, es, ep, ho, r⟩ := hm
    exact ⟨o, es, ep, k _ o (Ne.symm hL) ho, r⟩
  · refine (I.hok b u e).stay (fun c v hc q => k c v ?_ q) (fun _ q => q) fun _ _ q => q
    rcases hc with z | z
    · rw [z]; exact nit b u e
    · exact nit c _ z
theorem Inv.tok (I : Inv X pins σ H s) (t : Nat) : Inv X pins σ H { s with toks := t } := I.un (h' := s.heap) (t' := t) Un.refl I.hok
theorem Inv.kept {t' : Nat} (I : Inv X pins σ H s) (k : ∀ b u, s.heap.get? b = some u → h'.get? b = some u) : Inv X pins σ H { s with heap := h', toks := t' } := I.un (Un.kept k) (I.hok.kept k)
theorem Inv.laid {a : Addr} {o : HO} {t' : Nat} (I : Inv X pins σ H s) (k : ∀ b u, s.heap.get? b = some u → h'.get? b = some u) (hp : s.heap.objs.size ≤ a) (new : ObjOk X.prog X.w (upd H a o) h' a o) :
    Inv X pins σ (upd H a o) { s with heap := h', toks := t' } := I.un (Un.laid k hp (I.hok.fresh hp)) (I.hok.laid k hp new)
theorem Inv.write {x e : Addr} {o : HO} {t' : Nat} (I : Inv X pins σ H s) (mu : Mut (H x)) (he : e = x ∨ H e = some (.own x)) (k : ∀ b u, b ≠ e → s.heap.get? b = some u → h'.get? b = some u) (heo : ∃ u, h'.get? e = some u)
    (new : ObjOk X.prog X.w (upd H x o) h' x o) : Inv X pins σ (upd H x o) { s with heap := h', toks := t' } := I.un (Un.write mu he k heo) (I.hok.write mu he k heo new)
theorem Inv.pins_of {pins' : List (Addr × Obj)} (I : Inv X pins σ H s) (h : ∀ p ∈ pins', s.heap.get? p.1 = some p.2 ∧ H p.1 = none ∧ p.1 ≠ X.env.locals ∧ p.1 ∉ X.fs ∧ ∀ v, p.2.data ≠ .cell v) : Inv X pins' σ H s :=
  ⟨I.ok, I.os, I.bare, I.base, I.loc, I.cell, I.free, I.freeC, fun p hp => (List.mem_append.mp hp).elim (fun z => I.pin p (List.mem_append_left _ z)) (h p), I.hok, I.len⟩
theorem nodup_ix {N : List Str} (hN : N.Nodup) {i j : Nat} {x : Str} (a : N[i]? = some x) (b : N[j]? = some x) : i = j := by
  obtain ⟨h1, e1⟩ := List.getElem?_eq_some_iff.mp a
  obtain ⟨h2, e2⟩ := List.getElem?_eq_some_iff.mp b
  exact (List.getElem_inj hN).mp (e1.trans e2.symm)
theorem store_ok2 {M : Model} {A : Around} {E : Value → Shared → Prop} {i : Nat} {x : Str} {v : V} {u : Value} {Q : Unit → Shared → Prop} (I : Inv X pins σ H s) (hN : X.N.Nodup) (hi : X.N[i]? = some x) (hx : Loc X.env.scope x) (r : RelV v u)
    (h : ∀ s', Inv X pins (σ.set i (some v)) H s' → (∃ a, Heap.SameBut a s.heap s'.heap ∧ (a = X.env.locals ∨ X.env.cells.lookup x = some a)) → Q () s') (hf : X.fn x = true ∨ X.env.scope.names.lookup x = some .local := by first | exact .inl rfl | exact .inr rfl | assumption) : wpAny M A (storeName X.env x u) Q E s := by
  obtain ⟨m, hn, hl⟩ := id I.loc
  have hcls : (X.env.scope.kind == .class || (X.env.scope.kind == .module && X.env.locals != X.env.globals)) = false := by rw [I.ok.kind]; rfl
  have hiσ : i < σ.length := by rw [I.len]; exact (List.getElem?_eq_some_iff.mp hi).1
  have cne := I.cne
  have tracked : ∀ {a : Addr} {h' : Heap}, (∃ o, s.heap.get? a = some o ∧ H a = none) → Heap.SameBut a s.heap h' → HOk X.prog X.w H h' := fun {a h'} ha hs b ob e => by
    obtain ⟨_, _, hfree⟩ := ha
    refine (I.hok b ob e).stay (fun c w' hc q => (hs.2 c ?_).trans q) (fun _ q => q) fun _ _ q => q
    rintro rfl
    rcases hc with rfl | hc
    · rw [hfree] at e; cases e
    · rw [hfree] at hc; cases hc
  rcases hx with hk | hk
  · refine wpAny_storeName_local hk hn (fun h' hn' hs => ?_) hcls
    obtain ⟨oL, _, _, hoL, _⟩ := id hn
    refine h _ ⟨I.ok, I.os, I.bare, ⟨fun b o e n hb hx => ?_, fun b o e n hb hx => ?_, I.base.free, fun b o e hx => ?_, I.base.tups, I.base.frzs, I.base.tbls⟩, ⟨_, hn', fun j y v' e1 e2 e3 => ?_⟩, fun y c e => ?_, I.free, I.freeC, fun p hp => ?_, tracked ⟨oL, hoL, I.free⟩ hs, by simpa using I.len⟩ ⟨_, hs, .inl rfl⟩
    · exact (hs.2 b (Nat.ne_of_lt (Nat.lt_of_lt_of_le (Heap.lt_size e) I.ok.above))).trans (I.base.keep b o e n hb hx)
    · obtain ⟨sl, e1⟩ := I.base.slot b o e n hb hx
      exact ⟨sl, (hs.2 b (Nat.ne_of_lt (Nat.lt_of_lt_of_le (Heap.lt_size e) I.ok.above))).trans e1⟩
    · obtain ⟨o', e1⟩ := I.base.there b o e hx
      exact ⟨o', (hs.2 b (Nat.ne_of_lt (Nat.lt_of_lt_of_le (Heap.lt_size e) I.ok.above))).trans e1⟩
    · by_cases hj : j = i
      · subst hj
        rw [hi] at e1; cases e1
        rw [List.getElem?_set_self hiσ] at e2
        cases e2
        exact ⟨u, r, .inl ⟨hk, by simp⟩⟩
      · rw [List.getElem?_set_ne (Ne.symm hj)] at e2
        obtain ⟨u', r', q⟩ := hl j y v' e1 e2 e3
        refine ⟨u', r', ?_⟩
        rcases q with ⟨k, e⟩ | ⟨k, c, e, z⟩
        · refine .inl ⟨k, ?_⟩
          have : y ≠ x := fun e => hj (nodup_ix hN e1 (e ▸ hi))
          simp [this, e]
        · exact .inr ⟨k, c, e, z.sameBut hs (cne y c e)⟩
    · obtain ⟨w', z⟩ := I.cell y c e
      exact ⟨w', z.sameBut hs (cne y c e)⟩
    · obtain ⟨e, n, ne, nf, d⟩ := I.pin p hp
      exact ⟨(hs.2 p.1 ne).trans e, n, ne, nf, d⟩
  · have hfn : X.fn x = true := by
      rcases hf with z | z
      · exact z
      · rw [z] at hk; cases hk
    obtain ⟨c, hc⟩ := I.ok.has x (.inl hk)
    obtain ⟨w', z⟩ := I.cell x c hc
    refine wpAny_storeName_cell I.ok.kind hk hc z (fun h' hc' hs => ?_)
    obtain ⟨oc, hoc, hocd⟩ := id z
    refine h { s with heap := h' } ⟨I.ok, I.os, I.bare, ⟨fun b o e n hb hx => ?_, fun b o e n hb hx => ?_, I.base.free, fun b o e hx => ?_, I.base.tups, I.base.frzs, I.base.tbls⟩, ⟨m, hn.sameBut hs (Ne.symm (cne x c hc)), fun j y v' e1 e2 e3 => ?_⟩, fun y c' e => ?_, I.free, I.freeC, fun p hp => ?_, tracked ⟨oc, hoc, I.freeC x c hc⟩ hs, by simpa using I.len⟩ ⟨c, hs, .inr hc⟩
    · exact (hs.2 b (Nat.ne_of_lt (Nat.lt_of_lt_of_le (Heap.lt_size e) (I.ok.cab x c hfn hc)))).trans (I.base.keep b o e n hb hx)
    · obtain ⟨sl, e1⟩ := I.base.slot b o e n hb hx
      exact ⟨sl, (hs.2 b (Nat.ne_of_lt (Nat.lt_of_lt_of_le (Heap.lt_size e) (I.ok.cab x c hfn hc)))).trans e1⟩
    · obtain ⟨o', e1⟩ := I.base.there b o e hx
      exact ⟨o', (hs.2 b (Nat.ne_of_lt (Nat.lt_of_lt_of_le (Heap.lt_size e) (I.ok.cab x c hfn hc)))).trans e1⟩
    · by_cases hj : j = i
      · subst hj
        rw [hi] at e1; cases e1
        rw [List.getElem?_set_self hiσ] at e2
        cases e2
        exact ⟨u, r, .inr ⟨.inl hk, c, hc, hc'⟩⟩
      · rw [List.getElem?_set_ne (Ne.symm hj)] at e2
        obtain ⟨u', r', q⟩ := hl j y v' e1 e2 e3
        refine ⟨u', r', ?_⟩
        rcases q with q | ⟨k, c', e, z'⟩
        · exact .inl q
        · refine .inr ⟨k, c', e, z'.sameBut hs ?_⟩
          rintro rfl
          exact hj (nodup_ix hN e1 (I.ok.inj _ _ _ e hc ▸ hi))
    · by_cases hcc : c' = c
      · subst hcc; exact ⟨_, hc'⟩
      · obtain ⟨w2, z2⟩ := I.cell y c' e
        exact ⟨w2, z2.sameBut hs hcc⟩
    · obtain ⟨e, n, ne, nf, d⟩ := I.pin p hp
      refine ⟨(hs.2 p.1 ?_).trans e, n, ne, nf, d⟩
      intro q
      rw [q, hoc] at e
      have q' : oc = p.2 := Option.some.inj e
      exact d w' (by rw [← q']; exact hocd)
theorem store_ok {M : Model} {A : Around} {E : Value → Shared → Prop} {i : Nat} {x : Str} {v : V} {u : Value} {Q : Unit → Shared → Prop} (I : Inv X pins σ H s) (hN : X.N.Nodup) (hi : X.N[i]? = some x) (hx : Loc X.env.scope x) (r : RelV v u)
    (h : ∀ s', Inv X pins (σ.set i (some v)) H s' → Q () s') (hf : X.fn x = true ∨ X.env.scope.names.lookup x = some .local := by first | exact .inl rfl | exact .inr rfl | assumption) : wpAny M A (storeName X.env x u) Q E s :=
  store_ok2 I hN hi hx r (fun s' I' _ => h s' I') hf
theorem Inv.call' {s' : Shared} {ch : List Addr} (I : Inv X pins σ H s) (ho : s'.os = s.os) (u : Un (frs X.stack) ch H H' s.heap s'.heap) (hok : HOk X.prog X.w H' s'.heap) (hg : AllBare s'.gens)
    (hch : ∀ b ∈ ch, (b ∈ X.ex ∨ X.s₀.heap.objs.size ≤ b) ∧ b ≠ X.env.locals ∧ (∀ x c, X.env.cells.lookup x = some c → c ≠ b) ∧ ∀ p ∈ X.pn ++ pins, p.1 ≠ b) : Inv X pins σ H' s' := by
  obtain ⟨h', g', d', t', o'⟩ := s'
  have e : o' = s.os := ho
  subst e
  exact I.call (g' := g') (t' := t') (d' := d') u hok hg hch
end
abbrev XK := Value → Option Addr → Hp → Prop
abbrev St := List (Option V)
abbrev VK := V → Hp → Prop
abbrev TE := St → Hp → VK → Prop
abbrev TT := St → Hp → (Bool → Hp → Prop) → Prop
abbrev TA := St → Hp → (List V → Hp → Prop) → Prop
structure Ends where
  nx : St → Hp → Prop
  rt : VK
  bk : St → Hp → Prop := fun _ _ => False
  ct : St → Hp → Prop := fun _ _ => False
abbrev TS := Ends → St → Hp → Prop
def EP (X : Cx) (pins : List (Addr × Obj)) (σ : St) (Q : VK) (u : Value) (s' : Shared) : Prop := ∃ v H', Inv X pins σ H' s' ∧ RelV v u ∧ Q v H'
def TP (X : Cx) (pins : List (Addr × Obj)) (σ : St) (Q : Bool → Hp → Prop) (b : Bool) (s' : Shared) : Prop := ∃ H', Inv X pins σ H' s' ∧ Q b H'
def AP (X : Cx) (pins : List (Addr × Obj)) (σ : St) (Q : List V → Hp → Prop) (us : List Value) (s' : Shared) : Prop := ∃ vs H', Inv X pins σ H' s' ∧ Vals vs us ∧ Q vs H'
def SP (X : Cx) (pins : List (Addr × Obj)) (D : Ends) (f : Flow) (s' : Shared) : Prop :=
  match f with
  | .next => ∃ σ' H', Inv X pins σ' H' s' ∧ D.nx σ' H'
  | .brk => ∃ σ' H', Inv X pins σ' H' s' ∧ D.bk σ' H'
  | .cont => ∃ σ' H', Inv X pins σ' H' s' ∧ D.ct σ' H'
  | .ret u => ∃ v σ' H', Inv X pins σ' H' s' ∧ RelV v u ∧ D.rt v H'
def PE (X : Cx) (e : Expr) (t : TE) : Prop :=
  ∀ (pins : List (Addr × Obj)) (s : Shared) (σ : St) (H : Hp) (Q : VK), Inv X pins σ H s → t σ H Q → wpAny (model X.prog X.w) X.A (eval e X.env) (EP X pins σ Q) X.xe s
def PT (X : Cx) (e : Expr) (t : TT) : Prop :=
  ∀ (pins : List (Addr × Obj)) (s : Shared) (σ : St) (H : Hp) (Q : Bool → Hp → Prop), Inv X pins σ H s → t σ H Q → wpAny (model X.prog X.w) X.A (isTrue e X.env (eval e X.env)) (TP X pins σ Q) X.xe s
def PW (X : Cx) (e : Expr) (t : TT) : Prop :=
  ∀ (whole : Sem Value) (pins : List (Addr × Obj)) (s : Shared) (σ : St) (H : Hp) (Q : Bool → Hp → Prop), Inv X pins σ H s → t σ H Q → wpAny (model X.prog X.w) X.A (isTrue e X.env whole) (TP X pins σ Q) X.xe s
theorem PW.pt {X : Cx} {e : Expr} {t : TT} (h : PW X e t) : PT X e t := h _
def PA (X : Cx) (es : List Expr) (t : TA) : Prop :=
  ∀ (pos : Pos) (pins : List (Addr × Obj)) (s : Shared) (σ : St) (H : Hp) (Q : List V → Hp → Prop), Inv X pins σ H s → t σ H Q → wpAny (model X.prog X.w) X.A (spliced (backTo pos (starEach es X.env))) (AP X pins σ Q) X.xe s
def PS (X : Cx) (st : Stmt) (t : TS) : Prop :=
  ∀ (pins : List (Addr × Obj)) (s : Shared) (σ : St) (H : Hp) (D : Ends), Inv X pins σ H s → t D σ H → wpAny (model X.prog X.w) X.A (exec st X.env) (SP X pins D) X.xe s
def PSs (X : Cx) (st : List Stmt) (t : TS) : Prop :=
  ∀ (pins : List (Addr × Obj)) (s : Shared) (σ : St) (H : Hp) (D : Ends), Inv X pins σ H s → t D σ H → wpAny (model X.prog X.w) X.A (execs st X.env) (SP X pins D) X.xe s
theorem thn {α : Type} {t : Sem α} {Q Q' : α → Shared → Prop} {M : Model} {A : Around} {E : Value → Shared → Prop} {s : Shared} (h : wpAny M A t Q E s) (hQ : ∀ a s, Q a s → Q' a s) : wpAny M A t Q' E s := wpAny_mono h hQ fun _ _ x => x
end L2
namespace L2
open PySem PySem.Spec PyProof.Rows
section
variable {X : Cx}
def tVar (i : Nat) : TE := fun σ H Q => ∃ v, σ[i]? = some (some v) ∧ Q v H
def tC (v : V) : TE := fun _ H Q => Q v H
theorem pe_var {i : Nat} {x : Str} {pos : Pos} (hN : X.N[i]? = some x) (hv : Vis X.env.scope x) (hd : (x == ("__debug__" : Str)) = false := by decide) (hcd : (x == ("__classdict__" : Str)) = false := by decide) : PE X (.Name x pos) (tVar i) := by
  intro pins s σ H Q I h
  obtain ⟨v, e, h⟩ := h
  obtain ⟨m, hn, hl⟩ := I.loc
  obtain ⟨u, r, l⟩ := hl i x v hN e hv
  have fin : EP X pins σ Q u s := ⟨v, H, I, r, h⟩
  rcases l with ⟨hk, hm⟩ | ⟨hk, c, hc, hcell⟩
  · exact wpAny_Name (wpAny_loadName_local I.ok.kind hk hn hm fin) hd
  · rcases hk with hk | hk
    · exact wpAny_Name (wpAny_loadName_cell I.ok.kind hk hc hcell fin) hd
    · exact wpAny_Name (wpAny_loadName_free I.ok.kind hk hc hcell fin hcd) hd
theorem pe_int {i j pos} : PE X (.Constant (.int i) j pos) (tC (.int i)) := fun _ _ _ H _ I h => wpAny_Constant_int ⟨.int i, H, I.tok _, ⟨_, rfl⟩, h⟩
theorem pe_bl {b j pos} : PE X (.Constant (.bool b) j pos) (tC (.bl b)) := fun _ _ _ H _ I h => Constant_bool ⟨.bl b, H, I, rfl, h⟩
theorem pe_non {j pos} : PE X (.Constant .none j pos) (tC .non) := fun _ _ _ H _ I h => Constant_none ⟨.non, H, I, rfl, h⟩
theorem pe_str {x j pos} : PE X (.Constant (.str x) j pos) (tC (.str x)) := fun _ _ _ H _ I h => Calls.Constant_str ⟨.str x, H, I.tok _, ⟨_, rfl⟩, h⟩
def Gl (X : Cx) (x : Str) : Prop := X.env.kindOf x = some .globalImplicit
theorem ld_glob {E : Value → Shared → Prop} {pins : List (Addr × Obj)} {s : Shared} {σ : St} {H : Hp} {x : Str} {u : Value} {pos : Pos} {Q : Value → Shared → Prop} (I : Inv X pins σ H s) (hg : Gl X x) (hm : X.mg x = some u) (h : Q u s)
    (hd : (x == ("__debug__" : Str)) = false := by decide) : wpAny (model X.prog X.w) X.A (eval (.Name x pos) X.env) Q E s :=
  Calls.Name_function_global I.ok.kind hg (Calls.loadGlobal_global (by rw [I.ok.glob]; exact I.mod.glob.keeps I.bk) hm h) hd
theorem ld_blt {E : Value → Shared → Prop} {pins : List (Addr × Obj)} {s : Shared} {σ : St} {H : Hp} {x : Str} {u : Value} {pos : Pos} {Q : Value → Shared → Prop} (I : Inv X pins σ H s) (hg : Gl X x) (hm : X.mg x = none) (hv : bootBuiltins x = some u) (h : Q u s)
    (hn : x ≠ "__name__" := by decide) (hd : (x == ("__debug__" : Str)) = false := by decide) : wpAny (model X.prog X.w) X.A (eval (.Name x pos) X.env) Q E s := by
  obtain ⟨mb, h1, h2⟩ := I.mod.blt
  exact Calls.Name_function_global I.ok.kind hg (Calls.loadGlobal_builtin (by rw [I.ok.glob]; exact I.mod.glob.keeps I.bk) hm (by rw [I.ok.blt]; exact h1.keeps I.bk) ((h2 x hn).trans hv) h) hd
theorem pe_glob {x : Str} {v : V} {u : Value} {pos : Pos} (hg : Gl X x) (hm : X.mg x = some u) (r : RelV v u) (hd : (x == ("__debug__" : Str)) = false := by decide) : PE X (.Name x pos) (tC v) :=
  fun _ _ _ H _ I h => ld_glob I hg hm ⟨v, H, I, r, h⟩ hd
theorem pe_bltn {x : Str} {v : V} {u : Value} {pos : Pos} (hg : Gl X x) (hm : X.mg x = none) (hv : bootBuiltins x = some u) (r : RelV v u) (hn : x ≠ "__name__" := by decide) (hd : (x == ("__debug__" : Str)) = false := by decide) : PE X (.Name x pos) (tC v) :=
  fun _ _ _ H _ I h => ld_blt I hg hm hv ⟨v, H, I, r, h⟩ hn hd
variable {a b : Expr} {ta tb : TE} {pos : Pos}
def PC (X : Cx) (op : CmpOp) (a b : Expr) (t : TE) : Prop :=
  ∀ (pins : List (Addr × Obj)) (s : Shared) (σ : St) (H : Hp) (Q : VK), Inv X pins σ H s → t σ H Q →
    wpAny (model X.prog X.w) X.A (eval a X.env) (fun v s₁ => wpAny (model X.prog X.w) X.A (eval b X.env) (fun u s₂ => wpAny (model X.prog X.w) X.A (compareOp op v u) (EP X pins σ Q) X.xe s₂) X.xe s₁) X.xe s
theorem nobehind (b : Expr) {op : CmpOp} (h : op ≠ .In) (h2 : op ≠ .NotIn) : behindInMarks op b = false := by
  have e1 : (op == CmpOp.In) = false := by cases op <;> first | rfl | exact absurd rfl h
  have e2 : (op == CmpOp.NotIn) = false := by cases op <;> first | rfl | exact absurd rfl h2
  cases b <;> simp [behindInMarks, e1, e2]
def tIsN (ta : TE) : TE := fun σ H Q => ta σ H fun x H1 => Q (.bl (decide (x = .non))) H1
def tNotN (ta : TE) : TE := fun σ H Q => ta σ H fun x H1 => Q (.bl (!decide (x = .non))) H1
theorem RelV.none_iff {x : V} {v : Value} (r : RelV x v) : (v == Value.none) = decide (x = .non) := by
  cases x with
  | non => cases r; rfl
  | bl _ => cases r; rfl
  | int _ => obtain ⟨t, rfl⟩ := r; rfl
  | str _ => obtain ⟨t, rfl⟩ := r; rfl
  | byt _ => obtain ⟨t, rfl⟩ := r; rfl
  | flt _ => obtain ⟨t, rfl⟩ := r; rfl
  | ref _ => cases r; rfl
  | ty _ => cases r; rfl
theorem pc_isN {j pos'} (ha : PE X a ta) : PC X .Is a (.Constant .none j pos') (tIsN ta) := by
  intro pins s σ H Q I h
  refine thn (ha pins s σ H _ I h) fun v s1 ⟨x, H1, I1, r1, q1⟩ => ?_
  exact Constant_none (is_none_gen ⟨.bl _, H1, I1, by rw [r1.none_iff]; rfl, q1⟩)
theorem pc_notN {j pos'} (ha : PE X a ta) : PC X .IsNot a (.Constant .none j pos') (tNotN ta) := by
  intro pins s σ H Q I h
  refine thn (ha pins s σ H _ I h) fun v s1 ⟨x, H1, I1, r1, q1⟩ => ?_
  exact Constant_none (isnot_none_gen ⟨.bl _, H1, I1, by rw [r1.none_iff]; rfl, q1⟩)
def tB (t : TE) : TT := fun σ H Q => t σ H fun x H1 => ∃ c, x = .bl c ∧ Q c H1
theorem pt_cmp {op : CmpOp} {t : TE} (h : PC X op a b t) (h1 : behindInMarks op b = false := by first | exact nobehind _ (by decide) (by decide) | rfl) : PT X (.Compare a [op] [b] pos) (tB t) := by
  intro pins s σ H Q I hw
  refine wpAny_isTrue_Compare1 (thn (h pins s σ H _ I hw) fun v s1 h1 => thn h1 fun u s2 h2 => thn h2 fun c s3 ⟨x, H1, I1, r1, q1⟩ => ?_) h1
  obtain ⟨d, rfl, q⟩ := q1
  cases r1
  exact wpAny_truthy_bool ⟨H1, I1, q⟩
theorem pt_val {e : Expr} {t : TE} (h : PE X e t) (he : ∀ whole, isTrue e X.env whole = (do let v ← whole; standAt e.pos; holding [v] (truthy v)) := by intro _; rfl) : PT X e (tB t) := by
  intro pins s σ H Q I hw
  refine isTrue_plain (thn (h pins s σ H _ I hw) fun v s1 ⟨x, H1, I1, r1, q1⟩ => ?_) (he _)
  obtain ⟨d, rfl, q⟩ := q1
  cases r1
  exact wpAny_truthy_bool ⟨H1, I1, q⟩
variable {tA tB' : TT} {rest : List Expr}
def tAnd (t u : TT) : TT := fun σ H Q => t σ H fun c H1 => if c = true then u σ H1 Q else Q false H1
def tOr (t u : TT) : TT := fun σ H Q => t σ H fun c H1 => if c = true then Q true H1 else u σ H1 Q
def tNot (t : TT) : TT := fun σ H Q => t σ H fun c H1 => Q (!c) H1
theorem pw_and1 (ha : PT X a tA) : PW X (.BoolOp .And [a] pos) tA := by
  intro wh pins s σ H Q I h
  refine isTrue_and (thn (ha pins s σ H Q I h) fun c s1 e => ?_)
  cases c with
  | true => exact isTrue_and_nil e
  | false => exact e
theorem pw_or1 (ha : PT X a tA) : PW X (.BoolOp .Or [a] pos) tA := by
  intro wh pins s σ H Q I h
  refine isTrue_or (thn (ha pins s σ H Q I h) fun c s1 e => ?_)
  cases c with
  | false => exact isTrue_or_nil e
  | true => exact e
theorem pw_and (ha : PT X a tA) (hb : PW X (.BoolOp .And (b :: rest) pos) tB') : PW X (.BoolOp .And (a :: b :: rest) pos) (tAnd tA tB') := by
  intro wh pins s σ H Q I h
  refine isTrue_and (thn (ha pins s σ H _ I h) fun c s1 ⟨H1, I1, q1⟩ => ?_)
  cases c with
  | true => exact hb wh pins s1 σ H1 Q I1 q1
  | false => exact ⟨H1, I1, q1⟩
theorem pw_or (ha : PT X a tA) (hb : PW X (.BoolOp .Or (b :: rest) pos) tB') : PW X (.BoolOp .Or (a :: b :: rest) pos) (tOr tA tB') := by
  intro wh pins s σ H Q I h
  refine isTrue_or (thn (ha pins s σ H _ I h) fun c s1 ⟨H1, I1, q1⟩ => ?_)
  cases c with
  | true => exact ⟨H1, I1, q1⟩
  | false => exact hb wh pins s1 σ H1 Q I1 q1
theorem pt_not (ha : PT X a tA) : PT X (.UnaryOp .Not a pos) (tNot tA) := by
  intro pins s σ H Q I h
  exact isTrue_not (ha pins s σ H (fun c H1 => Q (!c) H1) I h)
def tAndV (ta tb : TE) : TE := fun σ H Q => ta σ H fun x H1 => ∃ c, x = .bl c ∧ if c = true then tb σ H1 Q else Q (.bl false) H1
def tOrV (ta tb : TE) : TE := fun σ H Q => ta σ H fun x H1 => ∃ c, x = .bl c ∧ if c = true then Q (.bl true) H1 else tb σ H1 Q
def tNotV (ta : TE) : TE := fun σ H Q => ta σ H fun x H1 => ∃ c, x = .bl c ∧ Q (.bl (!c)) H1
theorem pe_one {op} {t : TE} (h : PE X a t) : PE X (.BoolOp op [a] pos) t := fun pins s σ H Q I hw => BoolOp_one (h pins s σ H Q I hw)
theorem pe_and (ha : PE X a ta) (hb : PE X (.BoolOp .And (b :: rest) pos) tb) : PE X (.BoolOp .And (a :: b :: rest) pos) (tAndV ta tb) := by
  intro pins s σ H Q I h
  refine BoolOp_and (thn (ha pins s σ H _ I h) fun v s1 ⟨x, H1, I1, r1, q1⟩ => ?_)
  obtain ⟨c, rfl, q1⟩ := q1
  cases r1
  refine wpAny_truthy_bool ?_
  cases c with
  | true => exact hb pins s1 σ H1 Q I1 q1
  | false => exact ⟨.bl false, H1, I1, rfl, q1⟩
theorem pe_not (ha : PE X a ta) : PE X (.UnaryOp .Not a pos) (tNotV ta) := by
  intro pins s σ H Q I h
  refine UnaryOp_ (thn (ha pins s σ H _ I h) fun v s1 ⟨x, H1, I1, r1, q1⟩ => ?_)
  obtain ⟨c, rfl, q1⟩ := q1
  cases r1
  exact not_of (wpAny_truthy_bool ⟨.bl (!c), H1, I1, rfl, q1⟩)
def tIf (t : TT) (ta tb : TE) : TE := fun σ H Q => t σ H fun c H1 => if c = true then ta σ H1 Q else tb σ H1 Q
theorem pe_ifExp {c : Expr} (hc : PT X c tA) (ha : PE X a ta) (hb : PE X b tb) : PE X (.IfExp c a b pos) (tIf tA ta tb) := by
  intro pins s σ H Q I h
  refine wpAny_IfExp (thn (hc pins s σ H _ I h) fun d s1 ⟨H1, I1, q1⟩ => ?_)
  cases d with
  | true => exact ha pins s1 σ H1 Q I1 q1
  | false => exact hb pins s1 σ H1 Q I1 q1
end
end L2
namespace L2
open PySem PySem.Spec PyProof.Rows
def SqL (K : PySem.W.Frag) (H : Hp) (a : Addr) (xs : List V) : Prop :=
  Rd H a (.lst xs) ∨
    ∃ (o : Obj) (its : Array Value) (n : Nat), K.lookup a = some o ∧ o.cls = .type "list" ∧ o.dict = none ∧ o.data = .seq its n ∧ its.size ≤ sizeLine ∧ Vals xs its.toList
def SqT (K : PySem.W.Frag) (H : Hp) (a : Addr) (xs : List V) : Prop :=
  Rd H a (.tup xs) ∨
    ∃ (o : Obj) (its : Array Value) (n : Nat), K.lookup a = some o ∧ o.cls = .type "tuple" ∧ o.data = .seq its n ∧ its.size ≤ sizeLine ∧ Vals xs its.toList
def absV : Value → Option V
  | .none => some .non
  | .bool b => some (.bl b)
  | .int i _ => some (.int i)
  | .str x _ => some (.str x)
  | .bytes b _ => some (.byt b)
  | .float b _ => some (.flt b)
  | .ref a => some (.ref a)
  | .type n => some (.ty n)
  | _ => none
theorem RelV.abs {x : V} {u : Value} (r : RelV x u) : absV u = some x := by
  cases x with
  | non => cases r; rfl
  | bl _ => cases r; rfl
  | int _ => obtain ⟨t, rfl⟩ := r; rfl
  | str _ => obtain ⟨t, rfl⟩ := r; rfl
  | byt _ => obtain ⟨t, rfl⟩ := r; rfl
  | flt _ => obtain ⟨t, rfl⟩ := r; rfl
  | ref _ => cases r; rfl
  | ty _ => cases r; rfl
theorem RelV.inj {x y : V} {u : Value} (r : RelV x u) (q : RelV y u) : x = y := Option.some.inj (r.abs.symm.trans q.abs)
theorem Vals.inj : ∀ {xs ys : List V} {us : List Value}, Vals xs us → Vals ys us → xs = ys
  | _, _, _, .nil, .nil => rfl
  | _, _, _, .cons r t, .cons r' t' => by rw [r.inj r', Vals.inj t t']
section
variable {X : Cx} {pins : List (Addr × Obj)} {σ : St} {H : Hp} {s : Shared} {a : Addr} {xs ys : List V}
theorem SqL.of {K : PySem.W.Frag} (h : H a = some (.lst xs)) : SqL K H a xs := .inl (.inl h)
theorem SqT.of {K : PySem.W.Frag} (h : H a = some (.tup xs)) : SqT K H a xs := .inl (.inl h)
theorem Inv.list (I : Inv X pins σ H s) (h : SqL X.K H a xs) : ∃ its : List Value, Vals xs its ∧ PlainL s.heap a its.toArray ∧ xs.length ≤ sizeLine := by
  rcases h with h | ⟨o, its, n, hk, hc, hd, hs, hz, r⟩
  · obtain ⟨z, its, n, r, e⟩ := h.ok I.hok
    exact ⟨its, r, ⟨_, n, e, rfl, rfl, rfl⟩, z⟩
  · refine ⟨its.toList, r, ⟨o, n, I.kIn a o hk, hc, hd, by simpa using hs⟩, ?_⟩
    have e := r.length
    simp only [Array.length_toList] at e
    omega
theorem Inv.tuple (I : Inv X pins σ H s) (h : SqT X.K H a xs) : ∃ its : List Value, Vals xs its ∧ IsTup s.heap a its.toArray ∧ xs.length ≤ sizeLine := by
  rcases h with h | ⟨o, its, n, hk, hc, hs, hz, r⟩
  · obtain ⟨z, its, r, p⟩ := h.ok I.hok
    exact ⟨its, r, p, z⟩
  · refine ⟨its.toList, r, ⟨o, I.kIn a o hk, hc, n, by simpa using hs⟩, ?_⟩
    have e := r.length
    simp only [Array.length_toList] at e
    omega
theorem Inv.list_inj (I : Inv X pins σ H s) (h : SqL X.K H a xs) (h' : SqL X.K H a ys) : xs = ys := by
  obtain ⟨its, r, ⟨o, n, e, _, _, d⟩, _⟩ := I.list h
  obtain ⟨its', r', ⟨o', n', e', _, _, d'⟩, _⟩ := I.list h'
  rw [e] at e'; cases e'
  rw [d] at d'
  injection d' with d1 _
  have : its = its' := by simpa using congrArg Array.toList d1
  subst this
  exact r.inj r'
end
abbrev Cx.wish (X : Cx) (E : Value → Shared → Prop) : Cx := { X with xe := E }
abbrev Cx.nox (X : Cx) : Cx := X.wish fun _ _ => False
theorem Cx.Ok.wish {X : Cx} (ok : X.Ok) (E : Value → Shared → Prop) : (X.wish E).Ok :=
  ⟨ok.mod, ok.kind, ok.glob, ok.blt, ok.above, ok.inj, ok.has, ok.cab, ok.hd, ok.frames, ok.stk, ok.exf, ok.bs, ok.bsz, ok.noex, ok.exfs, ok.funs, ok.frf⟩
theorem Cx.Ok.unwish {X : Cx} {E : Value → Shared → Prop} (ok : (X.wish E).Ok) : X.Ok :=
  ⟨ok.mod, ok.kind, ok.glob, ok.blt, ok.above, ok.inj, ok.has, ok.cab, ok.hd, ok.frames, ok.stk, ok.exf, ok.bs, ok.bsz, ok.noex, ok.exfs, ok.funs, ok.frf⟩
section
variable {X : Cx} {pins : List (Addr × Obj)} {σ : St} {H : Hp} {s : Shared} {E : Value → Shared → Prop}
theorem Inv.wish (I : Inv X pins σ H s) (E : Value → Shared → Prop) : Inv (X.wish E) pins σ H s := ⟨I.ok.wish E, I.os, I.bare, I.base, I.loc, I.cell, I.free, I.freeC, I.pin, I.hok, I.len⟩
theorem Inv.unwish (I : Inv (X.wish E) pins σ H s) : Inv X pins σ H s := ⟨I.ok.unwish, I.os, I.bare, I.base, I.loc, I.cell, I.free, I.freeC, I.pin, I.hok, I.len⟩
theorem SP.unwish {D : Ends} {f : Flow} {s' : Shared} (h : SP (X.wish E) pins D f s') : SP X pins D f s' := by
  cases f with
  | next => obtain ⟨σ', H', I, q⟩ := h; exact ⟨σ', H', I.unwish, q⟩
  | brk => obtain ⟨σ', H', I, q⟩ := h; exact ⟨σ', H', I.unwish, q⟩
  | cont => obtain ⟨σ', H', I, q⟩ := h; exact ⟨σ', H', I.unwish, q⟩
  | ret u => obtain ⟨v, σ', H', I, r, q⟩ := h; exact ⟨v, σ', H', I.unwish, r, q⟩
theorem PE.nox {e : Expr} {t : TE} (h : PE X.nox e t) : PE X e t := fun pins s σ H Q I hw =>
  wpAny_mono (h pins s σ H Q (I.wish _) hw) (fun _ _ ⟨v, H', I', r, q⟩ => ⟨v, H', I'.unwish, r, q⟩) fun _ _ z => False.elim z
theorem PT.nox {e : Expr} {t : TT} (h : PT X.nox e t) : PT X e t := fun pins s σ H Q I hw =>
  wpAny_mono (h pins s σ H Q (I.wish _) hw) (fun _ _ ⟨H', I', q⟩ => ⟨H', I'.unwish, q⟩) fun _ _ z => False.elim z
theorem PSs.nox {st : List Stmt} {t : TS} (h : PSs X.nox st t) : PSs X st t := fun pins s σ H D I hw =>
  wpAny_mono (h pins s σ H D (I.wish _) hw) (fun _ _ q => q.unwish) fun _ _ z => False.elim z
end
section
variable {X : Cx} {st : Stmt} {rest : List Stmt} {t u : TS} {e : Expr} {te : TE} {pos : Pos}
def tNext : TS := fun D σ H => D.nx σ H
def tSeq (t u : TS) : TS := fun D σ H => t { D with nx := u D } σ H
theorem pss_nil : PSs X [] tNext := fun _ _ σ H _ I h => wpAny_execs_nil ⟨σ, H, I, h⟩
theorem pss_cons (h1 : PS X st t) (h2 : PSs X rest u) : PSs X (st :: rest) (tSeq t u) := by
  intro pins s σ H D I h
  refine wpAny_execs_cons (thn (h1 pins s σ H { D with nx := u D } I h) fun f s1 q => ?_)
  cases f with
  | next =>
    obtain ⟨σ', H', I', q⟩ := q
    exact h2 pins s1 σ' H' D I' q
  | ret v => exact q
  | brk => exact q
  | cont => exact q
theorem pss_one (h1 : PS X st t) : PSs X [st] t := by
  intro pins s σ H D I h
  refine wpAny_execs_cons (thn (h1 pins s σ H D I h) fun f s1 q => ?_)
  cases f with
  | next => exact wpAny_execs_nil q
  | ret v => exact q
  | brk => exact q
  | cont => exact q
theorem Inv.quiet {pins : List (Addr × Obj)} {σ : St} {H : Hp} {s : Shared} (I : Inv X pins σ H s) : interactive X.env = false := by simp [interactive, I.ok.kind]
def tDrop (te : TE) : TS := fun D σ H => te σ H fun _ H1 => D.nx σ H1
theorem ps_expr (he : PE X e te) (hs : swapsWith e none pos.line X.env = pure false := by rfl) : PS X (.Expr e pos) (tDrop te) := by
  intro pins s σ H D I h
  exact wpAny_Expr_any (thn (he pins s σ H _ I h) fun v s1 ⟨x, H1, I1, r1, q1⟩ => ⟨σ, H1, I1, q1⟩) I.quiet hs
def tRet (te : TE) : TS := fun D σ H => te σ H D.rt
theorem ps_ret (he : PE X e te) : PS X (.Return (some e) pos) (tRet te) := by
  intro pins s σ H D I h
  exact wpAny_Return_some (thn (he pins s σ H _ I h) fun v s1 ⟨x, H1, I1, r1, q1⟩ => ⟨x, σ, H1, I1, r1, q1⟩)
def tRetN : TS := fun D _ H => D.rt .non H
theorem ps_retN : PS X (.Return none pos) tRetN := fun _ _ σ H _ I h => wpAny_Return_none ⟨.non, σ, H, I, rfl, h⟩
def tIfS (c : TT) (t u : TS) : TS := fun D σ H => c σ H fun b H1 => if b = true then t D σ H1 else u D σ H1
theorem ps_if {c : Expr} {a b : List Stmt} {tc : TT} (hc : PT X c tc) (ha : PSs X a t) (hb : PSs X b u) : PS X (.If c a b pos) (tIfS tc t u) := by
  intro pins s σ H D I h
  refine wpAny_If (thn (hc pins s σ H _ I h) fun d s1 ⟨H1, I1, q1⟩ => ?_)
  cases d with
  | true => exact ha pins s1 σ H1 D I1 q1
  | false => exact hb pins s1 σ H1 D I1 q1
def tNever : TS := fun _ _ _ => False
theorem pss_never {sts : List Stmt} : PSs X sts tNever := fun _ _ _ _ _ _ h => h.elim
end
abbrev TG := V → St → Hp → (St → Hp → Prop) → Prop
abbrev TGs := List V → St → Hp → (St → Hp → Prop) → Prop
def PG (X : Cx) (target : Expr) (t : TG) : Prop :=
  ∀ (pins : List (Addr × Obj)) (s : Shared) (σ : St) (H : Hp) (v : V) (u : Value) (Q : St → Hp → Prop), Inv X pins σ H s → RelV v u → t v σ H Q →
    wpAny (model X.prog X.w) X.A (assign target X.env u) (fun _ s' => ∃ σ' H', Inv X pins σ' H' s' ∧ Q σ' H') X.xe s
abbrev TSet := V → V → V → Hp → (Hp → Prop) → Prop
def PSet (X : Cx) (t : TSet) : Prop :=
  ∀ (pins : List (Addr × Obj)) (s : Shared) (σ : St) (H : Hp) (o i v : V) (ov iv u : Value) (Q : Hp → Prop), Inv X pins σ H s → RelV o ov → RelV i iv → RelV v u → t o i v H Q →
    wpAny (model X.prog X.w) X.A (setItem ov iv u) (fun _ s' => ∃ H', Inv X pins σ H' s' ∧ Q H') X.xe s
section
variable {X : Cx} {pos : Pos}
def gName (i : Nat) : TG := fun v σ H Q => Q (σ.set i (some v)) H
theorem pg_name {i : Nat} {x : Str} (hN : X.N.Nodup) (hi : X.N[i]? = some x) (hx : Loc X.env.scope x) (hf : X.fn x = true ∨ X.env.scope.names.lookup x = some .local := by first | exact .inl rfl | exact .inr rfl | assumption) : PG X (.Name x pos) (gName i) := by
  intro pins s σ H v u Q I r h
  exact wpAny_assign_Name (store_ok I hN hi hx r (fun s' I' => ⟨_, H, I', h⟩) hf)
def gNil : TGs := fun vs σ H Q => vs = [] ∧ Q σ H
def gCons (t : TG) (u : TGs) : TGs := fun vs σ H Q => ∃ v r, vs = v :: r ∧ t v σ H fun σ' H' => u r σ' H' Q
def gTup (K : PySem.W.Frag) (n : Nat) (t : TGs) : TG := fun v σ H Q => ∃ a xs, v = .ref a ∧ SqT K H a xs ∧ xs.length = n ∧ t xs σ H Q
def gSub (to ti : TE) (t : TSet) : TG := fun v σ H Q => to σ H fun o H1 => ti σ H1 fun i H2 => t o i v H2 fun H3 => Q σ H3
theorem pg_sub {o i : Expr} {to ti : TE} {t : TSet} (ho : PE X o to) (hi : PE X i ti) (hs : PSet X t)
    (ha : ∀ v, assign (.Subscript o i pos) X.env v = (do
      let ov ← holding [v] (eval o X.env)
      let iv ← holding [v, ov] (eval i X.env)
      standAt pos
      holding [v, ov, iv] (setItem ov iv v)
      release [v, ov, iv] []) := by intro _; rfl) : PG X (.Subscript o i pos) (gSub to ti t) := by
  intro pins s σ H v u Q I r h
  rw [ha]
  refine wpAny_bind (wpAny_holding (thn (ho pins s σ H _ I h) fun ov s1 ⟨x, H1, I1, r1, q1⟩ => ?_))
  refine wpAny_bind (wpAny_holding (thn (hi pins s1 σ H1 _ I1 q1) fun iv s2 ⟨y, H2, I2, r2, q2⟩ => ?_))
  refine wpAny_bind (wpAny_standAt (wpAny_bind (wpAny_holding (thn (hs pins s2 σ H2 x y v ov iv u _ I2 r1 r2 r q2) fun _ s3 ⟨H3, I3, q3⟩ => ?_))))
  exact wpAny_release ⟨σ, H3, I3, q3⟩
def tAsg (te : TE) (g : TG) : TS := fun D σ H => te σ H fun x H1 => g x σ H1 D.nx
theorem ps_asg {tg e : Expr} {te : TE} {g : TG} (he : PE X e te) (hg : PG X tg g) (hs : swapsWithSole [tg] e pos.line X.env = pure false := by rfl) (hw : swappedStores [tg] e X.env = pure none := by rfl)
    (h1 : (assignEach [tg] X.env).map (·.2) = [assign tg X.env] := by rfl) : PS X (.Assign [tg] e pos) (tAsg te g) := by
  intro pins s σ H D I h
  refine wpAny_Assign_stores (thn (he pins s σ H _ I h) fun v s1 ⟨x, H1, I1, r1, q1⟩ => ?_) hs hw
  rw [h1]
  exact thn (hg pins s1 σ H1 x v _ I1 r1 q1) fun _ s2 q => q
theorem ps_set {i : Nat} {x : Str} {e : Expr} {te : TE} {pos' : Pos} (hN : X.N.Nodup) (hi : X.N[i]? = some x) (hx : Loc X.env.scope x) (he : PE X e te) (hs : swapsWith e (some (.Name x pos')) pos.line X.env = pure false := by rfl) (hf : X.fn x = true ∨ X.env.scope.names.lookup x = some .local := by first | exact .inl rfl | exact .inr rfl | assumption) :
    PS X (.Assign [.Name x pos'] e pos) (tAsg te (gName i)) := by
  intro pins s σ H D I h
  refine wpAny_Assign_Name (thn (he pins s σ H _ I h) fun v s1 ⟨y, H1, I1, r1, q1⟩ => ?_) hs
  exact store_ok I1 hN hi hx r1 (fun s2 I2 => ⟨_, H1, I2, q1⟩) hf
end
section
variable {X : Cx} {pos : Pos}
end
structure It where
  go : Nat → Hp → Prop
  yld : Nat → Hp → V → Hp → Prop
  stop : Nat → Hp → Prop
def FpOk (X : Cx) (pins : List (Addr × Obj)) (H : Hp) (b : Addr) : Prop :=
  H b = none ∧ b ≠ X.env.locals ∧ b ∉ X.fs ∧ (b ∈ X.ex ∨ X.s₀.heap.objs.size ≤ b) ∧ (∀ x c, X.env.cells.lookup x = some c → c ≠ b) ∧ ∀ p ∈ X.pn ++ pins, p.1 ≠ b
theorem Inv.fpOk {X : Cx} {pins : List (Addr × Obj)} {σ : St} {H H' : Hp} {s : Shared} {b : Addr} (I : Inv X pins σ H s) (hb : s.heap.objs.size ≤ b) (hn : H' b = none) : FpOk X pins H' b := by
  refine ⟨hn, Nat.ne_of_gt (Nat.lt_of_lt_of_le I.lt hb), I.nofs hb, .inr (Nat.le_trans I.sz hb), fun x c e z => ?_, fun p hp z => ?_⟩
  · obtain ⟨v, q⟩ := I.cell x c e
    exact absurd (Nat.lt_of_lt_of_le q.lt (by rw [z]; exact hb)) (Nat.lt_irrefl _)
  · exact absurd (Nat.lt_of_lt_of_le (Heap.lt_size (I.pin p hp).1) (by rw [z]; exact hb)) (Nat.lt_irrefl _)
structure Turn (P : Program) (w : World) (K : PySem.W.Frag) (tg : Expr) (J : It) (fp : List Addr) (it : Addr) (tn : Nat → Heap → Prop) : Prop where
  mem : it ∈ fp
  obj : ∀ i h, tn i h → ∀ b ∈ fp, ∃ o, h.get? b = some o ∧ ∀ v, o.data ≠ .cell v
  keep : ∀ i h h', tn i h → (∀ b ∈ fp, ∀ o, h.get? b = some o → h'.get? b = some o) → tn i h'
  item : ∀ (X : Cx), X.prog = P → X.w = w → X.K = K → X.calm = true → ∀ (i : Nat) (pins : List (Addr × Obj)) (s : Shared) (σ : St) (H : Hp) (E : Value → Shared → Prop), Inv X pins σ H s → (∀ b ∈ fp, FpOk X pins H b) → tn i s.heap → J.go i H →
    wpAny (model P w) X.A (pyNext (.ref it)) (fun r s1 => ∃ u, r = some u ∧
      wpAny (model P w) X.A (letOwnedTupleGo tg (.ref it) u) (fun _ s2 => ∃ x H', Inv X pins σ H' s2 ∧ RelV x u ∧ J.yld i H x H' ∧ tn (i + 1) s2.heap ∧ ∀ b ∈ fp, H' b = none) E s1) E s
  done : ∀ (X : Cx), X.prog = P → X.w = w → X.K = K → X.calm = true → ∀ (i : Nat) (pins : List (Addr × Obj)) (s : Shared) (σ : St) (H : Hp) (E : Value → Shared → Prop), Inv X pins σ H s → (∀ b ∈ fp, FpOk X pins H b) → tn i s.heap → J.stop i H →
    wpAny (model P w) X.A (pyNext (.ref it)) (fun r s1 => r = none ∧ Inv X pins σ H s1) E s
  self : ∀ (A : Around) (i : Nat) (s : Shared) (Q : Value → Shared → Prop) (E : Value → Shared → Prop), tn i s.heap → Q (.ref it) s → wpAny (model P w) A (pyIter (.ref it)) Q E s
abbrev TI := St → Hp → (It → Hp → Prop) → Prop
def PIE (X : Cx) (pins : List (Addr × Obj)) (σ : St) (tg : Expr) (R : It → Hp → Prop) (itv : Value) (s2 : Shared) : Prop :=
  ∃ (it : Addr) (fp : List Addr) (tn : Nat → Heap → Prop) (J : It) (H' : Hp), itv = .ref it ∧ Inv X pins σ H' s2 ∧ Turn X.prog X.w X.K tg J fp it tn ∧ tn 0 s2.heap ∧ (∀ b ∈ fp, FpOk X pins H' b) ∧ R J H'
def PI (X : Cx) (tg iter : Expr) (wi : TI) : Prop :=
  ∀ (pins : List (Addr × Obj)) (s : Shared) (σ : St) (H : Hp) (R : It → Hp → Prop), Inv X pins σ H s → wi σ H R →
    wpAny (model X.prog X.w) X.A (eval iter X.env) (fun v s1 => wpAny (model X.prog X.w) X.A (pyIter v) (PIE X pins σ tg R) X.xe s1) X.xe s
theorem go_of {M : Model} {A : Around} {E : Value → Shared → Prop} {s : Shared} {tg : Expr} {it : Addr} {u : Value} {o : Obj} {n : String} {vs : Array Value} {Q : Unit → Shared → Prop} (ho : s.heap.get? it = some o) (hc : o.cls = .type n) (hd : o.data = .fields vs)
    (hn : ["enumerate", "zip", "dict_itemiterator", "dict_reverseitemiterator", "odict_iterator", "itertools.zip_longest", "itertools.pairwise"].contains n = false) (hQ : Q () s) : wpAny M A (letOwnedTupleGo tg (.ref it) u) Q E s := by
  unfold letOwnedTupleGo
  cases tg <;> first
    | exact wpAny_pure hQ
    | (cases u <;> first
        | exact wpAny_pure hQ
        | (refine wpAny_bind (wpAny_load ho ?_)
           rw [hc, hd]
           show wpAny M A (if (["enumerate", "zip", "dict_itemiterator", "dict_reverseitemiterator", "odict_iterator", "itertools.zip_longest", "itertools.pairwise"].contains n && vs[0]? == some (rawInt _)) = true then _ else _) Q E s
           rw [if_neg (by intro h; rw [hn, Bool.false_and] at h; cases h)]
           exact wpAny_pure hQ))
def Itl (K : PySem.W.Frag) (a : Addr) : It :=
  ⟨fun i H => ∃ xs x, SqL K H a xs ∧ xs[i]? = some x, fun i H x H' => H' = H ∧ ∀ xs, SqL K H a xs → xs[i]? = some x, fun i H => ∃ xs, SqL K H a xs ∧ xs.length ≤ i⟩
def Itr (lo : Int) (n : Nat) : It := ⟨fun i _ => i < n, fun i H x H' => H' = H ∧ x = .int (lo + i), fun i _ => n ≤ i⟩
theorem turn_list {P : Program} {w : World} {K : PySem.W.Frag} {tg : Expr} (a it : Addr) : Turn P w K tg (Itl K a) [it] it (fun i h => h.IsListIter it a i) where
  mem := by simp
  obj := fun i h st b hb => by
    have e : b = it := by simpa using hb
    subst e
    obtain ⟨o, e, c, d⟩ := st
    exact ⟨o, e, fun v z => by rw [d] at z; cases z⟩
  keep := fun i h h' st k => st.at fun o e => k it (by simp) o e
  item := by
    intro X hP hw hK hc i pins s σ H E I hf st hg
    subst hP hw hK
    obtain ⟨xs, x, hq, hx⟩ := hg
    obtain ⟨its, rv, p, hz⟩ := I.list hq
    obtain ⟨u, hu, ru⟩ := rv.get hx
    obtain ⟨f0, f1, f2, f3, f4, f5⟩ := hf it (by simp)
    refine wpAny_pyNext_list_item st p.isList (x := u) (by simpa using hu) fun h' st' sb => ?_
    have I1 : Inv X pins σ H { s with heap := h' } := I.turned (t' := s.toks) (fun b o hb e => (sb.2 b hb).trans e) f0 f1 f3 f4 f5
    obtain ⟨o, e, c, d⟩ := id st'
    exact ⟨u, rfl, go_of (s := { s with heap := h' }) e c d (by decide) ⟨x, H, I1, ru, ⟨rfl, fun ys hy => by rw [I.list_inj hy hq]; exact hx⟩, st', fun b hb => (hf b hb).1⟩⟩
  done := by
    intro X hP hw hK hc i pins s σ H E I hf st hg
    subst hP hw hK
    obtain ⟨xs, hq, hx⟩ := hg
    obtain ⟨its, rv, p, hz⟩ := I.list hq
    obtain ⟨f0, f1, f2, f3, f4, f5⟩ := hf it (by simp)
    have hl := rv.length
    exact wpAny_pyNext_list_end (I.ok.hd hc) st p.isList (by simp; omega) fun h' eb => ⟨rfl, I.turned (t' := s.toks) (fun b o hb e => eb b o hb e) f0 f1 f3 f4 f5⟩
  self := fun _ _ _ _ _ st h => wpAny_pyIter_listiter st h
theorem turn_range {P : Program} {w : World} {K : PySem.W.Frag} {tg : Expr} (it : Addr) (lo : Int) (n : Nat) : Turn P w K tg (Itr lo n) [it] it (fun i h => IsRangeIter h it (lo + (i : Nat) * 1) ((n : Int) - (i : Nat)) 1) where
  mem := by simp
  obj := fun i h st b hb => by
    have e : b = it := by simpa using hb
    subst e
    exact ⟨_, st, fun v z => by
      have z' : Data.fields _ = Data.cell v := z
      cases z'⟩
  keep := fun i h h' st k => k it (by simp) _ st
  item := by
    intro X hP hw hK hc i pins s σ H E I hf st hg
    subst hP hw hK
    obtain ⟨f0, f1, f2, f3, f4, f5⟩ := hf it (by simp)
    have W := Walks.range (prog := X.prog) (w := X.w) (I.ok.hd hc) it lo 1 n
    refine W.item i s _ _ hg st fun v h' tk hv st' kk => ?_
    obtain ⟨t, rfl⟩ := hv
    have I1 : Inv X pins σ H { s with heap := h', toks := tk } := I.turned (fun b o hb e => kk b o (by simpa using hb) e) f0 f1 f3 f4 f5
    refine ⟨_, rfl, go_of (s := { s with heap := h', toks := tk }) (n := "range_iterator") st' rfl rfl (by decide) ⟨.int (lo + i), H, I1, ⟨t, ?_⟩, ⟨rfl, rfl⟩, st', fun b hb => (hf b hb).1⟩⟩
    rw [Int.mul_one]
  done := by
    intro X hP hw hK hc i pins s σ H E I hf st hg
    subst hP hw hK
    obtain ⟨f0, f1, f2, f3, f4, f5⟩ := hf it (by simp)
    exact wpAny_pyNext_range_end (I.ok.hd hc) st (by have : n ≤ i := hg; omega) fun h' eb => ⟨rfl, I.turned (t' := s.toks) (fun b o hb e => eb b o hb e) f0 f1 f3 f4 f5⟩
  self := fun _ _ _ _ _ st h => wpAny_pyIter_rangeiter st h
end L2
namespace L2
open PySem PySem.Spec PyProof.Rows
section
variable {X : Cx} {tg : Expr}
def iList (K : PySem.W.Frag) (tl : TE) : TI := fun σ H R => tl σ H fun x H1 => ∃ a, x = .ref a ∧ (∃ xs, SqL K H1 a xs) ∧ R (Itl K a) H1
theorem pi_list {l : Expr} {tl : TE} (hl : PE X l tl) : PI X tg l (iList X.K tl) := by
  intro pins s σ H R I h
  refine thn (hl pins s σ H _ I h) fun v s1 ⟨x, H1, I1, r1, q1⟩ => ?_
  obtain ⟨a, e, ⟨xs, hq⟩, q⟩ := q1
  subst e
  cases r1
  obtain ⟨its, rv, p, hz⟩ := I1.list hq
  refine wpAny_pyIter_list p.isList ?_
  refine ⟨s1.heap.objs.size, [s1.heap.objs.size], _, _, H1, rfl, I1.kept (t' := s1.toks) fun b o e => Heap.get?_push_of_some _ e, turn_list a _, ⟨_, Heap.get?_push_size _ rfl, rfl, rfl⟩, fun b hb => ?_, q⟩
  have e : b = s1.heap.objs.size := by simpa using hb
  subst e
  exact I1.fpOk (Nat.le_refl _) (I1.hok.fresh (Nat.le_refl _))
theorem range_it {pins : List (Addr × Obj)} {σ : St} {H : Hp} {s : Shared} {R : It → Hp → Prop} {E : Value → Shared → Prop} {lo hi : Int} {t u v : Tok} {tk : Nat} (I : Inv X pins σ H s) (h1 : -(2 ^ 62) ≤ lo) (h2 : lo < 2 ^ 62) (h3 : -(2 ^ 62) ≤ hi) (h4 : hi < 2 ^ 62)
    (q : R (Itr lo (hi - lo).toNat) H) : wpAny (model X.prog X.w) X.A (pyIter (.ref s.heap.objs.size)) (PIE X pins σ tg R) E { s with heap := s.heap.push { cls := .type "range", data := .fields #[.int lo t, .int hi u, .int 1 v] }, toks := tk } := by
  refine wpAny_pyIter_range (IsRange.new ..) (small_one h1 h2 h3 h4) ?_
  have I1 : Inv X pins σ H { s with heap := s.heap.push { cls := .type "range", data := .fields #[.int lo t, .int hi u, .int 1 v] }, toks := tk } := I.kept fun b o e => Heap.get?_push_of_some _ e
  refine ⟨(s.heap.push { cls := .type "range", data := .fields #[.int lo t, .int hi u, .int 1 v] }).objs.size, [(s.heap.push { cls := .type "range", data := .fields #[.int lo t, .int hi u, .int 1 v] }).objs.size], _, _, H, rfl,
    I1.kept (t' := tk) fun b o e => Heap.get?_push_of_some _ e, turn_range _ lo (hi - lo).toNat, ?_, fun b hb => ?_, q⟩
  · have e1 : lo + ((0 : Nat) : Int) * 1 = lo := by simp
    have e2 : (((hi - lo).toNat : Nat) : Int) - ((0 : Nat) : Int) = Builtin.Range.rangeSize lo hi 1 := by rw [rangeSize_one]; split <;> omega
    show IsRangeIter _ _ (lo + ((0 : Nat) : Int) * 1) ((((hi - lo).toNat : Nat) : Int) - ((0 : Nat) : Int)) 1
    rw [e1, e2]
    exact Heap.get?_push_size _ rfl
  · have e : b = (s.heap.push { cls := .type "range", data := .fields #[.int lo t, .int hi u, .int 1 v] }).objs.size := by simpa using hb
    subst e
    exact I1.fpOk (Nat.le_refl _) (I1.hok.fresh (Nat.le_refl _))
def iRng1 (ta : TA) : TI := fun σ H R => ta σ H fun vs H1 => ∃ j : Int, vs = [.int j] ∧ -(2 ^ 62) ≤ j ∧ j < 2 ^ 62 ∧ R (Itr 0 j.toNat) H1
def iRng2 (ta : TA) : TI := fun σ H R => ta σ H fun vs H1 => ∃ i j : Int, vs = [.int i, .int j] ∧ (-(2 ^ 62) ≤ i ∧ i < 2 ^ 62 ∧ -(2 ^ 62) ≤ j ∧ j < 2 ^ 62) ∧ R (Itr i (j - i).toNat) H1
theorem pi_range1 {a : Expr} {ta : TA} {p pos : Pos} (hg : Gl X "range") (hm : X.mg "range" = none) (ha : PA X [a] ta) (hs : starEach [a] X.env = [(false, eval a X.env)] := by rfl) : PI X tg (.Call (.Name "range" p) [a] [] pos) (iRng1 ta) := by
  intro pins s σ H R I h
  refine Call_ (ld_blt I hg hm boot_range (PyProof.Rows.callWith_type1 (thn (ha pos pins s σ H _ I h) fun us s1 ⟨vs, H1, I1, r1, q1⟩ => ?_) hs rfl))
  obtain ⟨j, e, q1, q2, q⟩ := q1
  subst e
  cases r1 with
  | cons r rr =>
    cases rr
    obtain ⟨t, rfl⟩ := r
    exact call_range_1 (range_it I1 (by omega) (by omega) q1 q2 (by simpa using q))
def tFor (wi : TI) (g : TG) (tb : TS) : TS := fun D σ H => wi σ H fun J H1 => ∃ W : Nat → Nat → St → Hp → Prop, (∃ m, W 0 m σ H1) ∧ ∀ i m σ H, W i m σ H →
  (J.stop i H ∧ D.nx σ H) ∨ (J.go i H ∧ ∃ N : St → Hp → Prop, (∀ σ' H', N σ' H' → ∃ m', m' < m ∧ W (i + 1) m' σ' H') ∧ ∀ x H', J.yld i H x H' → g x σ H' fun σ2 H2 => tb { D with nx := N, ct := N, bk := D.nx } σ2 H2)
def pinsAt (fp : List Addr) (h : Heap) : List (Addr × Obj) := fp.filterMap fun b => (h.get? b).map fun o => (b, o)
theorem mem_pinsAt {fp : List Addr} {h : Heap} {b : Addr} {o : Obj} (hb : b ∈ fp) (e : h.get? b = some o) : (b, o) ∈ pinsAt fp h := List.mem_filterMap.mpr ⟨b, hb, by rw [e]; rfl⟩
theorem of_pinsAt {fp : List Addr} {h : Heap} {p : Addr × Obj} (hp : p ∈ pinsAt fp h) : p.1 ∈ fp ∧ h.get? p.1 = some p.2 := by
  obtain ⟨b, hb, e⟩ := List.mem_filterMap.mp hp
  cases q : h.get? b with
  | none => rw [q] at e; cases e
  | some o =>
    rw [q] at e
    have e' : (b, o) = p := Option.some.inj e
    subst e'
    exact ⟨hb, q⟩
theorem Inv.pinned {pins : List (Addr × Obj)} {σ : St} {H : Hp} {s : Shared} {fp : List Addr} (I : Inv X pins σ H s) (hf : ∀ b ∈ fp, FpOk X pins H b) (ho : ∀ b ∈ fp, ∃ o, s.heap.get? b = some o ∧ ∀ v, o.data ≠ .cell v) : Inv X (pins ++ pinsAt fp s.heap) σ H s :=
  I.pins_of fun p hp => (List.mem_append.mp hp).elim (fun z => I.pin p (List.mem_append_right _ z)) fun z => by
    obtain ⟨hb, e⟩ := of_pinsAt z
    obtain ⟨f0, f1, f2, _⟩ := hf p.1 hb
    obtain ⟨o, e', d⟩ := ho p.1 hb
    rw [e] at e'; cases e'
    exact ⟨e, f0, f1, f2, d⟩
theorem Inv.unpinned {pins pl : List (Addr × Obj)} {σ : St} {H : Hp} {s : Shared} (I : Inv X (pins ++ pl) σ H s) : Inv X pins σ H s := I.pins_of fun p hp => I.pin p (List.mem_append_right _ (List.mem_append_left _ hp))
theorem ps_for {iter : Expr} {body : List Stmt} {wi : TI} {g : TG} {tb : TS} {pos : Pos} (hp : PassesOwn (model X.prog X.w) X.A X.env X.xe) (hc : X.calm = true) (hi : PI X tg iter wi) (hg : PG X tg g) (hb : PSs X body tb)
    (hs : ∀ x, foldedSetIterable iter X.env x = pure x := by intro _; rfl) : PS X (.For tg iter body [] pos) (tFor wi g tb) := by
  intro pins s σ H D I h
  refine wpAny_For (thn (hi pins s σ H _ I h) fun v s1 h1 => thn h1 fun itv s2 h2 => ?_) hs
  obtain ⟨it, fp, tn, J, H2, e, I2, T, st2, f2, W, ⟨m0, w0⟩, turn⟩ := h2
  subst e
  -- what stays true of the iterator's objects through the loop
  have stat : ∀ {H' : Hp}, (∀ b ∈ fp, H' b = none) → ∀ b ∈ fp, FpOk X pins H' b := fun hn b hb => ⟨hn b hb, (f2 b hb).2⟩
  refine codeAny_forLoop_any (fun n s' => ∃ i σ' H', Inv X pins σ' H' s' ∧ tn i s'.heap ∧ (∀ b ∈ fp, H' b = none) ∧ W i n σ' H') ?_ m0 ⟨0, σ, H2, I2, st2, fun b hb => (f2 b hb).1, w0⟩
  rintro n s3 ⟨i, σ3, H3, I3, st3, fr3, w3⟩
  rcases turn i n σ3 H3 w3 with ⟨stop, qn⟩ | ⟨go, N, hN, step⟩
  · refine wpAny_passesOwn hp (thn (T.done X rfl rfl rfl hc i pins s3 σ3 H3 X.xe I3 (stat fr3) st3 stop) fun r s4 ⟨hr, I4⟩ => ?_)
    subst hr
    exact wpAny_execs_nil ⟨σ3, H3, I4, qn⟩
  · refine wpAny_passesOwn hp (thn (T.item X rfl rfl rfl hc i pins s3 σ3 H3 X.xe I3 (stat fr3) st3 go) fun r s4 ⟨u, hr, h4⟩ => ?_)
    subst hr
    refine wpAny_passesOwn hp (thn h4 fun _ s5 ⟨x, H5, I5, r5, y5, st5, fr5⟩ => ?_)
    have I5' := I5.pinned (stat fr5) (T.obj _ _ st5)
    refine wpAny_passesOwn hp (thn (hg _ s5 σ3 H5 x u _ I5' r5 (step x H5 y5)) fun _ s6 ⟨σ6, H6, I6, q6⟩ => ?_)
    refine wpAny_passesOwn hp (thn (hb _ s6 σ6 H6 _ I6 q6) fun f s7 q7 => ?_)
    have again : ∀ {σ7 : St} {H7 : Hp}, Inv X (pins ++ pinsAt fp s5.heap) σ7 H7 s7 → N σ7 H7 → ∃ m, m < n ∧ ∃ i σ' H', Inv X pins σ' H' s7 ∧ tn i s7.heap ∧ (∀ b ∈ fp, H' b = none) ∧ W i m σ' H' := fun {σ7 H7} I7 n7 => by
      obtain ⟨m', hm, w7⟩ := hN σ7 H7 n7
      refine ⟨m', hm, i + 1, σ7, H7, I7.unpinned, T.keep _ _ _ st5 fun b hb o e => (I7.pin (b, o) (List.mem_append_right _ (List.mem_append_right _ (mem_pinsAt hb e)))).1, fun b hb => ?_, w7⟩
      obtain ⟨o, e, d⟩ := T.obj _ _ st5 b hb
      exact (I7.pin (b, o) (List.mem_append_right _ (List.mem_append_right _ (mem_pinsAt hb e)))).2.1
    cases f with
    | next => obtain ⟨σ7, H7, I7, n7⟩ := q7; exact again I7 n7
    | cont => obtain ⟨σ7, H7, I7, n7⟩ := q7; exact again I7 n7
    | brk => obtain ⟨σ7, H7, I7, q7⟩ := q7; exact ⟨σ7, H7, I7.unpinned, q7⟩
    | ret v => obtain ⟨x7, σ7, H7, I7, r7, q7⟩ := q7; exact ⟨x7, σ7, H7, I7.unpinned, r7, q7⟩
end
theorem for_list {K : PySem.W.Frag} {a : Addr} {xs : List V} {g : TG} {tb : TS} {D : Ends} {σ : St} {H : Hp} (Pv : Nat → St → Hp → Prop) (h0 : Pv 0 σ H) (hl : ∀ i σ H, i ≤ xs.length → Pv i σ H → SqL K H a xs)
    (hs : ∀ i x σ H, xs[i]? = some x → Pv i σ H → g x σ H fun σ2 H2 => tb { D with nx := Pv (i + 1), ct := Pv (i + 1), bk := D.nx } σ2 H2) (hd : ∀ σ H, Pv xs.length σ H → D.nx σ H) :
    ∃ W : Nat → Nat → St → Hp → Prop, (∃ m, W 0 m σ H) ∧ ∀ i m σ H, W i m σ H →
      ((Itl K a).stop i H ∧ D.nx σ H) ∨ ((Itl K a).go i H ∧ ∃ N : St → Hp → Prop, (∀ σ' H', N σ' H' → ∃ m', m' < m ∧ W (i + 1) m' σ' H') ∧ ∀ x H', (Itl K a).yld i H x H' → g x σ H' fun σ2 H2 => tb { D with nx := N, ct := N, bk := D.nx } σ2 H2) := by
  refine ⟨fun i m σ H => m = xs.length - i ∧ i ≤ xs.length ∧ Pv i σ H, ⟨xs.length, by simp, Nat.zero_le _, h0⟩, ?_⟩
  rintro i m σ H ⟨rfl, hi, p⟩
  have q := hl i σ H hi p
  by_cases hlt : i < xs.length
  · refine .inr ⟨⟨xs, xs[i], q, by simp [hlt]⟩, Pv (i + 1), fun σ' H' p' => ⟨xs.length - (i + 1), by omega, rfl, hlt, p'⟩, fun x H' y => ?_⟩
    obtain ⟨e, y⟩ := y
    subst e
    exact hs i x σ _ (y xs q) p
  · have e : i = xs.length := by omega
    subst e
    exact .inl ⟨⟨xs, q, Nat.le_refl _⟩, hd σ H p⟩
theorem for_range {lo : Int} {n : Nat} {g : TG} {tb : TS} {D : Ends} {σ : St} {H : Hp} (Pv : Nat → St → Hp → Prop) (h0 : Pv 0 σ H)
    (hs : ∀ i σ H, i < n → Pv i σ H → g (.int (lo + i)) σ H fun σ2 H2 => tb { D with nx := Pv (i + 1), ct := Pv (i + 1), bk := D.nx } σ2 H2) (hd : ∀ σ H, Pv n σ H → D.nx σ H) :
    ∃ W : Nat → Nat → St → Hp → Prop, (∃ m, W 0 m σ H) ∧ ∀ i m σ H, W i m σ H →
      ((Itr lo n).stop i H ∧ D.nx σ H) ∨ ((Itr lo n).go i H ∧ ∃ N : St → Hp → Prop, (∀ σ' H', N σ' H' → ∃ m', m' < m ∧ W (i + 1) m' σ' H') ∧ ∀ x H', (Itr lo n).yld i H x H' → g x σ H' fun σ2 H2 => tb { D with nx := N, ct := N, bk := D.nx } σ2 H2) := by
  refine ⟨fun i m σ H => m = n - i ∧ i ≤ n ∧ Pv i σ H, ⟨n, by simp, Nat.zero_le _, h0⟩, ?_⟩
  rintro i m σ H ⟨rfl, hi, p⟩
  by_cases hlt : i < n
  · refine .inr ⟨hlt, Pv (i + 1), fun σ' H' p' => ⟨n - (i + 1), by omega, rfl, hlt, p'⟩, fun x H' y => ?_⟩
    obtain ⟨e, y⟩ := y
    subst e y
    exact hs i σ _ hlt p
  · have e : i = n := by omega
    subst e
    exact .inl ⟨Nat.le_refl _, hd σ H p⟩
end L2
namespace L2
open PySem PySem.Spec PyProof.Rows
abbrev R2 := V → V → Hp → VK → Prop
def OpR (X : Cx) (f : Value → Value → Sem Value) (r : R2) : Prop :=
  ∀ (pins : List (Addr × Obj)) (s : Shared) (σ : St) (H : Hp) (x y : V) (v u : Value) (Q : VK), Inv X pins σ H s → RelV x v → RelV y u → r x y H Q →
    wpAny (model X.prog X.w) X.A (f v u) (EP X pins σ Q) X.xe s
def UnR (X : Cx) (f : Value → Sem Value) (r : V → Hp → VK → Prop) : Prop :=
  ∀ (pins : List (Addr × Obj)) (s : Shared) (σ : St) (H : Hp) (x : V) (v : Value) (Q : VK), Inv X pins σ H s → RelV x v → r x H Q →
    wpAny (model X.prog X.w) X.A (f v) (EP X pins σ Q) X.xe s
def CallR (X : Cx) (f : Value) (r : List V → Hp → VK → Prop) : Prop :=
  ∀ (pins : List (Addr × Obj)) (s : Shared) (σ : St) (H : Hp) (xs : List V) (us : List Value) (Q : VK), Inv X pins σ H s → Vals xs us → r xs H Q →
    wpAny (model X.prog X.w) X.A (call f us) (EP X pins σ Q) X.xe s
def tOp (r : R2) (ta tb : TE) : TE := fun σ H Q => ta σ H fun x H1 => tb σ H1 fun y H2 => r x y H2 Q
def tUn (r : V → Hp → VK → Prop) (ta : TE) : TE := fun σ H Q => ta σ H fun x H1 => r x H1 Q
def rI (C : Int → Int → Prop) (g : Int → Int → V) : R2 := fun x y H Q => ∃ i j, x = .int i ∧ y = .int j ∧ C i j ∧ Q (g i j) H
def rI0 (g : Int → Int → V) : R2 := fun x y H Q => ∃ i j, x = .int i ∧ y = .int j ∧ Q (g i j) H
def rU (g : Int → V) : V → Hp → VK → Prop := fun x H Q => ∃ i, x = .int i ∧ Q (g i) H
section
variable {X : Cx} {a b c : Expr} {ta tb tc : TE} {pos : Pos}
theorem binT (ha : PE X a ta) (hb : PE X b tb) {pins : List (Addr × Obj)} {s : Shared} {σ : St} {H : Hp} {R : V → V → Hp → Prop} (I : Inv X pins σ H s)
    (h : ta σ H fun x H1 => tb σ H1 fun y H2 => R x y H2) {Q : Value → Shared → Prop} {f : Value → Value → Sem Value}
    (hf : ∀ v u s2 x y H2, Inv X pins σ H2 s2 → RelV x v → RelV y u → R x y H2 → wpAny (model X.prog X.w) X.A (f v u) Q X.xe s2) :
    wpAny (model X.prog X.w) X.A (eval a X.env) (fun v s₁ => wpAny (model X.prog X.w) X.A (eval b X.env) (fun u s₂ => wpAny (model X.prog X.w) X.A (f v u) Q X.xe s₂) X.xe s₁) X.xe s := by
  refine thn (ha pins s σ H _ I h) fun v s1 ⟨x, H1, I1, r1, q1⟩ => ?_
  refine thn (hb pins s1 σ H1 _ I1 q1) fun u s2 ⟨y, H2, I2, r2, q2⟩ => ?_
  exact hf v u s2 x y H2 I2 r1 r2 q2
theorem pe_op {op : Operator} {r : R2} (ho : OpR X (binaryOp op) r) (ha : PE X a ta) (hb : PE X b tb) : PE X (.BinOp a op b pos) (tOp r ta tb) := by
  intro pins s σ H Q I h
  exact wpAny_BinOp (binT ha hb I h fun v u s2 x y H2 I2 rx ry q => ho pins s2 σ H2 x y v u Q I2 rx ry q)
theorem pe_un {op : UnaryOp} {r : V → Hp → VK → Prop} (ho : UnR X (unaryOp op) r) (ha : PE X a ta) : PE X (.UnaryOp op a pos) (tUn r ta) := by
  intro pins s σ H Q I h
  exact UnaryOp_ (thn (ha pins s σ H _ I h) fun v s1 ⟨x, H1, I1, r1, q1⟩ => ho pins s1 σ H1 x v Q I1 r1 q1)
theorem opI {f : Value → Value → Sem Value} {C : Int → Int → Prop} {g : Int → Int → Int}
    (rule : ∀ (i j : Int) (t u : Tok) (s : Shared) (Q : Value → Shared → Prop) (E : Value → Shared → Prop), C i j → Q (.int (g i j) s.toks) { s with toks := s.toks + 1 } → wpAny (model X.prog X.w) X.A (f (.int i t) (.int j u)) Q E s) :
    OpR X f (rI C fun i j => .int (g i j)) := by
  intro pins s σ H x y v u Q I rx ry h
  obtain ⟨i, j, rfl, rfl, hc, q⟩ := h
  obtain ⟨t, rfl⟩ := rx
  obtain ⟨t', rfl⟩ := ry
  exact rule i j t t' s _ _ hc ⟨.int (g i j), H, I.tok _, ⟨_, rfl⟩, q⟩
theorem opI0 {f : Value → Value → Sem Value} {g : Int → Int → Int}
    (rule : ∀ (i j : Int) (t u : Tok) (s : Shared) (Q : Value → Shared → Prop) (E : Value → Shared → Prop), Q (.int (g i j) s.toks) { s with toks := s.toks + 1 } → wpAny (model X.prog X.w) X.A (f (.int i t) (.int j u)) Q E s) :
    OpR X f (rI0 fun i j => .int (g i j)) := by
  intro pins s σ H x y v u Q I rx ry h
  obtain ⟨i, j, rfl, rfl, q⟩ := h
  obtain ⟨t, rfl⟩ := rx
  obtain ⟨t', rfl⟩ := ry
  exact rule i j t t' s _ _ ⟨.int (g i j), H, I.tok _, ⟨_, rfl⟩, q⟩
theorem opB0 {f : Value → Value → Sem Value} {g : Int → Int → Bool}
    (rule : ∀ (i j : Int) (t u : Tok) (s : Shared) (Q : Value → Shared → Prop) (E : Value → Shared → Prop), Q (.bool (g i j)) s → wpAny (model X.prog X.w) X.A (f (.int i t) (.int j u)) Q E s) :
    OpR X f (rI0 fun i j => .bl (g i j)) := by
  intro pins s σ H x y v u Q I rx ry h
  obtain ⟨i, j, rfl, rfl, q⟩ := h
  obtain ⟨t, rfl⟩ := rx
  obtain ⟨t', rfl⟩ := ry
  exact rule i j t t' s _ _ ⟨.bl (g i j), H, I, rfl, q⟩
def CPow (i j : Int) : Prop := 0 ≤ j ∧ j ≤ 1000000 ∧ i.natAbs < 2 ^ 64
def CMul (i j : Int) : Prop := (-(2 ^ 64) < i ∧ i < 2 ^ 64) ∨ (-(2 ^ 64) < j ∧ j < 2 ^ 64)
theorem CMul.ok {i j : Int} (h : CMul i j) : IntMulOk i j := by
  rcases h with ⟨h1, h2⟩ | ⟨h1, h2⟩
  · exact .of_left (intBits_le_64 h1 h2)
  · exact .of_right (intBits_le_64 h1 h2)
theorem op_add : OpR X (binaryOp .Add) (rI0 fun i j => .int (i + j)) := opI0 fun _ _ _ _ _ _ _ q => add_int q
theorem op_sub : OpR X (binaryOp .Sub) (rI0 fun i j => .int (i - j)) := opI0 fun _ _ _ _ _ _ _ q => sub_int q
theorem op_mul : OpR X (binaryOp .Mult) (rI CMul fun i j => .int (i * j)) := opI fun _ _ _ _ _ _ _ hc q => mul_int q hc.ok
theorem op_mod : OpR X (binaryOp .Mod) (rI (fun _ j => 0 < j) fun i j => .int (i % j)) := opI fun i j _ _ _ _ _ hc q => by
  have h1 : (0 : Int) < j := hc
  exact mod_int' (by omega) (by rw [Int.fmod_eq_emod_of_nonneg i (by omega)]; exact q)
theorem op_pow : OpR X (binaryOp .Pow) (rI CPow fun i j => .int (i ^ j.toNat)) := opI fun _ _ _ _ _ _ _ hc q => pow_int_small hc.1 hc.2.1 hc.2.2 q
theorem unI {f : Value → Sem Value} {g : Int → Int}
    (rule : ∀ (i : Int) (t : Tok) (s : Shared) (Q : Value → Shared → Prop) (E : Value → Shared → Prop), Q (.int (g i) s.toks) { s with toks := s.toks + 1 } → wpAny (model X.prog X.w) X.A (f (.int i t)) Q E s) :
    UnR X f (rU fun i => .int (g i)) := by
  intro pins s σ H x v Q I rx h
  obtain ⟨i, rfl, q⟩ := h
  obtain ⟨t, rfl⟩ := rx
  exact rule i t s _ _ ⟨.int (g i), H, I.tok _, ⟨_, rfl⟩, q⟩
theorem un_neg : UnR X (unaryOp .USub) (rU fun i => .int (-i)) := unI fun _ _ _ _ _ q => neg_int q
end
def scal : V → V → Bool
  | .non, .non => true | .non, .int _ => true | .int _, .non => true | .non, .bl _ => true | .bl _, .non => true | .non, .str _ => true | .str _, .non => true
  | .int _, .int _ => true | .bl _, .bl _ => true | .str _, .str _ => true | .byt _, .byt _ => true
  | .int _, .str _ => true | .str _, .int _ => true | .bl _, .str _ => true | .str _, .bl _ => true
  | _, _ => false
def rEq : R2 := fun x y H Q => scal x y = true ∧ Q (.bl (decide (x = y))) H
def rNe : R2 := fun x y H Q => scal x y = true ∧ Q (.bl (!decide (x = y))) H
theorem dec_int {i j : Int} : decide (V.int i = V.int j) = (i == j) := by
  rw [Bool.eq_iff_iff]
  simp
theorem dec_bl {i j : Bool} : decide (V.bl i = V.bl j) = (i == j) := by
  rw [Bool.eq_iff_iff]
  simp
theorem dec_str {i j : Str} : decide (V.str i = V.str j) = (i == j) := by
  rw [Bool.eq_iff_iff]
  simp
theorem dec_byt {i j : Array UInt8} : decide (V.byt i = V.byt j) = (i.toList == j.toList) := by
  rw [Bool.eq_iff_iff]
  cases i
  cases j
  simp
section
variable {X : Cx} {a b c : Expr} {ta tb tc : TE} {pos : Pos}
theorem fin_bl {pins : List (Addr × Obj)} {σ : St} {H : Hp} {s : Shared} {Q : VK} {k k' : Bool} (I : Inv X pins σ H s) (q : Q (.bl k) H) (e : k = k') : EP X pins σ Q (.bool k') s := by
  subst e
  exact ⟨.bl k, H, I, rfl, q⟩
theorem op_eq : OpR X (compareOp .Eq) rEq := by
  intro pins s σ H x y v u Q I rx ry h
  obtain ⟨hs, q⟩ := h
  cases x with
  | non =>
    cases rx
    cases y with
    | non => cases ry; exact PySem.EqNone.eq_none_none (fin_bl I q (by simp))
    | bl j => cases ry; exact PySem.EqNone.eq_none_bool (fin_bl I q (by simp))
    | int j => obtain ⟨t', rfl⟩ := ry; exact PySem.EqNone.eq_none_int (fin_bl I q (by simp))
    | str j => obtain ⟨t', rfl⟩ := ry; exact PySem.EqNone.eq_none_str (fin_bl I q (by simp))
    | _ => exact absurd (show false = true from hs) Bool.false_ne_true
  | bl i =>
    cases rx
    cases y with
    | non => cases ry; exact PySem.EqNone.eq_bool_none (fin_bl I q (by simp))
    | bl j => cases ry; exact eq_bool (fin_bl I q dec_bl)
    | str j => obtain ⟨t', rfl⟩ := ry; exact PySem.EqMixed.eq_bool_str (fin_bl I q (by simp))
    | _ => exact absurd (show false = true from hs) Bool.false_ne_true
  | int i =>
    obtain ⟨t, rfl⟩ := rx
    cases y with
    | non => cases ry; exact PySem.EqNone.eq_int_none (fin_bl I q (by simp))
    | int j => obtain ⟨t', rfl⟩ := ry; exact eq_int (fin_bl I q dec_int)
    | str j => obtain ⟨t', rfl⟩ := ry; exact PySem.EqMixed.eq_int_str (fin_bl I q (by simp))
    | _ => exact absurd (show false = true from hs) Bool.false_ne_true
  | str i =>
    obtain ⟨t, rfl⟩ := rx
    cases y with
    | non => cases ry; exact PySem.EqNone.eq_str_none (fin_bl I q (by simp))
    | bl j => cases ry; exact PySem.EqMixed.eq_str_bool (fin_bl I q (by simp))
    | int j => obtain ⟨t', rfl⟩ := ry; exact PySem.EqMixed.eq_str_int (fin_bl I q (by simp))
    | str j => obtain ⟨t', rfl⟩ := ry; exact eq_str (fin_bl I q dec_str)
    | _ => exact absurd (show false = true from hs) Bool.false_ne_true
  | byt i =>
    obtain ⟨t, rfl⟩ := rx
    cases y with
    | byt j => obtain ⟨t', rfl⟩ := ry; exact PySem.W.eq_bytes (fin_bl I q dec_byt)
    | _ => exact absurd (show false = true from hs) Bool.false_ne_true
  | _ => cases y <;> exact absurd (show false = true from hs) Bool.false_ne_true
theorem op_ne : OpR X (compareOp .NotEq) rNe := by
  intro pins s σ H x y v u Q I rx ry h
  obtain ⟨hs, q⟩ := h
  cases x with
  | non =>
    cases rx
    cases y with
    | non => cases ry; exact PySem.EqNone.ne_none_none (fin_bl I q (by simp))
    | bl j => cases ry; exact PySem.EqNone.ne_none_bool (fin_bl I q (by simp))
    | int j => obtain ⟨t', rfl⟩ := ry; exact PySem.EqNone.ne_none_int (fin_bl I q (by simp))
    | str j => obtain ⟨t', rfl⟩ := ry; exact PySem.EqNone.ne_none_str (fin_bl I q (by simp))
    | _ => exact absurd (show false = true from hs) Bool.false_ne_true
  | bl i =>
    cases rx
    cases y with
    | non => cases ry; exact PySem.EqNone.ne_bool_none (fin_bl I q (by simp))
    | bl j => cases ry; exact ne_bool (fin_bl I q (congrArg not dec_bl))
    | str j => obtain ⟨t', rfl⟩ := ry; exact PySem.EqMixed.ne_bool_str (fin_bl I q (by simp))
    | _ => exact absurd (show false = true from hs) Bool.false_ne_true
  | int i =>
    obtain ⟨t, rfl⟩ := rx
    cases y with
    | non => cases ry; exact PySem.EqNone.ne_int_none (fin_bl I q (by simp))
    | int j => obtain ⟨t', rfl⟩ := ry; exact ne_int (fin_bl I q (congrArg not dec_int))
    | str j => obtain ⟨t', rfl⟩ := ry; exact PySem.EqMixed.ne_int_str (fin_bl I q (by simp))
    | _ => exact absurd (show false = true from hs) Bool.false_ne_true
  | str i =>
    obtain ⟨t, rfl⟩ := rx
    cases y with
    | non => cases ry; exact PySem.EqNone.ne_str_none (fin_bl I q (by simp))
    | bl j => cases ry; exact PySem.EqMixed.ne_str_bool (fin_bl I q (by simp))
    | int j => obtain ⟨t', rfl⟩ := ry; exact PySem.EqMixed.ne_str_int (fin_bl I q (by simp))
    | str j => obtain ⟨t', rfl⟩ := ry; exact ne_str (fin_bl I q (congrArg not dec_str))
    | _ => exact absurd (show false = true from hs) Bool.false_ne_true
  | byt i =>
    obtain ⟨t, rfl⟩ := rx
    cases y with
    | byt j => obtain ⟨t', rfl⟩ := ry; exact PySem.W.ne_bytes (fin_bl I q (congrArg not dec_byt))
    | _ => exact absurd (show false = true from hs) Bool.false_ne_true
  | _ => cases y <;> exact absurd (show false = true from hs) Bool.false_ne_true
theorem op_lt : OpR X (compareOp .Lt) (rI0 fun i j => .bl (decide (i < j))) := opB0 fun _ _ _ _ _ _ _ q => lt_int q
theorem op_le : OpR X (compareOp .LtE) (rI0 fun i j => .bl (decide (i ≤ j))) := opB0 fun _ _ _ _ _ _ _ q => le_int q
theorem op_gt : OpR X (compareOp .Gt) (rI0 fun i j => .bl (decide (j < i))) := opB0 fun _ _ _ _ _ _ _ q => gt_int q
theorem op_in_str : OpR X (compareOp .In) (fun x y H Q => ∃ i j, x = .str i ∧ y = .str j ∧ Q (.bl (!(Builtin.Str.occurrences j i 0 j.length 1).isEmpty)) H) := by
  intro pins s σ H x y v u Q I rx ry h
  obtain ⟨i, j, rfl, rfl, q⟩ := h
  obtain ⟨t, rfl⟩ := rx
  obtain ⟨t', rfl⟩ := ry
  exact in_str (fin_bl I q rfl)
theorem OpR.or {f : Value → Value → Sem Value} {r r' : R2} (h : OpR X f r) (h' : OpR X f r') : OpR X f (fun x y H Q => r x y H Q ∨ r' x y H Q) := by
  intro pins s σ H x y v u Q I rx ry q
  rcases q with q | q
  · exact h pins s σ H x y v u Q I rx ry q
  · exact h' pins s σ H x y v u Q I rx ry q
theorem nomark (b : Expr) {op : CmpOp} (h : op ≠ .In := by decide) (h2 : op ≠ .NotIn := by decide) : behindInMarks op b = false := by
  have e1 : (op == CmpOp.In) = false := by cases op <;> first | rfl | exact absurd rfl h
  have e2 : (op == CmpOp.NotIn) = false := by cases op <;> first | rfl | exact absurd rfl h2
  cases b <;> simp [behindInMarks, e1, e2]
theorem pe_cmpR {op : CmpOp} {r : R2} (ho : OpR X (compareOp op) r) (ha : PE X a ta) (hb : PE X b tb) (hm : behindInMarks op b = false) : PE X (.Compare a [op] [b] pos) (tOp r ta tb) := by
  intro pins s σ H Q I h
  exact wpAny_Compare1 (binT ha hb I h fun v u s2 x y H2 I2 rx ry q => ho pins s2 σ H2 x y v u Q I2 rx ry q) hm
def tTest (t : TE) : TT := fun σ H Q => t σ H fun x H' => ∃ k, x = .bl k ∧ Q k H'
theorem pt_cmpR {op : CmpOp} {r : R2} (ho : OpR X (compareOp op) r) (ha : PE X a ta) (hb : PE X b tb) (hm : behindInMarks op b = false) : PT X (.Compare a [op] [b] pos) (tTest (tOp r ta tb)) := by
  intro pins s σ H Q I h
  refine wpAny_isTrue_Compare1 (thn (ha pins s σ H _ I h) fun v s1 ⟨x, H1, I1, r1, q1⟩ => thn (hb pins s1 σ H1 _ I1 q1) fun u s2 ⟨y, H2, I2, r2, q2⟩ =>
    thn (ho pins s2 σ H2 x y v u _ I2 r1 r2 q2) fun c s3 ⟨z, H3, I3, r3, k, e, q3⟩ => ?_) hm
  subst e
  cases r3
  exact wpAny_truthy_bool ⟨H3, I3, q3⟩
def tChain (r r' : R2) (ta tb tc : TE) : TE := fun σ H Q => ta σ H fun x H1 => tb σ H1 fun y H2 => r x y H2 fun z H3 => ∃ k, z = .bl k ∧
  (if k = true then tc σ H3 fun w' H4 => r' y w' H4 Q else Q (.bl false) H3)
theorem line63 : (sizeLine : Nat) < 2 ^ 63 := by rw [sizeLine_eq]; decide
theorem vals1 {x : V} {us : List Value} (r : Vals [x] us) : ∃ u, us = [u] ∧ RelV x u := by
  cases r with
  | cons r1 r2 => cases r2; exact ⟨_, rfl, r1⟩
theorem vals2 {x y : V} {us : List Value} (r : Vals [x, y] us) : ∃ u w', us = [u, w'] ∧ RelV x u ∧ RelV y w' := by
  cases r with
  | cons r1 r2 =>
    cases r2 with
    | cons r3 r4 => cases r4; exact ⟨_, _, rfl, r1, r3⟩
theorem call_int1 : CallR X (.type "int") (fun xs H Q => (∃ i, xs = [.int i] ∧ Q (.int i) H) ∨ ∃ k, xs = [.bl k] ∧ Q (.int (if k then 1 else 0)) H) := by
  intro pins s σ H xs us Q I r h
  rcases h with ⟨i, rfl, q⟩ | ⟨k, rfl, q⟩
  · obtain ⟨u, rfl, t, rfl⟩ := vals1 r
    exact call_int_int ⟨.int i, H, I, ⟨_, rfl⟩, q⟩
  · obtain ⟨u, rfl, r1⟩ := vals1 r
    cases r1
    exact call_int_bool ⟨.int (if k then 1 else 0), H, I.tok _, ⟨_, rfl⟩, q⟩
theorem call_str_int : CallR X (.type "str") (fun xs H Q => ∃ i, xs = [.int i] ∧ i.natAbs.log2 < 1920 ∧ Q (.str (toString i)) H) := by
  intro pins s σ H xs us Q I r h
  obtain ⟨i, rfl, hz, q⟩ := h
  obtain ⟨u, rfl, t, rfl⟩ := vals1 r
  exact PySem.P.str_of_int hz ⟨.str _, H, I.tok _, ⟨_, rfl⟩, q⟩
end
end L2
namespace L2
open PySem PySem.Spec PyProof.Rows
structure ObjM (h : Heap) (x dx C : Addr) (mA : Str → Option Value) : Prop where
  obj : h.get? x = some (PySem.W.instObj C dx)
  ns : h.Ns1 dx mA
  ne : dx ≠ x
theorem lookIn_ns {h : Heap} {dx : Addr} {mA : Str → Option Value} (n : h.Ns1 dx mA) : ∃ od, h.get? dx = some od ∧ ∀ name, PySem.W.lookIn name od = some (mA name) := by
  obtain ⟨o, es, ep, ho, hd, hk, _, hm⟩ := n
  refine ⟨o, ho, fun name => ?_⟩
  have e := hm name
  unfold nsFind findBy at e
  rw [← Array.find?_toList] at e
  unfold PySem.W.lookIn
  rw [hd]
  dsimp only
  split
  · rename_i y q
    rw [q] at e
    exact congrArg some e
  · rename_i q
    rw [q] at e
    have a : es.toList.any (·.refKey) = false := by
      rw [List.any_eq_false]
      intro y hy
      obtain ⟨z, t, hkey⟩ := hk y (Array.mem_toList_iff.mp hy)
      simp [DictEntry.refKey, hkey]
    have a' : ¬ es.toList.any (·.refKey) = true := by rw [a]; exact Bool.false_ne_true
    rw [if_neg a']
    exact congrArg some e
theorem ObjM.look {h : Heap} {x dx C : Addr} {mA : Str → Option Value} (I : ObjM h x dx C mA) : ∃ od, PySem.W.InstAt h x (PySem.W.instObj C dx) C (some od) ∧ ∀ name, PySem.W.lookIn name od = some (mA name) :=
  let ⟨od, ho, hl⟩ := lookIn_ns I.ns
  ⟨od, ⟨I.obj, rfl, rfl, ho⟩, hl⟩
section
variable {prog : Program} {w : World} {A : Around} {E : Value → Shared → Prop} {s : Shared} {K : PySem.W.Frag} {x dx C f : Addr} {mA : Str → Option Value} {name : Str} {v : Value}
theorem get_map {expr : Bool} {Q : Value → Shared → Prop} (X : K.In s.heap) (I : ObjM s.heap x dx C mA) (hg : PySem.W.plainGet K C name = true) (hh : PySem.W.hasDictIn K C = true)
    (ha : PySem.W.findIn K (.ref C) name = some none) (hv : mA name = some v) (hv' : PySem.W.handedIn v = true) (h : Q v { s with toks := s.toks + 1 }) :
    wpAny (model prog w) A (getAttr (.ref x) name expr) Q E s := by
  obtain ⟨od, J, hl⟩ := I.look
  exact PySem.W.get_value X J (PySem.W.plainGet_of hg).1 (PySem.W.findObj_own hh ha rfl (by rw [hl, hv])) hv' h
theorem set_map {ns : List Str} {Q : Unit → Shared → Prop} (X : K.In s.heap) (I : ObjM s.heap x dx C mA)
    (hs : PySem.W.findIn K (.ref C) "__setattr__" = some (some (.builtin "object.__setattr__"))) (hp : PySem.W.plainOver K C = true) (ht : PySem.W.takerIn K C name = some none) (hh : PySem.W.hasDictIn K C = true)
    (hw : PySem.Within mA ns) (hsz : ns.length ≤ sizeLine)
    (h : ∀ h', ObjM h' x dx C (fun y => if y = name then some v else mA y) → Heap.SameBut dx s.heap h' → Q () { s with heap := h', toks := s.toks + 2 }) :
    wpAny (model prog w) A (setAttr (.ref x) name v) Q E s := by
  obtain ⟨od, J, hl⟩ := I.look
  refine PySem.W.set_plain X J hs (PySem.W.osa_open (s := { s with toks := s.toks + 1 }) (r := none) X J hp ht fun b => ?_)
  obtain ⟨cd, hc, hd'⟩ := PySem.W.any_some hh
  have hx : s.heap.get? x = some ⟨.ref C, some dx, .plain, #[]⟩ := I.obj
  refine wpAny_bind (wpAny_pure (wpAny_bind (wpAny_bind (wpAny_loadPart hx (wpAny_bind (PySem.W.Looks.here (s := { s with toks := s.toks + 1 }) (PySem.W.looks_clsIn X hc) ?_))))))
  rw [hd']
  refine wpAny_pure (a := some dx) (wpAny_bind (wpAny_pure (wpAny_bind ?_)))
  refine wpAny_nsSet1 (s := { s with toks := s.toks + 1 }) I.ns fun h' hn2 hs2 => ?_
  obtain ⟨oD, esD, epD, hoD, hdD, hcD⟩ := hn2.count (PySem.Within.cons name v hw)
  refine wpAny_bind (wpAny_lookBehind hoD (by rw [hdD]; exact pastItsLine_dict (Nat.le_trans hcD (by rw [List.length_cons]; omega))) ?_)
  exact wpAny_pure (h _ ⟨(hs2.2 _ (Ne.symm I.ne)).trans I.obj, hn2, I.ne⟩ hs2)
theorem make_map {R : Result → Shared → Prop} {vs : List Value} {kw : List (Str × Value)} (X : K.In s.heap) (hm : PySem.W.makesIn K C = true)
    (hi : PySem.W.findIn K (.ref C) "__init__" = some (some (.ref f))) (hf : PySem.W.typeIn K (.ref f) = some (.type "function"))
    (h : codeAny (model prog w) (A.under (.builtin "type.__call__" ⟨.ref C :: vs, kw⟩)) (.call (.ref f) ⟨.ref (s.heap.objs.size + 1) :: vs, kw⟩) (PySem.W.InitBack (s.heap.objs.size + 1) R)
      { s with heap := (s.heap.push PySem.W.emptyDict).push (PySem.W.instObj C s.heap.objs.size) }) :
    codeAny (model prog w) A (.call (.ref C) ⟨vs, kw⟩) R s := by
  obtain ⟨hh, g, d, t, os⟩ := s
  exact PySem.W.make_core (PySem.W.makes_of X hm) (PySem.W.looks_findIn X hi) (fun self => PySem.W.bind_fn X self hf) (.inl rfl) h
theorem make_map0 {R : Result → Shared → Prop} (X : K.In s.heap) (hm : PySem.W.makesIn K C = true)
    (hi : PySem.W.findIn K (.ref C) "__init__" = some (some (.builtin "object.__init__")))
    (hb : ∀ self, PySem.W.Looks (model prog w) s.heap (bindSpecial (.builtin "object.__init__") self) (.builtin "object.__init__", [self]))
    (h : codeAny (model prog w) (A.under (.builtin "type.__call__" ⟨[.ref C], []⟩)) (.call (.builtin "object.__init__") ⟨[.ref (s.heap.objs.size + 1)], []⟩) (PySem.W.InitBack (s.heap.objs.size + 1) R)
      { s with heap := (s.heap.push PySem.W.emptyDict).push (PySem.W.instObj C s.heap.objs.size) }) :
    codeAny (model prog w) A (.call (.ref C) ⟨[], []⟩) R s := by
  obtain ⟨hh, g, d, t, os⟩ := s
  exact PySem.W.make_core (PySem.W.makes_of X hm) (PySem.W.looks_findIn X hi) hb (.inr ⟨rfl, rfl⟩) h
end
def putF (f : Str) (v : V) : List (Str × V) → List (Str × V)
  | [] => [(f, v)]
  | (g, x) :: r => if g = f then (g, v) :: r else (g, x) :: putF f v r
theorem lookup_putF (f g : Str) (v : V) : ∀ fs : List (Str × V), (putF f v fs).lookup g = if g = f then some v else fs.lookup g
  | [] => by
    show List.lookup g [(f, v)] = _
    by_cases h : g = f
    · have hb : (g == f) = true := beq_iff_eq.mpr h
      simp only [List.lookup, hb, if_pos h]
    · have hb : (g == f) = false := beq_eq_false_iff_ne.mpr h
      simp only [List.lookup, hb, if_neg h]
  | (k, x) :: r => by
    have ih := lookup_putF f g v r
    rw [show putF f v ((k, x) :: r) = (if k = f then (k, v) :: r else (k, x) :: putF f v r) from rfl]
    by_cases hk : k = f
    · rw [if_pos hk]
      by_cases h : g = k
      · have hb : (g == k) = true := beq_iff_eq.mpr h
        simp only [List.lookup, hb, if_pos (h.trans hk)]
      · have hb : (g == k) = false := beq_eq_false_iff_ne.mpr h
        simp only [List.lookup, hb, if_neg (fun e : g = f => h (e.trans hk.symm))]
    · rw [if_neg hk]
      by_cases h : g = k
      · have hb : (g == k) = true := beq_iff_eq.mpr h
        simp only [List.lookup, hb, if_neg (fun e : g = f => hk (h.symm.trans e))]
      · have hb : (g == k) = false := beq_eq_false_iff_ne.mpr h
        simp only [List.lookup, hb]
        exact ih
theorem keys_putF (f : Str) (v : V) : ∀ fs : List (Str × V), f ∈ (putF f v fs).map (·.1) ∧ ∀ g, g ∈ fs.map (·.1) → g ∈ (putF f v fs).map (·.1)
  | [] => ⟨by simp [putF], fun g h => by simp at h⟩
  | (k, x) :: r => by
    obtain ⟨i1, i2⟩ := keys_putF f v r
    rw [show putF f v ((k, x) :: r) = (if k = f then (k, v) :: r else (k, x) :: putF f v r) from rfl]
    by_cases hk : k = f
    · rw [if_pos hk]
      subst hk
      exact ⟨by simp, fun g h => by simpa using h⟩
    · rw [if_neg hk]
      refine ⟨?_, fun g h => ?_⟩
      · rw [List.map_cons]
        exact List.mem_cons_of_mem _ i1
      · rw [List.map_cons] at h ⊢
        rcases List.mem_cons.mp h with e | e
        · exact List.mem_cons.mpr (.inl e)
        · exact List.mem_cons_of_mem _ (i2 g e)
theorem length_putF (f : Str) (v : V) : ∀ fs : List (Str × V), (putF f v fs).length ≤ fs.length + 1
  | [] => by simp [putF]
  | (k, x) :: r => by
    have ih := length_putF f v r
    rw [show putF f v ((k, x) :: r) = (if k = f then (k, v) :: r else (k, x) :: putF f v r) from rfl]
    by_cases hk : k = f
    · rw [if_pos hk, List.length_cons, List.length_cons]; omega
    · rw [if_neg hk, List.length_cons, List.length_cons]; omega
theorem RelO.some_of {v : V} {o : Option Value} (r : RelO (some v) o) : ∃ u, o = some u ∧ RelV v u := by
  cases o with
  | none => exact (show False from r).elim
  | some u => exact ⟨u, rfl, r⟩
theorem handed_of {v : V} {u : Value} (r : RelV v u) : PySem.W.handedIn u = true := by
  cases v with
  | non => cases (show u = Value.none from r); rfl
  | bl b => cases (show u = Value.bool b from r); rfl
  | int i => obtain ⟨t, e⟩ := (show ∃ t, u = Value.int i t from r); cases e; rfl
  | str x => obtain ⟨t, e⟩ := (show ∃ t, u = Value.str x t from r); cases e; rfl
  | byt b => obtain ⟨t, e⟩ := (show ∃ t, u = Value.bytes b t from r); cases e; rfl
  | flt b => obtain ⟨t, e⟩ := (show ∃ t, u = Value.float b t from r); cases e; rfl
  | ref a => cases (show u = Value.ref a from r); rfl
  | ty n => cases (show u = Value.type n from r); rfl
section
variable {P : Program} {w : World} {H H' : Hp} {h h' : Heap} {a C dx : Addr} {fs fs' : List (Str × V)}
theorem ins_get (hok : HOk P w H h) (e : H a = some (.ins C dx fs)) : ∃ mA, ObjM h a dx C mA ∧ (∀ f, RelO (fs.lookup f) (mA f)) ∧ PySem.Within mA (fs.map (·.1)) ∧ fs.length ≤ 1000 ∧ H dx = some (.own a) := by
  obtain ⟨d, z, ne, ob, mA, n, r, q⟩ := (show ObjOk P w H h a (.ins C dx fs) from hok a _ e)
  exact ⟨mA, ⟨ob, n, ne⟩, r, q, z, d⟩
end
structure Cls (K : PySem.W.Frag) (C : Addr) : Prop where
  pg : PySem.W.plainGet K C Str.empty = true
  hd : PySem.W.hasDictIn K C = true
  po : PySem.W.plainOver K C = true
  sa : PySem.W.findIn K (.ref C) "__setattr__" = some (some (.builtin "object.__setattr__"))
theorem Cls.get {K : PySem.W.Frag} {C : Addr} (c : Cls K C) (f : Str) : PySem.W.plainGet K C f = true := c.pg
def NoAttr (K : PySem.W.Frag) (C : Addr) (f : Str) : Prop := PySem.W.findIn K (.ref C) f = some none
theorem NoAttr.taker {K : PySem.W.Frag} {C : Addr} {f : Str} (n : NoAttr K C f) : PySem.W.takerIn K C f = some none := by
  unfold PySem.W.takerIn
  rw [show PySem.W.findIn K (.ref C) f = some none from n]
  rfl
structure Con (K : PySem.W.Frag) (C : Addr) (f : Str) (v : V) (u : Value) : Prop where
  at_ : PySem.W.findIn K (.ref C) f = some (some u)
  rel : RelV v u
  get : PySem.W.specialIn K u "__get__" = some none
  cp : PySem.W.copiedNames.contains f = false
structure Meth (K : PySem.W.Frag) (C : Addr) (m : Str) (f : Addr) : Prop where
  at_ : PySem.W.findIn K (.ref C) m = some (some (.ref f))
  fn : PySem.W.isFn K (.ref f) = true
  kp : PySem.W.keepIn K (.ref f) = true
section
variable {X : Cx} {pins : List (Addr × Obj)} {σ : St} {H : Hp} {s : Shared} {a C dx : Addr} {fs : List (Str × V)} {f : Str} {v : V} {A : Around} {E : Value → Shared → Prop}
theorem getattr_ok {b : Bool} {Q : Value → Shared → Prop} (I : Inv X pins σ H s) (e : H a = some (.ins C dx fs)) (c : Cls X.K C) (n : NoAttr X.K C f) (l : fs.lookup f = some v)
    (h : ∀ u s', Inv X pins σ H s' → RelV v u → Q u s') : wpAny (model X.prog X.w) A (getAttr (.ref a) f b) Q E s := by
  obtain ⟨mA, O, r, _, _, _⟩ := ins_get I.hok e
  obtain ⟨u, hu, ru⟩ := RelO.some_of (v := v) (o := mA f) (by rw [← l]; exact r f)
  exact get_map I.kIn O (c.get f) c.hd n hu (handed_of ru) (h u _ (I.tok _) ru)
theorem setattr_ok {y : V} {u : Value} {Q : Unit → Shared → Prop} (I : Inv X pins σ H s) (e : H a = some (.ins C dx fs)) (c : Cls X.K C) (n : NoAttr X.K C f) (hl : fs.length < 1000) (ry : RelV y u)
    (h : ∀ s', Inv X pins σ (upd H a (.ins C dx (putF f y fs))) s' → Q () s') : wpAny (model X.prog X.w) A (setAttr (.ref a) f u) Q E s := by
  obtain ⟨mA, O, r, wi, _, ho⟩ := ins_get I.hok e
  have hz : (fs.map (·.1)).length ≤ sizeLine := by rw [List.length_map, sizeLine_eq]; omega
  refine set_map I.kIn O c.sa c.po n.taker c.hd wi hz fun h' O' sb => h _ ?_
  have hd : ∃ o, h'.get? dx = some o := let ⟨o, _, _, e', _⟩ := O'.ns; ⟨o, e'⟩
  refine I.write (x := a) (e := dx) (by rw [e]; exact True.intro) (.inr ho) (fun b q hb z => (sb.2 b hb).trans z) hd ?_
  refine ⟨by rw [upd_ne O.ne]; exact ho, ?_, O.ne, O'.obj, _, O'.ns, fun g => ?_, fun g hg => ?_⟩
  · have := length_putF f y fs; omega
  · show RelO ((putF f y fs).lookup g) (if g = f then some u else mA g)
    rw [lookup_putF]
    by_cases q : g = f
    · rw [if_pos q, if_pos q]; exact ry
    · rw [if_neg q, if_neg q]; exact r g
  · by_cases q : g = f
    · rw [q]; exact (keys_putF f y fs).1
    · refine (keys_putF f y fs).2 g (wi g fun z => hg ?_)
      show (if g = f then some u else mA g) = none
      rw [if_neg q]; exact z
theorem Inv.made (I : Inv X pins σ H s) : Inv X pins σ (upd (upd H s.heap.objs.size (.own (s.heap.objs.size + 1))) (s.heap.objs.size + 1) (.ins C s.heap.objs.size []))
    { s with heap := (s.heap.push PySem.W.emptyDict).push (PySem.W.instObj C s.heap.objs.size) } := by
  have e1 : (s.heap.push PySem.W.emptyDict).get? s.heap.objs.size = some PySem.W.emptyDict := Heap.get?_push_size s.heap rfl
  have e2 : ((s.heap.push PySem.W.emptyDict).push (PySem.W.instObj C s.heap.objs.size)).get? (s.heap.objs.size + 1) = some (PySem.W.instObj C s.heap.objs.size) := by
    have := Heap.get?_push_size (s.heap.push PySem.W.emptyDict) (o := PySem.W.instObj C s.heap.objs.size) rfl
    rwa [Heap.size_push] at this
  have e3 : (s.heap.push PySem.W.emptyDict).Ns s.heap.objs.size (fun _ => none) := ⟨PySem.W.emptyDict, #[], _, e1, rfl, (fun e he => absurd he (by simp)), fun _ => rfl⟩
  have I1 := I.laid (a := s.heap.objs.size) (o := .own (s.heap.objs.size + 1)) (h' := s.heap.push PySem.W.emptyDict) (t' := s.toks) (fun b u q => Heap.get?_push_of_some _ q) (Nat.le_refl _) ⟨_, e1⟩
  refine I1.laid (a := s.heap.objs.size + 1) (o := .ins C s.heap.objs.size []) (t' := s.toks) (fun b u q => Heap.get?_push_of_some _ q) (Nat.le_of_eq (Heap.size_push _ _)) ?_
  have ne : s.heap.objs.size ≠ s.heap.objs.size + 1 := Nat.ne_of_lt (Nat.lt_succ_self _)
  refine ⟨by rw [upd_ne ne, upd_same], Nat.zero_le _, ne, e2, fun _ => none, (Heap.Ns1.of_empty e3).at fun o q => Heap.get?_push_of_some _ q, fun _ => True.intro, fun y hy => absurd rfl hy⟩
theorem attr_of {prog : Program} {w : World} {env : Env} {e : Expr} {f : Str} {pos : Pos} {s : Shared} {Q : Value → Shared → Prop} (hb : attributeBase e f env (eval e env) = eval e env)
    (h : wpAny (model prog w) A (eval e env) (fun o s₁ => wpAny (model prog w) A (getAttr o f true) Q E s₁) E s) : wpAny (model prog w) A (eval (.Attribute e f pos) env) Q E s :=
  Attribute_any_ h (by rw [arm_eval_Attribute, hb])
end
def tFld (K : PySem.W.Frag) (ta : TE) (f : Str) : TE := fun σ H Q => ta σ H fun x H1 => ∃ a C dx fs v, x = .ref a ∧ H1 a = some (.ins C dx fs) ∧ Cls K C ∧ NoAttr K C f ∧ fs.lookup f = some v ∧ Q v H1
def sFld (K : PySem.W.Frag) (ta tv : TE) (f : Str) : TS := fun D σ H => tv σ H fun y H1 => ta σ H1 fun x H2 => ∃ a C dx fs, x = .ref a ∧ H2 a = some (.ins C dx fs) ∧ Cls K C ∧ NoAttr K C f ∧ fs.length < 1000 ∧
  D.nx σ (upd H2 a (.ins C dx (putF f y fs)))
section
variable {X : Cx} {o e value : Expr} {f : Str} {pos pos' tpos : Pos} {ta tv : TE}
theorem pe_fld (he : PE X e ta) (hb : attributeBase e f X.env (eval e X.env) = eval e X.env) : PE X (.Attribute e f pos) (tFld X.K ta f) := by
  intro pins s σ H Q I h
  refine attr_of hb (thn (he pins s σ H _ I h) fun u s1 ⟨x, H1, I1, rx, a, C, dx, fs, v, ex, ea, c, n, l, q⟩ => ?_)
  subst ex
  obtain rfl : u = Value.ref a := rx
  exact getattr_ok I1 ea c n l fun u' s2 I2 ru => ⟨v, H1, I2, ru, q⟩
theorem ps_fld (ha : PE X o ta) (hv : PE X value tv) (hs : swapsWith value (some (.Attribute o f pos')) pos.line X.env = pure false) : PS X (.Assign [.Attribute o f pos'] value pos) (sFld X.K ta tv f) := by
  intro pins s σ H D I h
  refine plainObj_wpAny_Assign_Attribute (thn (hv pins s σ H _ I h) fun u s1 ⟨y, H1, I1, ry, q⟩ => thn (ha pins s1 σ H1 _ I1 q) fun ov s2 ⟨x, H2, I2, rx, a, C, dx, fs, ex, ea, c, n, l, q2⟩ => ?_) hs
  subst ex
  obtain rfl : ov = Value.ref a := rx
  exact setattr_ok I2 ea c n l ry fun s3 I3 => ⟨σ, _, I3, q2⟩
end
section
variable {X : Cx} {pins : List (Addr × Obj)} {σ : St} {H : Hp} {s : Shared} {A : Around} {E : Value → Shared → Prop} {Q : Value → Shared → Prop} {c : Value} {b : Bool}
inductive TyOf (K : PySem.W.Frag) (H : Hp) : V → Value → Prop where
  | non : TyOf K H .non (.type "NoneType")
  | bl (x : Bool) : TyOf K H (.bl x) (.type "bool")
  | int (i : Int) : TyOf K H (.int i) (.type "int")
  | str (x : Str) : TyOf K H (.str x) (.type "str")
  | flt (x : UInt64) : TyOf K H (.flt x) (.type "float")
  | lst {a : Addr} {xs : List V} (e : H a = some (.lst xs)) : TyOf K H (.ref a) (.type "list")
  | frz {a : Addr} {o : Obj} {xs : List V} (e : H a = some (.frz o (.lst xs))) : TyOf K H (.ref a) (.type "list")
  | tup {a : Addr} {xs : List V} (e : H a = some (.tup xs)) : TyOf K H (.ref a) (.type "tuple")
  | dK {a : Addr} {kvs : List (Key × V)} (e : H a = some (.dK kvs)) : TyOf K H (.ref a) (.type "dict")
  | dT {a : Addr} {kvs : List (List Key × V)} (e : H a = some (.dT kvs)) : TyOf K H (.ref a) (.type "dict")
  | ins {a C dx : Addr} {fs : List (Str × V)} (e : H a = some (.ins C dx fs)) (cl : Cls K C) (ha : PySem.W.findIn K (.ref C) "__class__" = some (some (.builtin "object.__class__")))
      (hn : PySem.W.specialIn K (.builtin "object.__class__") "__get__" = some (some (.builtin "getset_descriptor.__get__"))) (htk : PySem.W.takesIn K (.builtin "object.__class__") = some true)
      (hm : PySem.W.mroIn K C (.type "object") = some true) : TyOf K H (.ref a) (.ref C)
theorem isinst_ok {x : V} {u t : Value} (I : Inv X pins σ H s) (rx : RelV x u) (ty : TyOf X.K H x t) (e : PySem.W.kitOne X.K t c = some b) (h : ∀ tk, Q (.bool b) { s with toks := tk }) :
    wpAny (model X.prog X.w) A (call (.builtin "isinstance") [u, c]) Q E s := by
  cases ty with
  | non => cases (show u = Value.none from rx); exact PySem.W.kia_one PySem.W.kitx_none I.kIn True.intro e (fun z => nomatch z) h
  | bl y => cases (show u = Value.bool y from rx); exact PySem.W.kia_one PySem.W.kitx_bool I.kIn True.intro e (fun z => nomatch z) h
  | int i => obtain ⟨t, q⟩ := (show ∃ t, u = Value.int i t from rx); cases q; exact PySem.W.kia_one PySem.W.kitx_int I.kIn True.intro e (fun z => nomatch z) h
  | str y => obtain ⟨t, q⟩ := (show ∃ t, u = Value.str y t from rx); cases q; exact PySem.W.kia_one PySem.W.kitx_str I.kIn True.intro e (fun z => nomatch z) h
  | flt y => obtain ⟨t, q⟩ := (show ∃ t, u = Value.float y t from rx); cases q; exact PySem.W.kia_one PySem.W.kitx_float I.kIn True.intro e (fun z => nomatch z) h
  | @lst a xs ea =>
    cases (show u = Value.ref a from rx)
    obtain ⟨_, _, n, _, h1⟩ := (show ObjOk X.prog X.w H s.heap a (.lst xs) from I.hok a _ ea)
    exact PySem.W.kia_one PySem.W.kitx_list I.kIn ⟨_, h1, rfl⟩ e (fun z => nomatch z) h
  | @frz a ob xs ea =>
    cases (show u = Value.ref a from rx)
    obtain ⟨_, _, _, n, _, h1⟩ := (show ObjOk X.prog X.w H s.heap a (.frz ob (.lst xs)) from I.hok a _ ea)
    exact PySem.W.kia_one PySem.W.kitx_list I.kIn ⟨_, h1, rfl⟩ e (fun z => nomatch z) h
  | @tup a xs ea =>
    cases (show u = Value.ref a from rx)
    obtain ⟨_, _, _, p⟩ := (show ObjOk X.prog X.w H s.heap a (.tup xs) from I.hok a _ ea)
    obtain ⟨o, h1, h2, _⟩ := p
    exact PySem.W.kia_one PySem.W.kitx_tuple I.kIn ⟨o, h1, h2⟩ e (fun z => nomatch z) h
  | @dK a kvs ea =>
    cases (show u = Value.ref a from rx)
    obtain ⟨_, _, vs, _, p⟩ := (show ObjOk X.prog X.w H s.heap a (.dK kvs) from I.hok a _ ea)
    obtain ⟨o, es, ep, h1, h2, _⟩ := p
    exact PySem.W.kia_one PySem.W.kitx_dict I.kIn ⟨o, h1, h2.1⟩ e (fun z => nomatch z) h
  | @dT a kvs ea =>
    cases (show u = Value.ref a from rx)
    obtain ⟨_, _, xs, _, o, es, ep, h1, h2, _⟩ := (show ObjOk X.prog X.w H s.heap a (.dT kvs) from I.hok a _ ea)
    exact PySem.W.kia_one PySem.W.kitx_dict I.kIn ⟨o, h1, h2.1⟩ e (fun z => nomatch z) h
  | @ins a C dx fs ea cl ha hn htk hm =>
    cases (show u = Value.ref a from rx)
    obtain ⟨mA, O, _⟩ := ins_get I.hok ea
    obtain ⟨od, J, _⟩ := O.look
    exact PySem.W.kia_one (PySem.W.kitx_own (cl.get _) cl.hd ha hn htk hm) I.kIn J e (fun z => nomatch z) h
end
end L2
namespace L2
open PySem PySem.Spec PyProof.Rows
structure Room (k : Nat) (A : Around) : Prop where
  hd : A.handled = none
  dp : A.depth + 3 * k + 5 < recursionLimit
  un : A.units + 16 * k + 200 < cLine
theorem Room.mono {j k : Nat} {A : Around} (r : Room k A) (h : j ≤ k) : Room j A := ⟨r.hd, by have := r.dp; omega, by have := r.un; omega⟩
theorem Room.deeper {k : Nat} {A : Around} (r : Room (k + 1) A) (env : Env) : Room k (A.deeper env) :=
  ⟨r.hd, by have := r.dp; show A.depth + 1 + 3 * k + 5 < _; omega, by have := r.un; show A.units + 3 + 16 * k + 200 < _; omega⟩
theorem Room.in1 {k : Nat} {A : Around} (r : Room (k + 1) A) : Room k A.in1 :=
  ⟨r.hd, by have := r.dp; show A.depth + 3 * k + 5 < _; omega, by have := r.un; show A.units + 1 + 16 * k + 200 < _; omega⟩
theorem make_depth {A : Around} {C : Addr} {us : List Value} {kw : List (Str × Value)} : (A.under (.builtin "type.__call__" ⟨.ref C :: us, kw⟩)).depth = A.depth + 1 := by
  first | rfl | simp [Around.under, Code.weight, Code.isCreation, Code.isGuard, Code.isCaller, Code.frames, Code.isFrame, guardIds]
theorem make_units {A : Around} {C : Addr} {us : List Value} {kw : List (Str × Value)} : (A.under (.builtin "type.__call__" ⟨.ref C :: us, kw⟩)).units = A.units + 1 := by
  first | rfl | simp [Around.under, Code.cUnits, Code.frames, Code.isFrame]
theorem Room.make {k : Nat} {A : Around} (r : Room (k + 1) A) (C : Addr) (us : List Value) (kw : List (Str × Value)) : Room k (A.under (.builtin "type.__call__" ⟨.ref C :: us, kw⟩)) :=
  ⟨r.hd, by have := r.dp; rw [make_depth]; omega, by have := r.un; rw [make_units]; omega⟩
theorem Room.depth {k : Nat} {A : Around} (r : Room k A) : A.depth < recursionLimit := by have := r.dp; omega
theorem Room.units {k : Nat} {A : Around} (r : Room k A) : A.units + 64 < cLine := by have := r.un; omega
def tNil : TA := fun _ H Q => Q [] H
def tCons (ta : TE) (tr : TA) : TA := fun σ H Q => ta σ H fun x H1 => tr σ H1 fun xs H2 => Q (x :: xs) H2
section
variable {X : Cx} {e : Expr} {es : List Expr} {te : TE} {t : TA} {pos : Pos}
theorem pa_nil : PA X [] tNil := fun _ _ _ _ H Q I h => Calls.spliced_nil ⟨[], H, I, .nil, h⟩
theorem pa_cons (ha : PE X e te) (hr : PA X es t) (hs : starEach (e :: es) X.env = (false, eval e X.env) :: starEach es X.env := by rfl) : PA X (e :: es) (tCons te t) := by
  intro pos pins s σ H Q I h
  rw [hs]
  show wpAny _ _ (spliced ((false, eval e X.env) :: backTo pos (starEach es X.env))) _ _ s
  refine Calls.spliced_cons (thn (ha pins s σ H _ I h) fun u s1 ⟨x, H1, I1, r1, q1⟩ => ?_)
  exact thn (hr pos pins s1 σ H1 _ I1 q1) fun us s2 ⟨xs, H2, I2, r2, q2⟩ => ⟨x :: xs, H2, I2, .cons r1 r2, q2⟩
def tTup (t : TA) : TE := fun σ H Q => t σ H fun xs H1 => xs.length ≤ sizeLine ∧ ∀ p, H1 p = none → Q (.ref p) (upd H1 p (.tup xs))
def tLst (t : TA) : TE := fun σ H Q => t σ H fun xs H1 => xs.length ≤ sizeLine ∧ ∀ p, H1 p = none → Q (.ref p) (upd H1 p (.lst xs))
theorem pe_tup {x1} (h : PA X es t) : PE X (.Tuple es x1 pos) (tTup t) := by
  intro pins s σ H Q I hq
  refine wpAny_Tuple_spliced (thn (h pos pins s σ H _ I hq) fun us s1 ⟨xs, H1, I1, r, z, q⟩ => ⟨by rw [← r.length]; exact z, ?_⟩)
  have hf : H1 s1.heap.objs.size = none := I1.hok.fresh (Nat.le_refl _)
  refine ⟨.ref s1.heap.objs.size, upd H1 s1.heap.objs.size (.tup xs), I1.laid (t' := s1.toks) (fun b u e => Heap.get?_push_of_some _ e) (Nat.le_refl _) ?_, rfl, q _ hf⟩
  exact ⟨z, us, r, ⟨_, Heap.get?_push_size _ rfl, rfl, _, rfl⟩⟩
theorem pe_lst (h : PA X es t) : PE X (.List es pos) (tLst t) := by
  intro pins s σ H Q I hq
  refine wpAny_List_spliced (thn (h pos pins s σ H _ I hq) fun us s1 ⟨xs, H1, I1, r, z, q⟩ => ⟨by rw [← r.length]; exact z, ?_⟩)
  have hf : H1 s1.heap.objs.size = none := I1.hok.fresh (Nat.le_refl _)
  refine ⟨.ref s1.heap.objs.size, upd H1 s1.heap.objs.size (.lst xs), I1.laid (t' := s1.toks) (fun b u e => Heap.get?_push_of_some _ e) (Nat.le_refl _) ?_, rfl, q _ hf⟩
  exact ⟨z, us, 0, r, Heap.get?_push_size _ rfl⟩
end
abbrev Sp := List V → Hp → VK → XK → Prop
abbrev CXT := List Env → Hp → Shared → XK → Value → Shared → Prop
structure Env0 (P : Program) (w : World) (K : PySem.W.Frag) (mg : Str → Option Value) (base : Heap) (A : Around) (outer : List Env) (s : Shared) (H : Hp) : Prop where
  frames : A.frames = some outer
  mod : Mod K mg base
  bs : ∀ b o, base.get? b = some o → s.heap.get? b = some o ∧ H b = none
  bsz : base.objs.size ≤ s.heap.objs.size
  funs : s.heap.FunFrames base outer
  frf : ∀ b ∈ frs outer, H b = none
  hok : HOk P w H s.heap
  bare : AllBare s.gens
def CE (outer : List Env) (P : Program) (w : World) (H : Hp) (s : Shared) (Q : VK) (u : Value) (s' : Shared) : Prop :=
  ∃ v H', s'.os = s.os ∧ AllBare s'.gens ∧ Un (frs outer) [] H H' s.heap s'.heap ∧ HOk P w H' s'.heap ∧ RelV v u ∧ Q v H'
def CR (CX : CXT) (outer : List Env) (P : Program) (w : World) (H : Hp) (s : Shared) (Q : VK) (E : XK) (r : Result) (s' : Shared) : Prop :=
  match r with
  | .ok (.ret u) => CE outer P w H s Q u s'
  | .ok _ => False
  | .error e => CX outer H s E e s'
structure FnOk (P : Program) (w : World) (K : PySem.W.Frag) (mg : Str → Option Value) (base : Heap) (CX : CXT) (k : Nat) (f : Addr) (fd : FuncData) (ps : List Str) (sp : Sp) : Prop where
  len : ∀ vs H Q E, sp vs H Q E → vs.length = ps.length
  run : ∀ (A : Around) (outer : List Env) (s : Shared) (H : Hp) (args : Args) (us : List Value) (vs : List V) (Q : VK) (E : XK), Room k A → Env0 P w K mg base A outer s H → BindsTo s fd args (ps.zip us) → Vals vs us → sp vs H Q E →
    codeAny (model P w) A (.call (.ref f) args) (CR CX outer P w H s Q E) s
theorem FnOk.mono {P : Program} {w : World} {K : PySem.W.Frag} {mg : Str → Option Value} {base : Heap} {CX : CXT} {j k : Nat} {f : Addr} {fd : FuncData} {ps : List Str} {sp : Sp} (F : FnOk P w K mg base CX j f fd ps sp) (h : j ≤ k) :
    FnOk P w K mg base CX k f fd ps sp := ⟨F.len, fun A outer s H args us vs Q E hr => F.run A outer s H args us vs Q E (hr.mono h)⟩
theorem Env0.make {P : Program} {w : World} {K : PySem.W.Frag} {mg : Str → Option Value} {base : Heap} {A : Around} {outer : List Env} {s : Shared} {H : Hp} (e : Env0 P w K mg base A outer s H) (C : Addr) (us : List Value) (kw : List (Str × Value)) :
    Env0 P w K mg base (A.under (.builtin "type.__call__" ⟨.ref C :: us, kw⟩)) outer s H := ⟨by first | exact e.frames | (simpa [Around.under, Code.envs, Code.isFrame, pushEnvs] using e.frames), e.mod, e.bs, e.bsz, e.funs, e.frf, e.hok, e.bare⟩
theorem Env0.in1 {P : Program} {w : World} {K : PySem.W.Frag} {mg : Str → Option Value} {base : Heap} {A : Around} {outer : List Env} {s : Shared} {H : Hp} (e : Env0 P w K mg base A outer s H) :
    Env0 P w K mg base A.in1 outer s H := ⟨e.frames, e.mod, e.bs, e.bsz, e.funs, e.frf, e.hok, e.bare⟩
section
variable {X : Cx} {pins : List (Addr × Obj)} {σ : St} {H : Hp} {s s' : Shared}
theorem Inv.env0 (I : Inv X pins σ H s) : Env0 X.prog X.w X.K X.mg X.base X.A X.stack s H :=
  ⟨I.ok.frames, I.ok.mod, I.bs, Nat.le_trans I.ok.bsz I.sz, I.stack, I.stkFree, I.hok, I.bare⟩
theorem Inv.after {Q : VK} {u : Value} (I : Inv X pins σ H s) (h : CE X.stack X.prog X.w H s Q u s') : EP X pins σ Q u s' := by
  obtain ⟨v, H', os, bare, un, hok, r, q⟩ := h
  obtain ⟨hh, g, d, t, os'⟩ := s'
  obtain rfl : os' = s.os := os
  exact ⟨v, H', I.call (h' := hh) (g' := g) (d' := d) (t' := t) (ch := []) un hok bare (fun b z => absurd z (by simp)), r, q⟩
end
def tCall (sp : Sp) (dvs : List V) (E : XK) (t : TA) : TE := fun σ H Q => t σ H fun vs H1 => sp (vs ++ dvs) H1 Q E
def tMake (C : Addr) (sp : Sp) (dvs : List V) (E : XK) (t : TA) : TE := fun σ H Q => t σ H fun vs H1 => ∀ x dx, H1 x = none → H1 dx = none → dx ≠ x →
  sp (.ref x :: (vs ++ dvs)) (upd (upd H1 dx (.own x)) x (.ins C dx [])) (fun v H2 => v = .non ∧ Q (.ref x) H2) E
def Binds (K : PySem.W.Frag) (fd : FuncData) (ps : List Str) (ds : List Value) : Prop :=
  ∀ (s : Shared) (us : List Value), K.In s.heap → (us ++ ds).length = ps.length → BindsTo s fd ⟨us, []⟩ (ps.zip (us ++ ds))
theorem Binds.all {K : PySem.W.Frag} {fd : FuncData} {ps : List Str} (h : ∀ us : List Value, us.length = ps.length → bindArgs fd ⟨us, []⟩ = pure (ps.zip us)) : Binds K fd ps [] := fun s us _ hl => by
  rw [List.append_nil] at hl ⊢
  exact .of_eq (h us hl)
def Passes (CX : CXT) (X : Cx) (E : XK) : Prop := ∀ (pins : List (Addr × Obj)) (σ : St) (H : Hp) (s : Shared) (e : Value) (s' : Shared), Inv X pins σ H s → CX X.stack H s E e s' → X.xe e s'
section
variable {X : Cx} {CX : CXT} {k : Nat} {f C : Addr} {fd : FuncData} {ps : List Str} {sp : Sp} {dvs : List V} {ds : List Value} {E : XK} {x m : Str} {p pos apos : Pos} {e o : Expr} {es : List Expr} {ta : TE} {t : TA}
theorem run_fn {pins : List (Addr × Obj)} {σ : St} {H : Hp} {s : Shared} {Q : VK} {us : List Value} {vs : List V} (F : FnOk X.prog X.w X.K X.mg X.base CX k f fd ps sp) (hr : Room k X.A) (hb : Binds X.K fd ps ds) (hd : Vals dvs ds) (hx : Passes CX X E)
    (I : Inv X pins σ H s) (r : Vals vs us) (h : sp (vs ++ dvs) H Q E) : wpAny (model X.prog X.w) X.A (call (.ref f) us) (EP X pins σ Q) X.xe s := by
  have r2 : Vals (vs ++ dvs) (us ++ ds) := r.append hd
  have hl : (us ++ ds).length = ps.length := by rw [← r2.length]; exact F.len _ _ _ _ h
  refine wpAny_call (codeAny_mono (F.run X.A X.stack s H ⟨us, []⟩ (us ++ ds) (vs ++ dvs) Q E hr I.env0 (hb s us I.kIn hl) r2 h) fun r s' hq => ?_)
  cases r with
  | error e => exact hx pins σ H s e s' I hq
  | ok fl =>
    cases fl with
    | ret u => exact I.after hq
    | next => exact False.elim hq
    | brk => exact False.elim hq
    | cont => exact False.elim hq
theorem pe_call (F : FnOk X.prog X.w X.K X.mg X.base CX k f fd ps sp) (hr : Room k X.A) (hg : Gl X x) (hm : X.mg x = some (.ref f)) (hk : PySem.W.keepIn X.K (.ref f) = true) (hb : Binds X.K fd ps ds) (hd : Vals dvs ds) (hx : Passes CX X E)
    (ha : PA X (e :: es) t) (hdb : (x == ("__debug__" : Str)) = false := by decide) (he : starEach (e :: es) X.env = (false, eval e X.env) :: starEach es X.env := by rfl) (hpl : (backTo pos (starEach es X.env)).any (·.1) = false := by rfl) :
    PE X (.Call (.Name x p) (e :: es) [] pos) (tCall sp dvs E t) := by
  intro pins s σ H Q I h
  refine wpAny_Call_Name_kw (ld_glob I hg hm ?_ hdb)
  refine PySem.W.callWith_K (h₀ := X.base) I.ok.mod.kin hk (thn (ha pos pins s σ H _ I h) fun us s1 ⟨vs, H1, I1, r, q⟩ => ⟨I1.kIn, ?_⟩) he hpl
  exact run_fn F hr hb hd hx I1 r q
structure Mk (K : PySem.W.Frag) (C f : Addr) : Prop where
  makes : PySem.W.makesIn K C = true
  init : PySem.W.findIn K (.ref C) "__init__" = some (some (.ref f))
  fn : PySem.W.isFn K (.ref f) = true
  kp : PySem.W.keepIn K (.ref C) = true
theorem run_make {pins : List (Addr × Obj)} {σ : St} {H : Hp} {s : Shared} {Q : VK} {us : List Value} {vs : List V} (M : Mk X.K C f) (F : FnOk X.prog X.w X.K X.mg X.base CX k f fd ps sp) (hr : Room (k + 1) X.A) (hb : Binds X.K fd ps ds) (hd : Vals dvs ds)
    (hx : Passes CX X E) (I : Inv X pins σ H s) (r : Vals vs us)
    (h : ∀ x dx, H x = none → H dx = none → dx ≠ x → sp (.ref x :: (vs ++ dvs)) (upd (upd H dx (.own x)) x (.ins C dx [])) (fun v H2 => v = .non ∧ Q (.ref x) H2) E) :
    wpAny (model X.prog X.w) X.A (call (.ref C) us) (EP X pins σ Q) X.xe s := by
  have hq := h (s.heap.objs.size + 1) s.heap.objs.size (I.hok.fresh (Nat.le_succ _)) (I.hok.fresh (Nat.le_refl _)) (Nat.ne_of_lt (Nat.lt_succ_self _))
  have I2 := Inv.made (C := C) I
  have r2 : Vals (V.ref (s.heap.objs.size + 1) :: (vs ++ dvs)) (Value.ref (s.heap.objs.size + 1) :: (us ++ ds)) := .cons rfl (r.append hd)
  have hl : (Value.ref (s.heap.objs.size + 1) :: us ++ ds).length = ps.length := by
    have e := r2.length
    rw [F.len _ _ _ _ hq] at e
    exact e.symm
  refine wpAny_call (make_map (f := f) I.kIn M.makes M.init (beq_iff_eq.mp M.fn) (codeAny_mono (F.run _ X.stack _ _ ⟨Value.ref (s.heap.objs.size + 1) :: us, []⟩ (Value.ref (s.heap.objs.size + 1) :: (us ++ ds)) _ _ E (hr.make C us [])
    (I2.env0.make C us []) (hb _ (Value.ref (s.heap.objs.size + 1) :: us) I2.kIn hl) r2 hq) fun r s' hq' => ?_))
  cases r with
  | error e => exact hx pins σ _ _ e s' I2 hq'
  | ok fl =>
    cases fl with
    | ret u =>
      obtain ⟨v, H', I3, rv, ev, q3⟩ := I2.after hq'
      subst ev
      exact ⟨rv, ⟨V.ref (s.heap.objs.size + 1), H', I3, rfl, q3⟩⟩
    | next => exact False.elim hq'
    | brk => exact False.elim hq'
    | cont => exact False.elim hq'
theorem pe_make (M : Mk X.K C f) (F : FnOk X.prog X.w X.K X.mg X.base CX k f fd ps sp) (hr : Room (k + 1) X.A) (hg : Gl X x) (hm : X.mg x = some (.ref C)) (hb : Binds X.K fd ps ds) (hd : Vals dvs ds) (hx : Passes CX X E)
    (ha : PA X (e :: es) t) (hdb : (x == ("__debug__" : Str)) = false := by decide) (he : starEach (e :: es) X.env = (false, eval e X.env) :: starEach es X.env := by rfl) (hpl : (backTo pos (starEach es X.env)).any (·.1) = false := by rfl) :
    PE X (.Call (.Name x p) (e :: es) [] pos) (tMake C sp dvs E t) := by
  intro pins s σ H Q I h
  refine wpAny_Call_Name_kw (ld_glob I hg hm ?_ hdb)
  refine PySem.W.callWith_K (h₀ := X.base) I.ok.mod.kin M.kp (thn (ha pos pins s σ H _ I h) fun us s1 ⟨vs, H1, I1, r, q⟩ => ⟨I1.kIn, ?_⟩) he hpl
  exact run_make M F hr hb hd hx I1 r q
theorem pe_make0 (M : Mk X.K C f) (F : FnOk X.prog X.w X.K X.mg X.base CX k f fd ps sp) (hr : Room (k + 1) X.A) (hg : Gl X x) (hm : X.mg x = some (.ref C)) (hb : Binds X.K fd ps ds) (hd : Vals dvs ds) (hx : Passes CX X E)
    (hdb : (x == ("__debug__" : Str)) = false := by decide) : PE X (.Call (.Name x p) [] [] pos) (tMake C sp dvs E tNil) := by
  intro pins s σ H Q I h
  refine wpAny_Call_Name_kw (ld_glob I hg hm ?_ hdb)
  exact PySem.W.callWith_K0 I.kIn M.kp (run_make (us := []) M F hr hb hd hx I .nil h)
end
def PK (X : Cx) (kws : List Keyword) (t : TA) : Prop :=
  ∀ (pos : Pos) (pins : List (Addr × Obj)) (s : Shared) (σ : St) (H : Hp) (Q : List V → Hp → Prop), Inv X pins σ H s → t σ H Q → wpAny (model X.prog X.w) X.A (evalAll ((backToKw pos (keywordEach kws X.env)).map (·.2))) (AP X pins σ Q) X.xe s
section
variable {X : Cx} {CX : CXT} {k : Nat} {f C : Addr} {fd : FuncData} {ps ks : List Str} {sp : Sp} {E : XK} {x m : Str} {p pos apos kpos : Pos} {e o : Expr} {es : List Expr} {kws : List Keyword} {te ta : TE} {t tk : TA} {nm : Option Str}
theorem pk_nil : PK X [] tNil := fun _ _ _ _ H Q I h => wpAny_evalAll_nil ⟨[], H, I, .nil, h⟩
theorem pk_cons (ha : PE X e te) (hr : PK X kws t) : PK X (⟨nm, e, kpos⟩ :: kws) (tCons te t) := by
  intro pos pins s σ H Q I h
  show wpAny _ _ (evalAll ((do let v ← eval e X.env; standAt pos; pure v) :: (backToKw pos (keywordEach kws X.env)).map (·.2))) _ _ s
  refine wpAny_evalAll_cons (wpAny_bind (thn (ha pins s σ H _ I h) fun u s1 ⟨x, H1, I1, r1, q1⟩ => wpAny_bind (wpAny_standAt (wpAny_pure ?_))))
  exact thn (hr pos pins s1 σ H1 _ I1 q1) fun us s2 ⟨xs, H2, I2, r2, q2⟩ => ⟨x :: xs, H2, I2, .cons r1 r2, q2⟩
structure KBinds (K : PySem.W.Frag) (fd : FuncData) (ps ks : List Str) (g : List Value → List Value → List Value) (gV : List V → List V → List V) : Prop where
  to : ∀ (s : Shared) (us ws : List Value), K.In s.heap → (g us ws).length = ps.length → BindsTo s fd ⟨us, ks.zip ws⟩ (ps.zip (g us ws))
  rel : ∀ {vs : List V} {us : List Value} {zs : List V} {ws : List Value}, Vals vs us → Vals zs ws → Vals (gV vs zs) (g us ws)
variable {g : List Value → List Value → List Value} {gV : List V → List V → List V}
end
structure FnScope (N P : List Str) (sc : Scope) : Prop where
  kind : sc.kind = .function
  co : sc.isCoroutine = false
  gen : sc.isGenerator = false
  nd : N.Nodup
  pre : N.take P.length = P
  par : ∀ x ∈ P, sc.names.lookup x = some .local ∨ sc.names.lookup x = some .cell
  nofree : ∀ y ∈ sc.names, y.2 ≠ .free
theorem bindL_out {kindOf : Str → Option NameKind} {x : Str} : ∀ {binds : List (Str × Value)} {m : Str → Option Value}, (∀ v, (x, v) ∉ binds) → bindL kindOf binds m x = m x
  | [], _, _ => rfl
  | (n, v) :: r, m, h => by
    unfold bindL
    rw [bindL_out fun w hw => h w (List.mem_cons_of_mem _ hw)]
    split
    · have : x ≠ n := by rintro rfl; exact h v List.mem_cons_self
      simp [this]
    · rfl
theorem bindC_out {kindOf : Str → Option NameKind} {x : Str} : ∀ {binds : List (Str × Value)} {m : Str → Option Value}, (∀ v, (x, v) ∉ binds) → bindC kindOf binds m x = m x
  | [], _, _ => rfl
  | (n, v) :: r, m, h => by
    unfold bindC
    rw [bindC_out fun w hw => h w (List.mem_cons_of_mem _ hw)]
    split
    · rfl
    · have : x ≠ n := by rintro rfl; exact h v List.mem_cons_self
      simp [this]
theorem bindL_get {kindOf : Str → Option NameKind} {x : Str} {v : Value} : ∀ {P : List Str} {vs : List Value} {i : Nat} {m : Str → Option Value}, P.Nodup → P[i]? = some x → vs[i]? = some v → kindOf x = some .local →
    bindL kindOf (P.zip vs) m x = some v
  | [], _, _, _, _, h, _, _ => by simp at h
  | _ :: _, [], _, _, _, _, h, _ => by simp at h
  | p :: P, w :: vs, 0, m, nd, h1, h2, hk => by
    simp at h1 h2; subst h1; subst h2
    show bindL kindOf ((p, w) :: P.zip vs) m p = _
    unfold bindL
    rw [bindL_out fun v hv => (List.nodup_cons.mp nd).1 (List.of_mem_zip hv).1, if_pos hk]
    simp
  | p :: P, w :: vs, i + 1, m, nd, h1, h2, hk => by
    show bindL kindOf ((p, w) :: P.zip vs) m x = _
    unfold bindL
    exact bindL_get (i := i) (List.nodup_cons.mp nd).2 (by simpa using h1) (by simpa using h2) hk
theorem bindC_get {kindOf : Str → Option NameKind} {x : Str} {v : Value} : ∀ {P : List Str} {vs : List Value} {i : Nat} {m : Str → Option Value}, P.Nodup → P[i]? = some x → vs[i]? = some v → kindOf x ≠ some .local →
    bindC kindOf (P.zip vs) m x = some v
  | [], _, _, _, _, h, _, _ => by simp at h
  | _ :: _, [], _, _, _, _, h, _ => by simp at h
  | p :: P, w :: vs, 0, m, nd, h1, h2, hk => by
    simp at h1 h2; subst h1; subst h2
    show bindC kindOf ((p, w) :: P.zip vs) m p = _
    unfold bindC
    rw [bindC_out fun v hv => (List.nodup_cons.mp nd).1 (List.of_mem_zip hv).1, if_neg hk]
    simp
  | p :: P, w :: vs, i + 1, m, nd, h1, h2, hk => by
    show bindC kindOf ((p, w) :: P.zip vs) m x = _
    unfold bindC
    exact bindC_get (i := i) (List.nodup_cons.mp nd).2 (by simpa using h1) (by simpa using h2) hk
def start (N : List Str) (vs : List V) : St := vs.map some ++ List.replicate (N.length - vs.length) none
def cxOf (CX : CXT) (P : Program) (w : World) (K : PySem.W.Frag) (mg : Str → Option Value) (base : Heap) (N : List Str) (qual : Str) (scope : Scope) (f : Addr) (cd : Value) (A : Around) (outer : List Env) (s : Shared) (H : Hp) (E : XK) : Cx where
  prog := P
  w := w
  K := K
  mg := mg
  base := base
  A := A.deeper (envOfC qual scope s.heap.objs.size f cd)
  N := N
  s₀ := s
  H₀ := H
  env := envOfC qual scope s.heap.objs.size f cd
  outer := outer
  stack := envOfC qual scope s.heap.objs.size f cd :: outer
  ex := []
  calm := true
  fn := fun _ => true
  pn := []
  xe := fun e s' => wpAny (model P w) (A.deeper (envOfC qual scope s.heap.objs.size f cd)) (leaving (envOfC qual scope s.heap.objs.size f cd) e) (fun _ s'' => CX outer H s E e s'') (fun e' s'' => CX outer H s E e' s'') s'
theorem cell_has {sc : Scope} {n : Nat} {x : Str} (h : sc.names.lookup x = some .cell) : ∃ c, (cellsFrom n sc.names []).lookup x = some c := by
  have q := PySem.W.cellsFrom_some sc.names n [] (.inl h)
  exact Option.isSome_iff_exists.mp q
theorem inv_start {CX : CXT} {P : Program} {w : World} {K : PySem.W.Frag} {mg : Str → Option Value} {base : Heap} {N ps : List Str} {qual : Str} {scope : Scope} {f : Addr} {cd : Value} {A : Around} {outer : List Env} {s s1 : Shared} {H : Hp} {E : XK} {us : List Value} {vs : List V}
    (S : FnScope N ps scope) (hd : A.handled = none) (e0 : Env0 P w K mg base A outer s H) (hl : vs.length = ps.length) (r : Vals vs us)
    (x : InCallC s s.heap.objs.size (bindL (envOfC qual scope s.heap.objs.size f cd).kindOf (ps.zip us) fun _ => none) (cellsFrom (s.heap.objs.size + 1) scope.names []) (bindC (envOfC qual scope s.heap.objs.size f cd).kindOf (ps.zip us) fun _ => none) s1) :
    Inv (cxOf CX P w K mg base N qual scope f cd A outer s H E) [] (start N vs) H s1 := by
  have hpl : ps.length ≤ N.length := by have := congrArg List.length S.pre; rw [List.length_take] at this; omega
  obtain ⟨h1, tk, rfl, hk⟩ := x.done
  have noA : ∀ b : Addr, b ∉ (cxOf CX P w K mg base N qual scope f cd A outer s H E).ex := fun b z => absurd (show b ∈ ([] : List Addr) from z) (by simp)
  refine ⟨⟨e0.mod, S.kind, rfl, rfl, Nat.le_refl _, fun y z c h1 h2 => ?_, fun y hy => ?_, fun y c _ h => ?_, fun _ => hd, Around.frames_deeper e0.frames, .inr ⟨rfl, rfl⟩, fun b z => absurd z (noA b), e0.bs, e0.bsz, fun b _ _ => noA b, fun b z => absurd z (noA b), e0.funs, e0.frf⟩,
    rfl, e0.bare, Un.kept hk, ⟨_, x.toInCall.ns, fun i y v h1 h2 h3 => ?_⟩, fun y c h => ⟨_, x.cell y c h⟩, e0.hok.fresh (Nat.le_refl _), fun y c h => ?_, fun p hp => absurd (show p ∈ ([] : List (Addr × Obj)) from hp) (by simp), e0.hok.kept hk, ?_⟩
  · exact name_of_addr x.apart (PySem.mem_of_lookup h1) (PySem.mem_of_lookup h2)
  · have hy : scope.names.lookup y = some .cell ∨ scope.names.lookup y = some .free := hy
    rcases hy with hy | hy
    · exact cell_has hy
    · exact absurd rfl (S.nofree _ (PySem.mem_of_lookup hy))
  · exact Nat.le_of_lt (x.above y c (PySem.mem_of_lookup h))
  · have hi : i < vs.length := by
      unfold start at h2
      by_cases hi : i < vs.length
      · exact hi
      · rw [List.getElem?_append_right (by simpa using hi)] at h2
        rw [List.getElem?_replicate] at h2
        split at h2 <;> cases h2
    have ha : vs[i]? = some v := by
      unfold start at h2
      rw [List.getElem?_append_left (by simpa using hi), List.getElem?_map] at h2
      cases e : vs[i]? with
      | none => rw [e] at h2; cases h2
      | some a => rw [e] at h2; cases h2; rfl
    obtain ⟨u, hu, rv⟩ := r.get ha
    have hp : ps[i]? = some y := by
      rw [← S.pre, List.getElem?_take_of_lt (by omega)]; exact h1
    have ndP : ps.Nodup := by rw [← S.pre]; exact S.nd.sublist (List.take_sublist _ _)
    refine ⟨u, rv, ?_⟩
    rcases S.par y (List.mem_of_getElem? hp) with k | k
    · exact .inl ⟨k, bindL_get ndP hp hu k⟩
    · obtain ⟨c, e⟩ := cell_has (n := s.heap.objs.size + 1) k
      refine .inr ⟨.inl k, c, e, ?_⟩
      have q := x.cell y c e
      rw [bindC_get ndP hp hu (by show scope.names.lookup y ≠ _; rw [k]; decide)] at q
      exact q
  · exact e0.hok.fresh (Nat.le_of_lt (x.above y c (PySem.mem_of_lookup h)))
  · unfold start
    show _ = N.length
    rw [List.length_append, List.length_map, List.length_replicate]
    omega
theorem fn_of {CX : CXT} {P : Program} {w : World} {K : PySem.W.Frag} {mg : Str → Option Value} {base : Heap} {k : Nat} {f : Addr} {name qual : Str} {params : Arguments} {body : List Stmt} {scope : Scope} {dV kV doc pm cdv ct oc : Value} {an od : Option Addr}
    {osl : Array (Option Value)} {N ps : List Str} {sp : Sp} (lk : K.lookup f = some ⟨oc, od, .func (PySem.W.fnOf name qual params body scope dV kV doc pm an cdv ct), osl⟩) (hcd : PySem.W.codeIn K cdv qual = true) (S : FnScope N ps scope)
    (len : ∀ vs H Q E, sp vs H Q E → vs.length = ps.length)
    (hbody : ∀ (A : Around) (outer : List Env) (s : Shared) (H : Hp) (vs : List V) (Q : VK) (E : XK), Room k (A.deeper (envOfC qual scope s.heap.objs.size f cdv)) → sp vs H Q E →
      ∃ t, PSs (cxOf CX P w K mg base N qual scope f cdv A outer s H E) body t ∧ t { nx := fun _ H' => Q .non H', rt := Q } (start N vs) H) :
    FnOk P w K mg base CX (k + 1) f (PySem.W.fnOf name qual params body scope dV kV doc pm an cdv ct) ps sp := by
  refine ⟨len, fun A outer s H args us vs Q E hr e0 hb r hsp => ?_⟩
  have hl := len _ _ _ _ hsp
  have KX : K.In s.heap := e0.mod.kin.keeps fun b o e => (e0.bs b o e).1
  have lim : s.heap.NoLimit := e0.mod.nolimit.keeps fun b o e => (e0.bs b o e).1
  have hkind : ∀ y ∈ ps.zip us, scope.names.lookup y.1 = some .local ∨ (scope.names.lookup y.1 = some .cell ∧ ((cellsFrom (s.heap.objs.size + 1) scope.names []).lookup y.1).isSome = true) := fun ⟨n, v⟩ hy => by
    rcases S.par n (List.of_mem_zip hy).1 with q | q
    · exact .inl q
    · exact .inr ⟨q, PySem.W.cellsFrom_some _ _ _ (.inl q)⟩
  refine codeAny_call_function hr.depth (KX _ _ lk) rfl S.co S.gen rfl (PySem.W.codeRec_of KX hcd) (hb _ _ _ _ ?_)
  refine wpAny_newFunctionEnv_cells S.kind hkind fun env he s1 x => ?_
  subst he
  refine ⟨lim.keeps x.toInCall.keep, codeAny_func ?_⟩
  obtain ⟨t, ht, hq⟩ := hbody A outer s H vs Q E (hr.deeper _) hsp
  have I : Inv (cxOf CX P w K mg base N qual scope f cdv A outer s H E) [] (start N vs) H s1 := inv_start S hr.hd e0 hl r x
  refine wpAny_mono (ht [] s1 (start N vs) H _ I hq) (fun fl s' hs => ?_) fun e s' hs => hs
  have fin : ∀ {σ' : St} {H' : Hp} {v : V} {u : Value}, Inv (cxOf CX P w K mg base N qual scope f cdv A outer s H E) [] σ' H' s' → RelV v u → Q v H' → CE outer P w H s Q u s' :=
    fun {σ' H' v u} J rv q => ⟨v, H', J.os, J.bare, J.base, J.hok, rv, q⟩
  cases fl with
  | ret u =>
    obtain ⟨v, σ', H', J, rv, q⟩ := hs
    exact fin J rv q
  | next =>
    obtain ⟨σ', H', J, q⟩ := hs
    exact fin (v := V.non) (u := Value.none) J rfl q
  | brk =>
    obtain ⟨_, _, _, q⟩ := hs
    exact False.elim q
  | cont =>
    obtain ⟨_, _, _, q⟩ := hs
    exact False.elim q
end L2
namespace L2
open PySem PySem.Spec PyProof.Rows
section
variable {X : Cx} {x : Str} {p pos : Pos} {e : Expr} {es : List Expr} {t : TA} {id T : String} {r : List V → Hp → VK → Prop}
def tCB (r : List V → Hp → VK → Prop) (t : TA) : TE := fun σ H Q => t σ H fun vs H1 => r vs H1 Q
theorem pe_callB (hc : CallR X (.builtin id) r) (hg : Gl X x) (hm : X.mg x = none) (hv : bootBuiltins x = some (.builtin id)) (ha : PA X (e :: es) t) (hn : x ≠ "__name__" := by decide) (hdb : (x == ("__debug__" : Str)) = false := by decide)
    (he : starEach (e :: es) X.env = (false, eval e X.env) :: starEach es X.env := by rfl) (hpl : (backTo pos (starEach es X.env)).any (·.1) = false := by rfl) : PE X (.Call (.Name x p) (e :: es) [] pos) (tCB r t) := by
  intro pins s σ H Q I h
  refine wpAny_Call_Name_kw (ld_blt I hg hm hv ?_ hn hdb)
  exact PyProof.Rows.callWith_builtin1 (thn (ha pos pins s σ H _ I h) fun us s1 ⟨vs, H1, I1, r1, q1⟩ => hc pins s1 σ H1 vs us Q I1 r1 q1) he hpl
theorem pe_callTy (hc : CallR X (.type T) r) (hg : Gl X x) (hm : X.mg x = none) (hv : bootBuiltins x = some (.type T)) (ha : PA X (e :: es) t) (hn : x ≠ "__name__" := by decide) (hdb : (x == ("__debug__" : Str)) = false := by decide)
    (he : starEach (e :: es) X.env = (false, eval e X.env) :: starEach es X.env := by rfl) (hpl : (backTo pos (starEach es X.env)).any (·.1) = false := by rfl) : PE X (.Call (.Name x p) (e :: es) [] pos) (tCB r t) := by
  intro pins s σ H Q I h
  refine wpAny_Call_Name_kw (ld_blt I hg hm hv ?_ hn hdb)
  exact PyProof.Rows.callWith_type1 (thn (ha pos pins s σ H _ I h) fun us s1 ⟨vs, H1, I1, r1, q1⟩ => hc pins s1 σ H1 vs us Q I1 r1 q1) he hpl
end
end L2
namespace HT
open PySem PyProof.Rows
section
open PySem.SeqAt
open PySem.AutoSeq1 (wpAny_loadPart')
open PySem.MeetsSeq PySem.MeetsSeq2 PySem.MeetsSeq3
end
section
variable {prog : Program} {w : World} {A : Around} {E : Value → Shared → Prop} {s : Shared}
theorem cat_tup {t b : Addr} {vs ws : List Value} {Q : Value → Shared → Prop} (ht : IsTup s.heap t vs.toArray) (hb : IsTup s.heap b ws.toArray) (hv : vs ≠ [])
    (h1 : ws = [] → Q (.ref t) s) (h2 : ws ≠ [] → Q (.ref s.heap.objs.size) { s with heap := s.heap.push { cls := .type "tuple", data := .seq (vs ++ ws).toArray } })
    (hsz : vs.length + ws.length ≤ sizeLine) : wpAny (model prog w) A (binaryOp .Add (.ref t) (.ref b)) Q E s := by
  obtain ⟨⟨cls, dd, data, sl⟩, ho, hc, n, hd⟩ := id ht
  obtain ⟨⟨cls2, dd2, data2, sl2⟩, ho2, hc2, n2, hd2⟩ := id hb
  simp only at hc hd hc2 hd2
  subst hc hd hc2 hd2
  have e : vs.toArray ++ ws.toArray = (vs ++ ws).toArray := by simp
  by_cases hw : ws = []
  · exact concat_meets ⟨_, ho, rfl⟩ ⟨_, ho2, rfl⟩ noFill_tuple_add seq_tuple_add PySem.F.slot_tuple_add PySem.F.entry_tuple_add (PySem.F.args_tuple_add_2 _ _)
      (tuple_addW1 t b vs.toArray ws.toArray n n2 dd dd2 sl sl2 (by simpa using hv) (by simp [hw])) ⟨ho, ho2, h1 hw⟩
  · refine concat_meets ⟨_, ho, rfl⟩ ⟨_, ho2, rfl⟩ noFill_tuple_add seq_tuple_add PySem.F.slot_tuple_add PySem.F.entry_tuple_add (PySem.F.args_tuple_add_2 _ _)
      (tuple_addW2 t b vs.toArray ws.toArray n n2 dd dd2 sl sl2 (by simpa using hv) (by simpa using hw) (by rw [List.size_toArray, List.size_toArray]; exact hsz)) ⟨ho, ho2, ?_⟩
    rw [e]
    exact h2 hw
def sIx (n d : Nat) : Option Int → Nat
  | none => d
  | some v => if v < 0 then (v + (n : Int)).toNat else min v.toNat n
end
end HT
namespace L2
open PySem PySem.Spec PyProof.Rows
abbrev TO := St → Hp → (Option Int → Hp → Prop) → Prop
def PO (X : Cx) (e : Option Expr) (t : TO) : Prop :=
  ∀ (pins : List (Addr × Obj)) (s : Shared) (σ : St) (H : Hp) (Q : Option Int → Hp → Prop), Inv X pins σ H s → t σ H Q →
    wpAny (model X.prog X.w) X.A (evalPart e X.env) (fun u s' => ∃ o H', Inv X pins σ H' s' ∧ IsPart u o ∧ Q o H') X.xe s
def tNoPart : TO := fun _ H Q => Q none H
def tPart (t : TE) : TO := fun σ H Q => t σ H fun x H1 => ∃ i, x = .int i ∧ Q (some i) H1
section
variable {X : Cx} {e : Expr} {te : TE} {lo hi : Option Expr} {tl th : TO} {pos p2 : Pos}
theorem po_none : PO X none tNoPart := by
  intro pins s σ H Q I h
  rw [evalPart_none]
  exact wpAny_pure ⟨none, H, I, .none, h⟩
theorem po_some (h : PE X e te) : PO X (some e) (tPart te) := by
  intro pins s σ H Q I hw
  rw [evalPart_some]
  refine thn (h pins s σ H _ I hw) fun u s1 ⟨x, H1, I1, r1, q1⟩ => ?_
  obtain ⟨i, rfl, q⟩ := q1
  obtain ⟨t, rfl⟩ := r1
  exact ⟨some i, H1, I1, .int i t, q⟩
def SlR (X : Cx) (r : V → Option Int → Option Int → Hp → VK → Prop) : Prop :=
  ∀ (pins : List (Addr × Obj)) (s : Shared) (σ : St) (H : Hp) (x : V) (v vl vu : Value) (lo hi : Option Int) (sl : Addr) (Q : VK), Inv X pins σ H s → RelV x v → s.heap.IsSliceOf sl vl vu .none → IsPart vl lo → IsPart vu hi → r x lo hi H Q →
    ∃ T id, typeLookup (.type T) "__getitem__" = pure (some (.builtin id)) ∧ s.TypeIs v T ∧ wpAny (model X.prog X.w) X.A (getItem v (.ref sl)) (EP X pins σ Q) X.xe s
theorem SlR.or {r r' : V → Option Int → Option Int → Hp → VK → Prop} (h : SlR X r) (h' : SlR X r') : SlR X (fun x lo hi H Q => r x lo hi H Q ∨ r' x lo hi H Q) := by
  intro pins s σ H x v vl vu lo hi sl Q I rx hs pl pu q
  rcases q with q | q
  · exact h pins s σ H x v vl vu lo hi sl Q I rx hs pl pu q
  · exact h' pins s σ H x v vl vu lo hi sl Q I rx hs pl pu q
def tSl (r : V → Option Int → Option Int → Hp → VK → Prop) (te : TE) (tl th : TO) : TE := fun σ H Q => te σ H fun x H1 => tl σ H1 fun l H2 => th σ H2 fun u H3 => r x l u H3 Q
theorem pe_slice {r : V → Option Int → Option Int → Hp → VK → Prop} (hr : SlR X r) (he : PE X e te) (hl : PO X lo tl) (hu : PO X hi th) : PE X (.Subscript e (.Slice lo hi none p2) pos) (tSl r te tl th) := by
  intro pins s σ H Q I h
  refine Subscript_ (thn (he pins s σ H _ I h) fun v s1 ⟨x, H1, I1, r1, q1⟩ => ?_)
  refine wpAny_Slice (thn (hl pins s1 σ H1 _ I1 q1) fun vl s2 ⟨l, H2, I2, pl, q2⟩ => thn (hu pins s2 σ H2 _ I2 q2) fun vu s3 ⟨u, H3, I3, pu, q3⟩ => ?_)
  rw [evalPart_none]
  refine wpAny_pure ?_
  have I4 : Inv X pins σ H3 { s3 with heap := s3.heap.push { cls := .type "slice", data := .fields #[vl, vu, .none] } } := I3.kept (t' := s3.toks) fun b ob q => Heap.get?_push_of_some _ q
  obtain ⟨T, id, hT, ht, hg⟩ := hr pins { s3 with heap := s3.heap.push { cls := .type "slice", data := .fields #[vl, vu, .none] } } σ H3 x v vl vu l u s3.heap.objs.size Q I4 r1 (Heap.IsSliceOf.new ..) pl pu q3
  show wpAny (model X.prog X.w) X.A (subscriptTail e (.Slice lo hi none p2) v (.ref s3.heap.objs.size)) (EP X pins σ Q) X.xe { s3 with heap := s3.heap.push { cls := .type "slice", data := .fields #[vl, vu, .none] } }
  exact tail_any (ops := [.ref s3.heap.objs.size, v]) ht hT hg (by with_unfolding_all rfl)
def cutV (xs : List V) (lo hi : Option Int) : List V := (xs.drop (HT.sIx xs.length 0 lo)).take (HT.sIx xs.length xs.length hi - HT.sIx xs.length 0 lo)
theorem cutV_length (xs : List V) (lo hi : Option Int) : (cutV xs lo hi).length ≤ xs.length := by
  unfold cutV
  rw [List.length_take, List.length_drop]
  omega
def rCatT (K : PySem.W.Frag) : R2 := fun x y H Q => ∃ a b xs ys, x = .ref a ∧ y = .ref b ∧ SqT K H a xs ∧ SqT K H b ys ∧ xs ≠ [] ∧ xs.length + ys.length ≤ sizeLine ∧
  (ys = [] → Q (.ref a) H) ∧ (ys ≠ [] → ∀ p, H p = none → Q (.ref p) (upd H p (.tup (xs ++ ys))))
theorem Vals.nil_iff {xs : List V} {us : List Value} (r : Vals xs us) : us = [] ↔ xs = [] := by
  cases r with
  | nil => simp
  | cons _ _ => simp
theorem op_catT : OpR X (binaryOp .Add) (rCatT X.K) := by
  intro pins s σ H x y v u Q I rx ry h
  obtain ⟨a, b, xs, ys, rfl, rfl, ha, hb, hx, hz, q1, q2⟩ := h
  cases rx
  cases ry
  obtain ⟨its, r1, p1, _⟩ := I.tuple ha
  obtain ⟨its2, r2, p2, _⟩ := I.tuple hb
  refine HT.cat_tup p1 p2 (fun z => hx (r1.nil_iff.mp z)) (fun z => ⟨.ref a, H, I, rfl, q1 (r2.nil_iff.mp z)⟩) (fun z => ?_) (by rw [← r1.length, ← r2.length]; exact hz)
  refine ⟨.ref s.heap.objs.size, _, I.laid (t' := s.toks) (o := .tup (xs ++ ys)) (fun b ob q => Heap.get?_push_of_some _ q) (Nat.le_refl _) ?_, rfl, q2 (fun w => z (r2.nil_iff.mpr w)) _ (I.hok.fresh (Nat.le_refl _))⟩
  exact ⟨by rw [List.length_append]; exact hz, _, r1.append r2, IsTup.new _ _⟩
end
end L2
namespace L2
open PySem PySem.Spec PyProof.Rows
def ixN (n : Nat) (i : Int) : Option Nat := if 0 ≤ i then (if i < n then some i.toNat else none) else if -(n : Int) ≤ i then some (i + n).toNat else none
def atI {α : Type} (xs : List α) (i : Int) : Option α := (ixN xs.length i).bind fun j => xs[j]?
theorem ixN_seq {n : Nat} {i : Int} {j : Nat} (h : ixN n i = some j) : seqIndex? i n = some j ∧ j < n ∧ -(n : Int) ≤ i ∧ i < n := by
  unfold ixN at h
  by_cases h0 : 0 ≤ i
  · rw [if_pos h0] at h
    by_cases h1 : i < n
    · rw [if_pos h1] at h
      have e : i.toNat = j := Option.some.inj h
      exact ⟨by rw [seqIndex_of h0 h1, e], by omega, by omega, h1⟩
    · rw [if_neg h1] at h; cases h
  · rw [if_neg h0] at h
    by_cases h1 : -(n : Int) ≤ i
    · rw [if_pos h1] at h
      have e : (i + n).toNat = j := Option.some.inj h
      exact ⟨by rw [seqIndex_neg (by omega) h1, e], by omega, h1, by omega⟩
    · rw [if_neg h1] at h; cases h
theorem atI_get {α : Type} {xs : List α} {i : Int} {v : α} (h : atI xs i = some v) : ∃ j, seqIndex? i xs.length = some j ∧ xs[j]? = some v ∧ j < xs.length ∧ -(xs.length : Int) ≤ i ∧ i < xs.length := by
  unfold atI at h
  cases e : ixN xs.length i with
  | none => rw [e] at h; cases h
  | some j =>
    rw [e] at h
    obtain ⟨h1, h2, h3, h4⟩ := ixN_seq e
    exact ⟨j, h1, h, h2, h3, h4⟩
theorem atI_nat {α : Type} {xs : List α} {j : Nat} {v : α} (h : xs[j]? = some v) : atI xs (j : Int) = some v := by
  have hj : j < xs.length := (List.getElem?_eq_some_iff.mp h).1
  have e : ixN xs.length (j : Int) = some j := by
    unfold ixN
    rw [if_pos (by omega), if_pos (by omega)]; simp
  unfold atI; rw [e]; exact h
def PlainIx (b : Expr) : Prop := ∀ o i, subscripted b false o i = operate [o, i] (getItem o i)
def IxR (X : Cx) (r : R2) : Prop :=
  ∀ (value slice : Expr) (pins : List (Addr × Obj)) (s : Shared) (σ : St) (H : Hp) (x y : V) (v u : Value) (Q : VK), Inv X pins σ H s → RelV x v → RelV y u → r x y H Q →
    subscripted slice false v u = operate [v, u] (getItem v u) → wpAny (model X.prog X.w) X.A (subscriptTail value slice v u) (EP X pins σ Q) X.xe s
def MtR (X : Cx) (id : String) (r : V → List V → Hp → VK → Prop) : Prop :=
  ∀ (pins : List (Addr × Obj)) (s : Shared) (σ : St) (H : Hp) (x : V) (xs : List V) (v : Value) (us : List Value) (Q : VK), Inv X pins σ H s → RelV x v → Vals xs us → r x xs H Q →
    wpAny (model X.prog X.w) X.A (call (.builtin id) (v :: us)) (EP X pins σ Q) X.xe s
section
variable {X : Cx} {a b : Expr} {ta tb : TE} {pos : Pos}
theorem IxR.or {r r' : R2} (h : IxR X r) (h' : IxR X r') : IxR X (fun x y H Q => r x y H Q ∨ r' x y H Q) := by
  intro value slice pins s σ H x y v u Q I rx ry q hs
  rcases q with q | q
  · exact h value slice pins s σ H x y v u Q I rx ry q hs
  · exact h' value slice pins s σ H x y v u Q I rx ry q hs
theorem MtR.or {id : String} {r r' : V → List V → Hp → VK → Prop} (h : MtR X id r) (h' : MtR X id r') : MtR X id (fun x xs H Q => r x xs H Q ∨ r' x xs H Q) := by
  intro pins s σ H x xs v us Q I rx rs q
  rcases q with q | q
  · exact h pins s σ H x xs v us Q I rx rs q
  · exact h' pins s σ H x xs v us Q I rx rs q
theorem pe_ix {r : R2} (hr : IxR X r) (ha : PE X a ta) (hb : PE X b tb) (hs : PlainIx b) : PE X (.Subscript a b pos) (tOp r ta tb) := by
  intro pins s σ H Q I h
  exact Subscript_ (binT ha hb I h fun v u s2 x y H2 I2 rx ry q => hr a b pins s2 σ H2 x y v u Q I2 rx ry q (hs _ _))
def rIxL (K : PySem.W.Frag) : R2 := fun x y H Q => ∃ p xs i v, x = .ref p ∧ y = .int i ∧ SqL K H p xs ∧ atI xs i = some v ∧ Q v H
def rIxT (K : PySem.W.Frag) : R2 := fun x y H Q => ∃ p xs i v, x = .ref p ∧ y = .int i ∧ SqT K H p xs ∧ atI xs i = some v ∧ Q v H
theorem ix_list : IxR X (rIxL X.K) := by
  intro value slice pins s σ H x y v u Q I rx ry h hs
  obtain ⟨p, xs, i, z, rfl, rfl, hq, he, q⟩ := h
  cases rx
  obtain ⟨t, rfl⟩ := ry
  obtain ⟨its, r, pl, hz⟩ := I.list hq
  obtain ⟨j, h1, h2, h3, h4, h5⟩ := atI_get he
  obtain ⟨w, ew, rw'⟩ := r.get h2
  have hl := r.length
  have hn := line63
  have fin : EP X pins σ Q w s := ⟨z, H, I, rw', q⟩
  by_cases h0 : 0 ≤ i
  · have hj : i.toNat = j := by
      rw [seqIndex_of h0 h5] at h1
      exact Option.some.inj h1
    exact item_listR pl.isList h0 (by omega) (by rw [hj]; simpa using ew) fin hs
  · have hj : (i + (its.toArray.size : Int)).toNat = j := by
      rw [seqIndex_neg (by omega) h4] at h1
      rw [List.size_toArray, ← hl]
      exact Option.some.inj h1
    exact subscriptTail_builtinR (x := w) pl.isList.typeIs slot_list_getitem.lookup
      (wpAny_getItem_list_neg (Q := fun r s' => r = w ∧ EP X pins σ Q r s') pl.isList (by omega) (by rw [List.size_toArray] <;> omega) (by omega) (by rw [hj]; simpa using ew) ⟨rfl, fin⟩) hs
theorem ix_tup : IxR X (rIxT X.K) := by
  intro value slice pins s σ H x y v u Q I rx ry h hs
  obtain ⟨p, xs, i, z, rfl, rfl, hq, he, q⟩ := h
  cases rx
  obtain ⟨t, rfl⟩ := ry
  obtain ⟨its, r, pl, hz⟩ := I.tuple hq
  obtain ⟨j, h1, h2, h3, h4, h5⟩ := atI_get he
  obtain ⟨w, ew, rw'⟩ := r.get h2
  have hl := r.length
  have hn := line63
  have fin : EP X pins σ Q w s := ⟨z, H, I, rw', q⟩
  exact subscriptTail_builtinR (x := w) pl.typeIs slot_tuple_getitem.lookup
    (getItem_tuple (j := j) (Q := fun r s' => r = w ∧ EP X pins σ Q r s') pl (by omega) (by omega) (by rw [List.size_toArray, ← hl]; exact h1) (by simpa using ew) ⟨rfl, fin⟩) hs
theorem mapSeq_set (its : List Value) (n j : Nat) (u : Value) : Obj.mapSeq (·.setIfInBounds j u) { cls := .type "list", data := .seq its.toArray n } = { cls := .type "list", data := .seq (its.set j u).toArray n } := by
  simp [Obj.mapSeq]
theorem Inv.lst {pins : List (Addr × Obj)} {σ : St} {H : Hp} {s : Shared} {p : Addr} {xs : List V} (I : Inv X pins σ H s) (h : H p = some (.lst xs)) :
    ∃ (its : List Value) (n : Nat), Vals xs its ∧ s.heap.get? p = some { cls := .type "list", data := .seq its.toArray n } ∧ xs.length ≤ sizeLine := by
  obtain ⟨z, its, n, r, e⟩ := I.hok p _ h
  exact ⟨its, n, r, e, z⟩
theorem Inv.lstUpd {pins : List (Addr × Obj)} {σ : St} {H : Hp} {s : Shared} {p : Addr} {xs ys : List V} {its its' : List Value} {n n' : Nat} {f : Obj → Obj} (I : Inv X pins σ H s) (h : H p = some (.lst xs))
    (ho : s.heap.get? p = some { cls := .type "list", data := .seq its.toArray n }) (hf : f { cls := .type "list", data := .seq its.toArray n } = { cls := .type "list", data := .seq its'.toArray n' }) (r : Vals ys its') (hz : ys.length ≤ sizeLine) (t : Nat) :
    Inv X pins σ (upd H p (.lst ys)) { s with heap := s.heap.update p f, toks := t } := by
  have e : (s.heap.update p f).get? p = some { cls := .type "list", data := .seq its'.toArray n' } := by
    rw [Heap.get?_update_self f ho (by rw [hf] <;> rfl), hf]
  refine I.write (x := p) (e := p) (by rw [h]; trivial) (.inl rfl) (fun b u hb q => (Heap.get?_update_other _ _ (Ne.symm hb)).trans q) ⟨_, e⟩ ?_
  exact ⟨hz, its', n', r, e⟩
def rSetL : V → V → V → Hp → (Hp → Prop) → Prop := fun o i v H Q => ∃ p xs k j, o = .ref p ∧ i = .int k ∧ H p = some (.lst xs) ∧ ixN xs.length k = some j ∧ Q (upd H p (.lst (xs.set j v)))
theorem set_list : PSet X rSetL := by
  intro pins s σ H o i v ov iv u Q I ro ri rv h
  obtain ⟨p, xs, k, j, rfl, rfl, hp, hj, q⟩ := h
  cases ro
  obtain ⟨t, rfl⟩ := ri
  obtain ⟨its, n, r, ho, hz⟩ := I.lst hp
  obtain ⟨h1, h2, h3, h4⟩ := ixN_seq hj
  have hl := r.length
  have hn := line63
  have I' : Inv X pins σ (upd H p (.lst (xs.set j v))) { s with heap := s.heap.update p (Obj.mapSeq (·.setIfInBounds j u)) } :=
    I.lstUpd hp ho (mapSeq_set its n j u) (r.set rv j) (by rw [List.length_set]; exact hz) s.toks
  by_cases h0 : 0 ≤ k
  · have hk : k.toNat = j := by
      rw [seqIndex_of h0 h4] at h1
      exact Option.some.inj h1
    exact PySem.W.ki_setAt ho h0 (by omega) (by rw [List.size_toArray, ← hl]; exact h4) (by rw [hk]; exact ⟨_, I', q⟩)
  · have hk : (k + (its.toArray.size : Int)).toNat = j := by
      rw [seqIndex_neg (by omega) h3] at h1
      rw [List.size_toArray, ← hl]
      exact Option.some.inj h1
    exact PySem.W.ki_setBack ho (by omega) (by rw [List.size_toArray, ← hl]; exact h3) (by omega) (by rw [hk]; exact ⟨_, I', q⟩)
theorem slice_bounds (lo hi : Option Int) (n : Nat) : (sliceBounds lo hi none n).1 = ((HT.sIx n 0 lo : Nat) : Int) ∧ (sliceBounds lo hi none n).2.1 = ((HT.sIx n n hi : Nat) : Int) ∧ (sliceBounds lo hi none n).2.2 = 1 := by
  refine ⟨?_, ?_, rfl⟩
  · cases lo with
    | none => simp [sliceBounds, HT.sIx]
    | some i =>
      simp only [sliceBounds, HT.sIx, Option.getD_none, show (1 : Int) > 0 by decide, if_true]
      by_cases h : i < 0
      · simp only [h, if_true] <;> omega
      · simp only [h, if_false] <;> omega
  · cases hi with
    | none => simp [sliceBounds, HT.sIx]
    | some i =>
      simp only [sliceBounds, HT.sIx, Option.getD_none, show (1 : Int) > 0 by decide, if_true]
      by_cases h : i < 0
      · simp only [h, if_true] <;> omega
      · simp only [h, if_false] <;> omega
theorem slicePick_cut (its : List Value) (lo hi : Option Int) : slicePick its.toArray lo hi none = ((its.drop (HT.sIx its.length 0 lo)).take (HT.sIx its.length its.length hi - HT.sIx its.length 0 lo)).toArray := by
  obtain ⟨h1, h2, h3⟩ := slice_bounds lo hi its.toArray.size
  unfold slicePick
  rw [h1, h2, h3]
  simp only [sliceRange_one, pick_run, List.size_toArray] <;> rfl
def rSlL (K : PySem.W.Frag) : V → Option Int → Option Int → Hp → VK → Prop := fun x lo hi H Q => ∃ a xs, x = .ref a ∧ SqL K H a xs ∧ ∀ p, H p = none → Q (.ref p) (upd H p (.lst (cutV xs lo hi)))
theorem sl_list : SlR X (rSlL X.K) := by
  intro pins s σ H x v vl vu lo hi sl Q I rx hs pl pu h
  obtain ⟨a, xs, rfl, hx, q⟩ := h
  cases rx
  obtain ⟨its, r, ht, hz⟩ := I.list hx
  have hlen := r.length
  refine ⟨"list", _, slot_list_getitem.lookup, ht.isList.typeIs, ?_⟩
  refine wpAny_getItem_list_slice ht.isList hs pl pu .none (by simp) ?_ (by rw [List.size_toArray] <;> omega)
  rw [slicePick_cut, ← hlen]
  refine ⟨.ref s.heap.objs.size, _, I.laid (t' := s.toks) (o := .lst (cutV xs lo hi)) (fun b ob q => Heap.get?_push_of_some _ q) (Nat.le_refl _) ?_, rfl, q _ (I.hok.fresh (Nat.le_refl _))⟩
  exact ⟨Nat.le_trans (cutV_length xs lo hi) hz, _, 0, (r.drop (HT.sIx xs.length 0 lo)).take (HT.sIx xs.length xs.length hi - HT.sIx xs.length 0 lo), Heap.get?_push_size _ rfl⟩
theorem call_len_seq : CallR X (.builtin "len") (fun xs H Q => ∃ p ys, xs = [.ref p] ∧ (SqL X.K H p ys ∨ SqT X.K H p ys) ∧ Q (.int ys.length) H) := by
  intro pins s σ H xs us Q I r h
  obtain ⟨p, ys, rfl, hq, q⟩ := h
  obtain ⟨u, rfl, rx⟩ := vals1 r
  cases rx
  have hn := line63
  rcases hq with hq | hq
  · obtain ⟨its, r', pl, hz⟩ := I.list hq
    have hlen := r'.length
    exact Calls.call_len_list pl.isList (by simp only [List.size_toArray] <;> omega) ⟨.int ys.length, H, I.tok _, ⟨s.toks + 1, by rw [List.size_toArray, hlen]⟩, q⟩
  · obtain ⟨its, r', pl, hz⟩ := I.tuple hq
    have hlen := r'.length
    exact len_tuple pl (by simp only [List.size_toArray] <;> omega) ⟨.int ys.length, H, I.tok _, ⟨s.toks + 1, by rw [List.size_toArray, hlen]⟩, q⟩
theorem call_len_str : CallR X (.builtin "len") (fun xs H Q => ∃ z, xs = [.str z] ∧ z.length ≤ sizeLine ∧ Q (.int z.length) H) := by
  intro pins s σ H xs us Q I r h
  obtain ⟨z, rfl, hz, q⟩ := h
  obtain ⟨u, rfl, t, rfl⟩ := vals1 r
  have hn := line63
  exact len_str (by omega) ⟨.int z.length, H, I.tok _, ⟨_, rfl⟩, q⟩
theorem CallR.or {f : Value} {r r' : List V → Hp → VK → Prop} (h : CallR X f r) (h' : CallR X f r') : CallR X f (fun xs H Q => r xs H Q ∨ r' xs H Q) := by
  intro pins s σ H xs us Q I rs q
  rcases q with q | q
  · exact h pins s σ H xs us Q I rs q
  · exact h' pins s σ H xs us Q I rs q
theorem call_list_of : CallR X (.type "list") (fun xs H Q => ∃ p ys, xs = [.ref p] ∧ (SqL X.K H p ys ∨ SqT X.K H p ys) ∧ ∀ l, H l = none → Q (.ref l) (upd H l (.lst ys))) := by
  intro pins s σ H xs us Q I r h
  obtain ⟨p, ys, rfl, hq, q⟩ := h
  obtain ⟨u, rfl, rx⟩ := vals1 r
  cases rx
  have fin : ∀ (its : List Value), Vals ys its → ys.length ≤ sizeLine → ∀ (h' : Heap) (c' : Nat), (∀ b o', s.heap.get? b = some o' → h'.get? b = some o') →
      h'.get? s.heap.objs.size = some { cls := .type "list", dict := none, data := .seq its.toArray c', slots := #[] } → EP X pins σ Q (.ref s.heap.objs.size) { s with heap := h' } := fun its r' hz h' c' kp e =>
    ⟨.ref s.heap.objs.size, _, I.laid (t' := s.toks) kp (Nat.le_refl _) (show ObjOk X.prog X.w _ h' _ (.lst ys) from ⟨hz, its, c', r', e⟩), rfl, q _ (I.hok.fresh (Nat.le_refl _))⟩
  rcases hq with hq | hq
  · obtain ⟨its, r', pl, hz⟩ := I.list hq
    have hlen := r'.length
    obtain ⟨o, ho, hc, n, hd⟩ := pl.isList
    exact call_list_seq p (.inl rfl) ho hc hd (fun h' c' kp e => fin its r' hz h' c' kp e) (by simp only [List.size_toArray] <;> omega)
  · obtain ⟨its, r', pl, hz⟩ := I.tuple hq
    have hlen := r'.length
    obtain ⟨o, ho, hc, n, hd⟩ := pl
    exact call_list_seq p (.inr rfl) ho hc hd (fun h' c' kp e => fin its r' hz h' c' kp e) (by simp only [List.size_toArray] <;> omega)
theorem call_tuple_of : CallR X (.type "tuple") (fun xs H Q => ∃ p ys, xs = [.ref p] ∧ ((SqL X.K H p ys ∧ ∀ l, H l = none → Q (.ref l) (upd H l (.tup ys))) ∨ (SqT X.K H p ys ∧ Q (.ref p) H))) := by
  intro pins s σ H xs us Q I r h
  obtain ⟨p, ys, rfl, h⟩ := h
  obtain ⟨u, rfl, rx⟩ := vals1 r
  cases rx
  rcases h with ⟨hq, q⟩ | ⟨hq, q⟩
  · obtain ⟨its, r', pl, hz⟩ := I.list hq
    have hlen := r'.length
    refine call_tuple_list pl.isList (fun h' kp => ?_) (by simp only [List.size_toArray] <;> omega)
    have I1 : Inv X pins σ H { s with heap := h' } := I.kept (t' := s.toks) kp
    have I2 : Inv X pins σ (upd H h'.objs.size (.tup ys)) { s with heap := h'.push { cls := .type "tuple", data := .seq its.toArray } } :=
      I1.laid (t' := s.toks) (fun b o e => Heap.get?_push_of_some _ e) (Nat.le_refl _) (show ObjOk X.prog X.w _ _ _ (.tup ys) from ⟨hz, its, r', IsTup.new _ _⟩)
    exact ⟨.ref h'.objs.size, _, I2, rfl, q _ (I1.hok.fresh (Nat.le_refl _))⟩
  · obtain ⟨its, r', pl, hz⟩ := I.tuple hq
    exact call_tuple_same pl ⟨.ref p, H, I, rfl, q⟩
def tyV (K : PySem.W.Frag) (T : String) (x : V) (H : Hp) : Prop := match x with
  | .str _ => T = "str"
  | .int _ => T = "int"
  | .ref p => (T = "list" ∧ ∃ xs, SqL K H p xs) ∨ (T = "tuple" ∧ ∃ o, K.lookup p = some o ∧ o.cls = .type "tuple" ∧ o.dict = none) ∨
      (T = "dict" ∧ ((∃ kvs, H p = some (.dK kvs)) ∨ ∃ kvs, H p = some (.dT kvs))) ∨ (T = "set" ∧ ∃ S n, H p = some (.set S n))
  | _ => False
theorem tyV_is {pins : List (Addr × Obj)} {σ : St} {H : Hp} {s : Shared} {T : String} {x : V} {v : Value} (I : Inv X pins σ H s) (r : RelV x v) (ty : tyV X.K T x H) :
    s.TypeIs v T ∧ ∀ a, v = .ref a → ∃ ob, s.heap.get? a = some ob ∧ ob.dict = none := by
  cases x with
  | str z =>
    obtain ⟨t, rfl⟩ := r
    cases (show T = "str" from ty)
    exact ⟨typeIs_str s z t, fun _ e => nomatch e⟩
  | int i =>
    obtain ⟨t, rfl⟩ := r
    cases (show T = "int" from ty)
    exact ⟨typeIs_int s i t, fun _ e => nomatch e⟩
  | ref p =>
    cases r
    rcases ty with ⟨rfl, xs, hq⟩ | ⟨rfl, o, hk, hc, hd⟩ | ⟨rfl, hk⟩ | ⟨rfl, S, n, hk⟩
    · obtain ⟨its, _, pl, _⟩ := I.list hq
      refine ⟨pl.isList.typeIs, fun a e => ?_⟩
      cases e
      obtain ⟨o, n, e, c, hd, _⟩ := pl
      exact ⟨o, e, hd⟩
    · refine ⟨⟨o, I.kIn p o hk, hc⟩, fun a e => ?_⟩
      cases e
      exact ⟨o, I.kIn _ o hk, hd⟩
    · have z : ∃ o, s.heap.get? p = some o ∧ o.ExactDict := by
        rcases hk with ⟨kvs, hk⟩ | ⟨kvs, hk⟩
        · obtain ⟨_, _, _, _, o, _, _, e, ex, _⟩ := I.hok p _ hk
          exact ⟨o, e, ex⟩
        · obtain ⟨_, _, _, _, o, _, _, e, ex, _⟩ := I.hok p _ hk
          exact ⟨o, e, ex⟩
      obtain ⟨o, e, ex⟩ := z
      refine ⟨⟨o, e, ex.1⟩, fun a e2 => ?_⟩
      cases e2
      exact ⟨o, e, ex.2.1⟩
    · obtain ⟨o, _, _, _, e, ex, _⟩ := I.hok p _ hk
      refine ⟨⟨o, e, ex.1⟩, fun a e2 => ?_⟩
      cases e2
      exact ⟨o, e, ex.2.1⟩
  | _ => exact False.elim ty
def tBM0 (K : PySem.W.Frag) (T : String) (r : V → List V → Hp → VK → Prop) (to : TE) : TE := fun σ H Q => to σ H fun x H1 => tyV K T x H1 ∧ r x [] H1 Q
def tBM (K : PySem.W.Frag) (T : String) (r : V → List V → Hp → VK → Prop) (to : TE) (t : TA) : TE := fun σ H Q => to σ H fun x H1 => tyV K T x H1 ∧ t σ H1 fun xs H2 => r x xs H2 Q
variable {o e : Expr} {es : List Expr} {to : TE} {t : TA} {name : Str} {apos cpos : Pos} {T id : String} {r : V → List V → Hp → VK → Prop}
theorem pe_bm (pa : PlainAttrs T) (slot : Slot T name id) (hty : typeOf (.builtin id) = pure (.type "method_descriptor")) (hm : MtR X id r) (ho : PE X o to) (ha : PA X (e :: es) t)
    (hbase : attributeBase o name X.env (eval o X.env) = eval o X.env := by rfl)
    (hfew : ((backTo cpos (starEach (e :: es) X.env)).all (fun x => !x.1) && (backToKw cpos (keywordEach [] X.env)).all (fun x => x.1.isSome)
      && decide ((e :: es).length + ([] : List Keyword).length + (if ([] : List Keyword).isEmpty then 0 else 1) < 30)) = true := by rfl)
    (hline : (apos.endLine == cpos.line) = true := by rfl) (hs : starEach (e :: es) X.env = (false, eval e X.env) :: starEach es X.env := by rfl) (hplain : (backTo cpos (starEach es X.env)).any (·.1) = false := by rfl) :
    PE X (.Call (.Attribute o name apos) (e :: es) [] cpos) (tBM X.K T r to t) := by
  intro pins s σ H Q I h
  refine wpAny_Call_method_late hbase hfew hline rfl (thn (ho pins s σ H _ I h) fun v s1 ⟨x, H1, I1, r1, ty, q1⟩ => ?_)
  obtain ⟨h1, h2⟩ := tyV_is I1 r1 ty
  refine ⟨T, id, pa, slot, hty, h1, h2, ?_⟩
  have hA := ha cpos pins s1 σ H1 _ I1 q1
  rw [hs] at hA ⊢
  refine Calls.callWith_builtin (by show (false || (backTo cpos (starEach es X.env)).any (·.1)) = false; rw [hplain] <;> rfl) (Calls.evalArgs_plain ?_)
  exact thn hA fun us s2 ⟨vs, H2, I2, r2, q2⟩ => hm pins s2 σ H2 x vs v us Q I2 r1 r2 q2
/- xs.append(e), list.index on a module's tuple .. are MtR facts of 06m -/
end
end L2
namespace L2
open PySem PySem.Spec PyProof.Rows
def MtM (X : Cx) (id : String) (r : V → List V → Hp → VK → Prop) : Prop :=
  ∀ (pins : List (Addr × Obj)) (s : Shared) (σ : St) (H : Hp) (x : V) (xs : List V) (v : Value) (us : List Value) (Q : VK), Inv X pins σ H s → RelV x v → Vals xs us → r x xs H Q →
    wpAny (model X.prog X.w) X.A (call (.builtin id) (v :: us)) (EP X pins σ Q) X.xe s
theorem Vals.one : ∀ {x : V} {us : List Value}, Vals [x] us → ∃ u, us = [u] ∧ RelV x u
  | _, _, .cons r .nil => ⟨_, rfl, r⟩
theorem Vals.two : ∀ {x y : V} {us : List Value}, Vals [x, y] us → ∃ u v, us = [u, v] ∧ RelV x u ∧ RelV y v
  | _, _, _, .cons r (.cons q .nil) => ⟨_, _, rfl, r, q⟩
theorem Vals.zero : ∀ {us : List Value}, Vals [] us → us = []
  | _, .nil => rfl
theorem Vals.reverse {xs : List V} {us : List Value} (h : Vals xs us) : Vals xs.reverse us.reverse := by
  induction h with
  | nil => exact .nil
  | cons r t ih => rw [List.reverse_cons, List.reverse_cons]; exact Vals.append ih (.cons r .nil)
section
variable {X : Cx} {pins : List (Addr × Obj)} {σ : St} {H : Hp} {s : Shared} {l b : Addr} {xs ys zs : List V}
theorem Inv.lset {its its' : List Value} {n : Nat} {f : Array Value → Array Value} {t' : Nat} (I : Inv X pins σ H s) (hH : H l = some (.lst xs))
    (e : s.heap.get? l = some { cls := .type "list", data := .seq its.toArray n }) (hf : f its.toArray = its'.toArray) (hv : Vals ys its') (hz : ys.length ≤ sizeLine) :
    Inv X pins σ (upd H l (.lst ys)) { s with heap := s.heap.update l (Obj.mapSeq f), toks := t' } := by
  have q := PySem.IsL.update e f
  rw [hf] at q
  refine I.write (x := l) (e := l) (by rw [hH]; exact trivial) (.inl rfl) (fun b' u hb hu => (Heap.get?_update_other s.heap (Obj.mapSeq f) (Ne.symm hb)).trans hu) ⟨_, q⟩ ?_
  exact ⟨hz, its', _, hv, q⟩
theorem Inv.lnew {its : List Value} {t' : Nat} (I : Inv X pins σ H s) (hv : Vals ys its) (hz : ys.length ≤ sizeLine) :
    Inv X pins σ (upd H s.heap.objs.size (.lst ys)) { s with heap := s.heap.push { cls := .type "list", data := .seq its.toArray }, toks := t' } :=
  I.laid (fun _ _ q => Heap.get?_push_of_some _ q) (Nat.le_refl _) ⟨hz, its, 0, hv, Heap.get?_push_size _ rfl⟩
theorem Inv.fresh (I : Inv X pins σ H s) : H s.heap.objs.size = none := I.hok.fresh (Nat.le_refl _)
theorem Inv.lstM (I : Inv X pins σ H s) (hH : H l = some (.lst xs)) : xs.length ≤ sizeLine ∧ ∃ (its : List Value) (n : Nat), Vals xs its ∧ xs.length = its.length ∧ s.heap.get? l = some { cls := .type "list", data := .seq its.toArray n } := by
  obtain ⟨z, its, n, r, e⟩ := I.hok l _ hH
  exact ⟨z, its, n, r, r.length, e⟩
end
section
variable {X : Cx}
def rAppend : V → List V → Hp → VK → Prop := fun x vs H Q => ∃ l xs y, x = .ref l ∧ vs = [y] ∧ H l = some (.lst xs) ∧ xs.length < sizeLine ∧ Q .non (upd H l (.lst (xs ++ [y])))
theorem mt_append : MtM X "list.append" rAppend := by
  intro pins s σ H x vs v us Q I rx rv h
  obtain ⟨l, xs, y, rfl, rfl, hH, hz, q⟩ := h
  cases rx
  obtain ⟨u, rfl, ru⟩ := rv.one
  obtain ⟨z, its, n, r, hl, e⟩ := I.lstM hH
  refine call_meets F.slot_list_append ⟨_, e, rfl⟩ F.entry_list_append (F.args_list_append_2 _ _) (PySem.list_append l its.toArray n u (by rw [List.size_toArray]; omega)) ⟨e, ?_⟩
  refine ⟨.non, _, I.lset (its' := its ++ [u]) hH e (by simp) (r.append (.cons ru .nil)) ?_, rfl, q⟩
  rw [List.length_append, List.length_singleton]
  omega
def rCat : R2 := fun x y H Q => ∃ l b xs zs, x = .ref l ∧ y = .ref b ∧ H l = some (.lst xs) ∧ H b = some (.lst zs) ∧ xs.length + zs.length ≤ sizeLine ∧ ∀ p, H p = none → Q (.ref p) (upd H p (.lst (xs ++ zs)))
theorem op_cat : OpR X (binaryOp .Add) rCat := by
  intro pins s σ H x y v u Q I rx ry h
  obtain ⟨l, b, xs, zs, rfl, rfl, hH, hB, hz, q⟩ := h
  cases rx
  cases ry
  obtain ⟨z, its, n, r, hl, e⟩ := I.lstM hH
  obtain ⟨z2, its2, n2, r2, hl2, e2⟩ := I.lstM hB
  refine PySem.P.add_list e e2 ?_ (by rw [List.size_toArray, List.size_toArray]; omega)
  have ea : its.toArray ++ its2.toArray = (its ++ its2).toArray := by simp
  rw [ea]
  exact ⟨.ref _, _, I.lnew (t' := s.toks) (r.append r2) (by rw [List.length_append]; omega), rfl, q _ I.fresh⟩
end
section
variable {prog : Program} {w : World} {A : Around} {E : Value → Shared → Prop} {s : Shared}
end
section
variable {X : Cx}
end
end L2
namespace Att
open PySem PySem.W PySem.Calls PyProof.Rows
theorem ints_of_wellAll {P : Params} {h : Heap} : ∀ (ns : List Int) (vs : List Value), WellAll P h vs (ns.map WData.int) → IntsAre vs ns := by
  intro ns
  induction ns with
  | nil =>
    intro vs w
    rw [List.map_nil] at w
    cases w
    exact .nil
  | cons n ns ih =>
    intro vs w
    rw [List.map_cons] at w
    cases w with
    | cons a b =>
      cases a
      exact .cons _ _ (ih _ b)
theorem script_of {l : OpenLaw} {n : Nat} (hn : l.most = some n) {P : Params} {h : Heap} {args : List WData} {vals : List Value}
    (hpre : l.row.toRowW.claim.pre args = true) (hwl : WellAll P h vals args) :
    ∃ a vs ns, vals = [Value.ref a] ∧ args = [WData.list (ns.map WData.int)] ∧ h.get? a = some { cls := .type "list", data := .seq vs.toArray } ∧ IntsAre vs ns ∧ ns.length ≤ n := by
  have hsh : WShape.hasAll [] args [.list .int] = true := (pre_splitW hpre).1
  have hc : l.pre.holds [] { args := args } = true := (pre_splitW hpre).2
  obtain ⟨d, r, rfl, h1, h2⟩ := hasAllW_cons hsh
  obtain rfl := hasAllW_nil h2
  obtain ⟨xs, rfl, h3⟩ := hasW_list h1
  obtain ⟨ns, rfl⟩ := items_int h3
  have hlen : ns.length ≤ n := by
    unfold OpenLaw.pre at hc
    have h4 : (WTm.not (.lt (.lit (.int (n : Int))) (.len (.arg 0)))).holds [] { args := [.list (ns.map .int)] } = true := by
      have h4 := (holds_andW hc).1
      rw [hn] at h4
      exact h4
    have h5 := condW_of h4 (w_not (w_lt w_lit (w_len_list (w_arg rfl))))
    rw [List.length_map] at h5
    refine Nat.le_of_not_lt fun q => ?_
    have q' : (n : Int) < ((ns.length : Nat) : Int) := by omega
    first
      | (rw [decide_eq_true q'] at h5; exact absurd h5 (by decide))
      | (simp at h5; omega)
  cases hwl with
  | cons w1 w2 =>
    cases w2
    cases w1 with
    | list ho hall => exact ⟨_, _, ns, rfl, rfl, ho, ints_of_wellAll ns _ hall, hlen⟩
theorem post_true (l : OpenLaw) (args : List WData) : l.row.toRowW.claim.post args (.bool true) args = true :=
  postW_of (r := l.row.toRowW) (X := (true == true))
    (show WShape.has [] (.bool true) .bool = true by first | rfl | decide | simp [WShape.has, WShape.arms, WShape.armsAll])
    (show (WTm.eq .res (.lit (.bool true))).value [] { args := args, res := some (.bool true), after := args } = some (.bool (true == true)) from w_eq_bool (w_res rfl) w_lit) rfl
theorem attach_call {l : OpenLaw} {n : Nat} {q : Program} {loose : List Str} {XP : (Str → Option Value) → Heap → Prop} {YP : World → Heap → Prop} {d : DefRec}
    (hn : l.most = some n) (hdf : d.params.defaults = [])
    (call : ∀ (w : World) (s₀ s₁ : Shared) (mg mb : Str → Option Value) (fa : Addr) (o : Obj) (pm cd doc : Value) (a : Addr) (vs : List Value) (ns : List Int),
      Ground q loose [] XP w s₀ mg mb s₁.heap → YP w s₁.heap →
      s₁.heap.get? fa = some o → o.data = .func (docDef d.name d.params d.body d.scope pm cd doc) → s₁.heap.CodeRec cd d.name → mg d.name = some (.ref fa) →
      s₁.heap.get? a = some { cls := .type "list", data := .seq vs.toArray } → IntsAre vs ns → ns.length ≤ n → s₁.gens = #[] →
      codeAny (model l.prog w) callerA (.call (.ref fa) ⟨[.ref a], []⟩) (fun r s' => r = .ok (.ret (.bool true)) ∧ OldK s₁.heap s'.heap ∧ s'.os = s₁.os ∧ AllBare s'.gens) s₁) :
    WalkO q loose XP YP l.row.toRowW d [] (fun f vs => PySem.call f vs) := by
  intro w s₀ s₁ mg mb G Y fa o pm cd doc dV kV ho hd hcd hD hmg hg args vals as hpre hlay hrd hwl hlo
  obtain rfl : dV = .none := Dflts.none hD hdf
  obtain rfl : kV = .none := Dflts.noKw hD
  obtain ⟨a, vs, ns, rfl, rfl, hobj, hints, hlen⟩ := script_of hn hpre hwl
  refine enter_call (codeAny_mono (call w s₀ s₁ mg mb fa o pm cd doc a vs ns G Y ho (fd_plain hd) hcd hmg hobj hints hlen hg) fun r s' hq => ?_)
  obtain ⟨rfl, h2, h3, h4⟩ := hq
  exact ⟨.inl ⟨.bool true, .bool true, [], rfl, fun _ => rfl, .bool true, post_true l _, fun _ => ⟨List.Pairwise.nil, fun _ hm => (nomatch hm)⟩⟩, h2, h3, h4⟩
section
variable {prog : Program} {w : World} {A : Around} {E : Value → Shared → Prop} {s : Shared} {K : Frag}
def ledger (h : Heap) (L d : Addr) : List (Addr × Obj) := (List.range h.objs.size).filterMap fun a => if a = L ∨ a = d then none else (h.get? a).map fun o => (a, o)
end
end Att
namespace L2
open PySem PySem.Spec PyProof.Rows
theorem vals_ints : ∀ {vs : List Value} {ns : List Int}, IntsAre vs ns → Vals (ns.map V.int) vs
  | _, _, .nil => .nil
  | _, _, .cons n t h => .cons ⟨t, rfl⟩ (vals_ints h)
def Only (H : Hp) : Prop := ∀ b, H b = none ∨ ∃ o xs, H b = some (.frz o (.lst xs))
theorem law_call {P : Program} {w : World} {K : PySem.W.Frag} {mg mb : Str → Option Value} {CX : CXT} {k : Nat} {fa a : Addr} {fd : FuncData} {x : Str} {sp : Sp} {s₁ : Shared} {vs : List Value} {ns : List Int}
    (KX : K.In s₁.heap) (hns : s₁.heap.Ns mainGlobals mg) (hb : s₁.heap.Ns builtinsNs mb) (hbb : ∀ x : Str, x ≠ "__name__" → mb x = bootBuiltins x) (hlim : s₁.heap.NoLimit) (hg : s₁.gens = #[])
    (ha : s₁.heap.get? a = some { cls := .type "list", data := .seq vs.toArray }) (hi : IntsAre vs ns) (hl : ns.length ≤ sizeLine) (hr : Room k callerA)
    (F : ∀ base : Heap, K.In base → base.Ns mainGlobals mg → FnOk P w K mg base CX k fa fd [x] sp) (hbind : ∀ (s : Shared) (u : Value), BindsTo s fd ⟨[u], []⟩ [(x, u)])
    (hsp : ∀ H : Hp, Only H → SqL K H a (ns.map V.int) → sp [.ref a] H (fun v _ => v = .bl true) fun _ _ _ => False)
    (hCX : ∀ H e s', CX [] H s₁ (fun _ _ _ => False) e s' → False) :
    codeAny (model P w) callerA (.call (.ref fa) ⟨[.ref a], []⟩) (fun r s' => r = .ok (.ret (.bool true)) ∧ OldK s₁.heap s'.heap ∧ s'.os = s₁.os ∧ AllBare s'.gens) s₁ := by
  have rv := vals_ints hi
  have lenV := hi.length
  -- from an abstract heap in which nothing but the script may be tracked
  have core : ∀ H : Hp, Only H → SqL K H a (ns.map V.int) → HOk P w H s₁.heap → (∀ b, H b ≠ none → b = a) → (H a ≠ none → K.lookup a = none) →
      codeAny (model P w) callerA (.call (.ref fa) ⟨[.ref a], []⟩) (fun r s' => r = .ok (.ret (.bool true)) ∧ OldK s₁.heap s'.heap ∧ s'.os = s₁.os ∧ AllBare s'.gens) s₁ := by
    intro H hO hS hok hA hK
    have base_of : ∀ {b : Addr} {o : Obj}, s₁.heap.get? b = some o → H b = none → (hidT s₁.heap H).get? b = some o := fun e n => hidT_get e n
    have noA : ∀ {b : Addr} {o : Obj} {es : Array DictEntry} {ep : Nat}, s₁.heap.get? b = some o → o.data = .dict es ep → H b = none := fun {b o es ep} e d => by
      cases q : H b with
      | none => rfl
      | some u =>
        have e' : b = a := hA b (by rw [q]; simp)
        subst e'
        rw [ha] at e; cases e
        have d' : Data.seq vs.toArray _ = Data.dict es ep := d
        cases d'
    have nsK : ∀ {b : Addr} {m : Str → Option Value}, s₁.heap.Ns b m → (hidT s₁.heap H).Ns b m := fun {b m} ⟨o, es, ep, e, d, r⟩ => ⟨o, es, ep, base_of e (noA e d), d, r⟩
    have hKb : K.In (hidT s₁.heap H) := fun b o e => base_of (KX b o e) (by
      cases q : H b with
      | none => rfl
      | some u =>
        have e' : b = a := hA b (by rw [q]; simp)
        subst e'
        rw [hK (by rw [q]; simp)] at e; cases e)
    have hM : Mod K mg (hidT s₁.heap H) := ⟨hKb, nsK hns, ⟨mb, nsK hb, hbb⟩, let ⟨mc, h1, h2⟩ := hlim; ⟨mc, nsK h1, h2⟩⟩
    have e0 : Env0 P w K mg (hidT s₁.heap H) callerA [] s₁ H := ⟨rfl, hM, fun b o e => of_hidT e, Nat.le_of_eq (hidT_size _ _), trivial, fun b hb => absurd (show b ∈ ([] : List Addr) from hb) (by simp), hok, .of_eq hg⟩
    refine codeAny_mono ((F _ hKb (nsK hns)).run callerA [] s₁ H ⟨[.ref a], []⟩ [.ref a] [.ref a] _ _ hr e0 (hbind s₁ (.ref a)) (.cons rfl .nil) (hsp H hO hS)) fun r s' h => ?_
    cases r with
    | error e => exact (hCX H e s' h).elim
    | ok fl =>
      cases fl with
      | next => exact False.elim h
      | brk => exact False.elim h
      | cont => exact False.elim h
      | ret u =>
        obtain ⟨v, H', os, bare, un, hok', r', q⟩ := h
        have q' : v = .bl true := q
        subst q'
        obtain rfl : u = Value.bool true := r'
        refine ⟨rfl, OldK.of_keep fun b o e => ?_, os, bare⟩
        cases q : H b with
        | none => exact un.keep b o e q (by intro z; exact absurd (show b ∈ ([] : List Addr) from z) (by simp)) (by simp)
        | some u =>
          rcases hO b with z | ⟨ob, xs, z⟩
          · rw [q] at z; cases z
          · have z2 := un.frzs b ob _ z
            obtain ⟨e1, _⟩ := hok b _ z
            obtain ⟨e2, _⟩ := hok' b _ z2
            rw [e] at e1; cases e1
            exact e2
  cases hk : K.lookup a with
  | some o =>
    -- the script is one of the module's own objects
    have e := KX a o hk
    rw [ha] at e
    cases e
    refine core (fun _ => none) (fun _ => .inl rfl) (.inr ⟨_, vs.toArray, _, hk, rfl, rfl, rfl, by rw [List.size_toArray, lenV]; exact hl, by simpa using rv⟩) (fun b u z => by have z' : (none : Option HO) = some u := z; cases z') (fun b z => absurd rfl z) fun z => absurd rfl z
  | none =>
    refine core (fun b => if b = a then some (.frz { cls := .type "list", data := .seq vs.toArray } (.lst (ns.map V.int))) else none) (fun b => ?_) (.inl (.inr ⟨{ cls := .type "list", data := .seq vs.toArray }, if_pos rfl⟩)) (fun b u z => ?_) (fun b z => ?_) fun _ => hk
    · by_cases hb : b = a
      · exact .inr ⟨_, _, if_pos hb⟩
      · exact .inl (if_neg hb)
    · by_cases hb : b = a
      · have z' := (if_pos hb).symm.trans z
        cases z'
        subst hb
        exact ⟨ha, by rw [List.length_map]; exact hl, vs, _, rv, ha⟩
      · have z' := (if_neg hb).symm.trans z
        cases z'
    · by_cases hb : b = a
      · exact hb
      · exact absurd (if_neg hb) z
end L2
namespace L2
open PySem PySem.Spec PyProof.Rows
theorem walk_of {l : PySem.W.OpenLaw} {n k : Nat} {q : Program} {loose : List Str} {XP : (Str → Option Value) → Heap → Prop} {YP : World → Heap → Prop} {d : DefRec} {K : Params → PySem.W.Frag} {CX : World → CXT} {sp : World → Sp} {x : Str}
    (hn : l.most = some n) (hn2 : n ≤ sizeLine) (hdf : d.params.defaults = []) (hr : Room k callerA)
    (hY : ∀ (w : World) (h : Heap), YP w h → (K w.params).In h)
    (F : ∀ (w : World) (mg : Str → Option Value) (fa : Addr) (h : Heap), (K w.params).In h → h.Ns mainGlobals mg → mg d.name = some (.ref fa) →
      ∃ fd : FuncData, (∀ (s : Shared) (u : Value), BindsTo s fd ⟨[u], []⟩ [(x, u)]) ∧
        ∀ base : Heap, (K w.params).In base → base.Ns mainGlobals mg → FnOk l.prog w (K w.params) mg base (CX w) k fa fd [x] (sp w))
    (hsp : ∀ (w : World) (H : Hp) (a : Addr) (ns : List Int), ns.length ≤ n → Only H → SqL (K w.params) H a (ns.map V.int) → sp w [.ref a] H (fun v _ => v = .bl true) fun _ _ _ => False)
    (hCX : ∀ (w : World) (H : Hp) (s : Shared) (e : Value) (s' : Shared), CX w [] H s (fun _ _ _ => False) e s' → False) :
    PySem.W.WalkO q loose XP YP l.row.toRowW d [] (fun f vs => PySem.call f vs) := by
  refine Att.attach_call hn hdf fun w s₀ s₁ mg mb fa o pm cd doc a vs ns G Y ho hd hcd hmg hobj hints hlen hg => ?_
  have KX := hY w _ Y
  obtain ⟨fd, hb, hF⟩ := F w mg fa _ KX G.T.g hmg
  exact law_call KX G.T.g G.T.b G.T.builtins G.T.nolimit hg hobj hints (Nat.le_trans hlen hn2) hr hF hb (fun H hO hS => hsp w H a ns hlen hO hS) fun H e s' => hCX w H s₁ e s'
end L2
namespace L2
open PySem PySem.Spec PyProof.Rows
def inClass (s : Stmt) (j : Nat) : Stmt := match s with
  | .ClassDef _ _ _ body _ _ _ _ _ _ _ => body.getD j (.Pass ⟨0, 0, 0, 0⟩)
  | _ => .Pass ⟨0, 0, 0, 0⟩
def defArgs (s : Stmt) : Arguments := match s with
  | .FunctionDef _ a _ _ _ _ _ _ _ _ => a
  | _ => { posonlyargs := [], args := [], vararg := none, kwonlyargs := [], kw_defaults := [], kwarg := none, defaults := [] }
def defBody (s : Stmt) : List Stmt := match s with
  | .FunctionDef _ _ b _ _ _ _ _ _ _ => b
  | _ => []
def defScope (s : Stmt) : Scope := match s with
  | .FunctionDef _ _ _ _ _ _ sc _ _ _ => sc
  | _ => { kind := .function, names := [], isGenerator := false, isCoroutine := false }
abbrev CX0 : CXT := fun _ _ _ _ _ _ => False
abbrev E0 : XK := fun _ _ _ => False
structure Fun (K : PySem.W.Frag) (x qual : Str) (st : Stmt) (f : Addr) (fd : FuncData) : Prop where
  ex : ∃ (oc : Value) (od : Option Addr) (kV doc pm : Value) (an : Option Addr) (cdv ct : Value) (osl : Array (Option Value)),
    fd = PySem.W.fnOf x qual (defArgs st) (defBody st) (defScope st) .none kV doc pm an cdv ct ∧ K.lookup f = some ⟨oc, od, .func fd, osl⟩ ∧ PySem.W.codeIn K cdv qual = true
  kp : PySem.W.keepIn K (.ref f) = true
section
variable {P : Program} {w : World} {K : PySem.W.Frag} {mg : Str → Option Value} {base : Heap}
theorem Fun.ok {x qual : Str} {st : Stmt} {f : Addr} {fd : FuncData} {N ps : List Str} {k : Nat} {sp : Sp} (F : Fun K x qual st f fd) (S : FnScope N ps (defScope st)) (len : ∀ vs H Q E, sp vs H Q E → vs.length = ps.length)
    (hbody : ∀ (cdv : Value) (A : Around) (outer : List Env) (s : Shared) (H : Hp) (vs : List V) (Q : VK) (E : XK), Room k (A.deeper (envOfC qual (defScope st) s.heap.objs.size f cdv)) → sp vs H Q E →
      ∃ t, PSs (cxOf CX0 P w K mg base N qual (defScope st) f cdv A outer s H E).nox (defBody st) t ∧ t { nx := fun _ H' => Q .non H', rt := Q } (start N vs) H) : FnOk P w K mg base CX0 (k + 1) f fd ps sp := by
  obtain ⟨oc, od, kV, doc, pm, an, cdv, ct, osl, rfl, lk, hcd⟩ := F.ex
  refine fn_of lk hcd S len fun A outer s H vs Q E hr hsp => ?_
  obtain ⟨t, h, q⟩ := hbody cdv A outer s H vs Q E hr hsp
  exact ⟨t, h.nox, q⟩
theorem Fun.binds {x qual : Str} {st : Stmt} {f : Addr} {fd : FuncData} {ps : List Str} (F : Fun K x qual st f fd)
    (h : ∀ (kV doc pm : Value) (an : Option Addr) (cdv ct : Value) (us : List Value), us.length = ps.length → bindArgs (PySem.W.fnOf x qual (defArgs st) (defBody st) (defScope st) .none kV doc pm an cdv ct) ⟨us, []⟩ = pure (ps.zip us)) : Binds K fd ps [] := by
  obtain ⟨oc, od, kV, doc, pm, an, cdv, ct, osl, rfl, lk, hcd⟩ := F.ex
  exact .all (h kV doc pm an cdv ct)
theorem fun_mk {x qual : Str} {st : Stmt} {f : Addr} {oc : Value} {od an : Option Addr} {osl : Array (Option Value)} {kV doc pm cdv ct : Value} (l : K.lookup f = some ⟨oc, od, .func (PySem.W.fnOf x qual (defArgs st) (defBody st) (defScope st) .none kV doc pm an cdv ct), osl⟩)
    (c : PySem.W.codeIn K cdv qual = true) (k : PySem.W.keepIn K (.ref f) = true) : Fun K x qual st f (PySem.W.fnOf x qual (defArgs st) (defBody st) (defScope st) .none kV doc pm an cdv ct) := ⟨⟨oc, od, kV, doc, pm, an, cdv, ct, osl, rfl, l, c⟩, k⟩
end
theorem small1000 {n : Nat} (h : n ≤ 1000) : n < sizeLine := Nat.lt_of_le_of_lt h (by decide)
section
variable {X : Cx}
theorem pv (i : Nat) {x : Str} {pos : Pos} (hN : X.N[i]? = some x := by rfl) (hv : Vis X.env.scope x := by first | exact Or.inl rfl | exact Or.inr (Or.inl rfl) | exact Or.inr (Or.inr rfl)) (hd : (x == ("__debug__" : Str)) = false := by decide)
    (hcd : (x == ("__classdict__" : Str)) = false := by decide) : PE X (.Name x pos) (tVar i) := pe_var hN hv hd hcd
end
def Same (H H' : Hp) : Prop := ∀ b o, H b = some o → H' b = some o
theorem Same.refl (H : Hp) : Same H H := fun _ _ h => h
theorem Same.trans {H H1 H2 : Hp} (a : Same H H1) (b : Same H1 H2) : Same H H2 := fun c o h => b c o (a c o h)
theorem Same.free {H H' : Hp} (e : Same H H') {l : Addr} (h : H' l = Option.none) : H l = Option.none := by
  cases q : H l with
  | none => rfl
  | some o =>
    rw [e l o q] at h
    cases h
theorem Same.seq {K : PySem.W.Frag} {H H' : Hp} {a : Addr} {xs : List V} (e : Same H H') (h : SqL K H a xs) : SqL K H' a xs := by
  rcases h with (h | ⟨o, h⟩) | h
  · exact .inl (.inl (e _ _ h))
  · exact .inl (.inr ⟨o, e _ _ h⟩)
  · exact .inr h
end L2
set_option Elab.async false
set_option linter.all false
set_option maxRecDepth 100000
namespace Bw
open PySem PySem.Spec PyProof.Rows L2
section
variable {X : Cx}
def CDivL (i j : Int) : Prop := 0 < j ∧ j < 2 ^ 62
theorem op_fdivL : OpR X (binaryOp .FloorDiv) (rI CDivL fun i j => .int (i / j)) := opI fun i j _ _ _ _ _ hc q => by
  have h1 : (0 : Int) < j := hc.1
  have h2 : j < 2 ^ 62 := hc.2
  refine floordiv_int (by omega) (by rw [Int.fdiv_eq_ediv_of_nonneg i (by omega)]; exact q) (.inl (PyProof.noPylong_of_log2 ?_))
  have h0 : j.natAbs ≠ 0 := by omega
  have : j.natAbs.log2 < 62 := (Nat.log2_lt h0).mpr (by omega)
  omega
def okV (H : Hp) : V → Prop
  | .non => True
  | .bl _ => True
  | .int _ => True
  | .str _ => True
  | .ref a => (∃ xs, H a = some (.lst xs)) ∨ ∃ xs, H a = some (.tup xs)
  | _ => False
def isIntV : V → Bool
  | .int _ => true
  | .bl _ => true
  | _ => false
def isBoolV : V → Bool
  | .bl _ => true
  | _ => false
def isTupV (H : Hp) : V → Bool
  | .ref a => match H a with
    | some (.tup _) => true
    | _ => false
  | _ => false
theorem okV.ty {K : PySem.W.Frag} {H : Hp} {x : V} (h : okV H x) : ∃ T, TyOf K H x (.type T) ∧ PySem.W.kitOne K (.type T) (.type "int") = some (isIntV x) ∧ PySem.W.kitOne K (.type T) (.type "bool") = some (isBoolV x) ∧ PySem.W.kitOne K (.type T) (.type "tuple") = some (isTupV H x) := by
  cases x with
  | non => exact ⟨_, .non, by kernel_rfl, by kernel_rfl, by kernel_rfl⟩
  | bl b => exact ⟨_, .bl b, by kernel_rfl, by kernel_rfl, by kernel_rfl⟩
  | int i => exact ⟨_, .int i, by kernel_rfl, by kernel_rfl, by kernel_rfl⟩
  | str i => exact ⟨_, .str i, by kernel_rfl, by kernel_rfl, by kernel_rfl⟩
  | ref a =>
    rcases h with ⟨xs, e⟩ | ⟨xs, e⟩
    · have q : isTupV H (.ref a) = false := by simp [isTupV, e]
      rw [q]
      exact ⟨_, .lst e, by kernel_rfl, by kernel_rfl, by kernel_rfl⟩
    · have q : isTupV H (.ref a) = true := by simp [isTupV, e]
      rw [q]
      exact ⟨_, .tup e, by kernel_rfl, by kernel_rfl, by kernel_rfl⟩
  | _ => exact h.elim
theorem isi_gen {pins : List (Addr × Obj)} {σ : L2.St} {H : Hp} {s : Shared} {x : V} {c T : String} {b : Bool} {us : List Value} {Q : VK} (I : Inv X pins σ H s) (r : Vals [x, .ty c] us) (ty : TyOf X.K H x (.type T)) (e : PySem.W.kitOne X.K (.type T) (.type c) = some b) (q : Q (.bl b) H) :
    wpAny (model X.prog X.w) X.A (call (.builtin "isinstance") us) (EP X pins σ Q) X.xe s := by
  obtain ⟨u, w', rfl, rx, rc⟩ := vals2 r
  cases (show w' = Value.type c from rc)
  exact isinst_ok I rx ty e fun tk => ⟨.bl b, H, I.tok _, rfl, q⟩
end
structure Cal (P : Program) (w : World) (K : PySem.W.Frag) (mg : Str → Option Value) (base : Heap) (x : Str) (ps : List Str) (k : Nat) (sp : Sp) : Prop where
  ex : ∃ f fd, FnOk P w K mg base CX0 k f fd ps sp ∧ Binds K fd ps [] ∧ PySem.W.keepIn K (.ref f) = true ∧ mg x = some (.ref f)
theorem same_new {H : Hp} {p : Addr} (h : H p = none) (o : HO) : Same H (upd H p o) := fun b u q => by rw [upd_ne (ne_of_none q h)]; exact q
def But (w : Addr) (H H' : Hp) : Prop := ∀ b o, b ≠ w → H b = some o → H' b = some o
theorem But.refl (w : Addr) (H : Hp) : But w H H := fun _ _ _ h => h
theorem But.trans {w : Addr} {H H1 H2 : Hp} (a : But w H H1) (b : But w H1 H2) : But w H H2 := fun c o n h => b c o n (a c o n h)
theorem But.upd {w : Addr} {H : Hp} (o : HO) : But w H (upd H w o) := fun b u n h => by rw [upd_ne n]; exact h
theorem Same.but {w : Addr} {H H' : Hp} (h : Same H H') : But w H H' := fun b o _ e => h b o e
def Well (H : Hp) (w : Addr) : Prop := ∃ a b c d : Int, H w = some (.lst [.int a, .int b, .int c, .int d])
theorem Well.same {H H' : Hp} {w : Addr} (W : Well H w) (s : Same H H') : Well H' w := by
  obtain ⟨a, b, c, d, h⟩ := W
  exact ⟨a, b, c, d, s _ _ h⟩
theorem Well.ne {H : Hp} {w p : Addr} (W : Well H w) (h : H p = none) : p ≠ w := by
  obtain ⟨a, b, c, d, e⟩ := W
  exact (ne_of_none e h).symm
theorem Well.neL {H : Hp} {w p : Addr} {xs : List V} (W : Well H w) (h : H p = some (.tup xs)) : p ≠ w := by
  obtain ⟨a, b, c, d, e⟩ := W
  exact (ne_of e h (by intro z; cases z)).symm
theorem int_at {ns : List Int} {i : Nat} {x : V} (h : (ns.map V.int)[i]? = some x) : ∃ c, x = .int c := by
  rw [List.getElem?_map] at h
  cases e : ns[i]? with
  | none => rw [e] at h; cases h
  | some c => rw [e] at h; exact ⟨c, (Option.some.inj h).symm⟩
theorem sz8 {n : Nat} (h : n ≤ 1000) : n ≤ sizeLine := Nat.le_of_lt (small1000 h)
section
variable {K : PySem.W.Frag} {ta tb tc te : TE} {tA tB' : TT} {t u : TS} {tr : TA} {D : Ends} {σ : L2.St} {H : Hp} {Q : VK} {QB : Bool → Hp → Prop} {QA : List V → Hp → Prop} {v x y z : V} {i j : Nat} {g : TG} {QS : L2.St → Hp → Prop}
theorem w_seq : tSeq t u D σ H = t { D with nx := u D } σ H := rfl
theorem w_next : tNext D σ H = D.nx σ H := rfl
theorem w_ifS : tIfS tA t u D σ H = tA σ H (fun b H1 => if b = true then t D σ H1 else u D σ H1) := rfl
theorem w_ret : tRet te D σ H = te σ H D.rt := rfl
theorem w_retN : tRetN D σ H = D.rt .non H := rfl
theorem w_drop : tDrop te D σ H = te σ H (fun _ H1 => D.nx σ H1) := rfl
theorem w_asg : tAsg te g D σ H = te σ H (fun x H1 => g x σ H1 D.nx) := rfl
theorem w_gName : gName i v σ H QS = QS (σ.set i (some v)) H := rfl
theorem w_gSub {ts : TSet} : gSub ta tb ts v σ H QS = ta σ H (fun o H1 => tb σ H1 (fun i H2 => ts o i v H2 (fun H3 => QS σ H3))) := rfl
theorem w_var : tVar i σ H Q = ∃ v, σ[i]? = some (some v) ∧ Q v H := rfl
theorem w_c : tC v σ H Q = Q v H := rfl
theorem w_op {r : R2} : tOp r ta tb σ H Q = ta σ H (fun x H1 => tb σ H1 (fun y H2 => r x y H2 Q)) := rfl
theorem w_un {r : V → Hp → VK → Prop} : tUn r ta σ H Q = ta σ H (fun x H1 => r x H1 Q) := rfl
theorem w_rU {f : Int → V} : rU f x H Q = ∃ i, x = .int i ∧ Q (f i) H := rfl
theorem w_rI0 {f : Int → Int → V} : rI0 f x y H Q = ∃ i j, x = .int i ∧ y = .int j ∧ Q (f i j) H := rfl
theorem w_rI {C : Int → Int → Prop} {f : Int → Int → V} : rI C f x y H Q = ∃ i j, x = .int i ∧ y = .int j ∧ C i j ∧ Q (f i j) H := rfl
theorem w_test : tTest te σ H QB = te σ H (fun x H' => ∃ k, x = .bl k ∧ QB k H') := rfl
theorem w_b : L2.tB te σ H QB = te σ H (fun x H1 => ∃ c, x = .bl c ∧ QB c H1) := rfl
theorem w_and : tAnd tA tB' σ H QB = tA σ H (fun c H1 => if c = true then tB' σ H1 QB else QB false H1) := rfl
theorem w_or : tOr tA tB' σ H QB = tA σ H (fun c H1 => if c = true then QB true H1 else tB' σ H1 QB) := rfl
theorem w_not : tNot tA σ H QB = tA σ H (fun c H1 => QB (!c) H1) := rfl
theorem w_andV : tAndV ta tb σ H Q = ta σ H (fun x H1 => ∃ c, x = .bl c ∧ if c = true then tb σ H1 Q else Q (.bl false) H1) := rfl
theorem w_orV : tOrV ta tb σ H Q = ta σ H (fun x H1 => ∃ c, x = .bl c ∧ if c = true then Q (.bl true) H1 else tb σ H1 Q) := rfl
theorem w_notV : tNotV ta σ H Q = ta σ H (fun x H1 => ∃ c, x = .bl c ∧ Q (.bl (!c)) H1) := rfl
theorem w_if : tIf tA ta tb σ H Q = tA σ H (fun c H1 => if c = true then ta σ H1 Q else tb σ H1 Q) := rfl
theorem w_cons : tCons ta tr σ H QA = ta σ H (fun x H1 => tr σ H1 (fun xs H2 => QA (x :: xs) H2)) := rfl
theorem w_nil : tNil σ H QA = QA [] H := rfl
theorem w_tup : tTup tr σ H Q = tr σ H (fun xs H1 => xs.length ≤ sizeLine ∧ ∀ p, H1 p = none → Q (.ref p) (L2.upd H1 p (.tup xs))) := rfl
theorem w_lst : tLst tr σ H Q = tr σ H (fun xs H1 => xs.length ≤ sizeLine ∧ ∀ p, H1 p = none → Q (.ref p) (L2.upd H1 p (.lst xs))) := rfl
theorem w_call {sp : Sp} {dvs : List V} {E : XK} : tCall sp dvs E tr σ H Q = tr σ H (fun vs H1 => sp (vs ++ dvs) H1 Q E) := rfl
theorem w_cB {r : List V → Hp → VK → Prop} : tCB r tr σ H Q = tr σ H (fun vs H1 => r vs H1 Q) := rfl
theorem w_eq : rEq x y H Q = (scal x y = true ∧ Q (.bl (decide (x = y))) H) := rfl
theorem w_ne : rNe x y H Q = (scal x y = true ∧ Q (.bl (!decide (x = y))) H) := rfl
theorem w_s1 {a b : Int} : scal (.int a) (.int b) = true := rfl
theorem w_s2 {a b : Bool} : scal (.bl a) (.bl b) = true := rfl
theorem w_s3 {a b : Str} : scal (.str a) (.str b) = true := rfl
theorem w_s4 {a : Int} : scal (.int a) .non = true := rfl
theorem w_s5 {a : Bool} : scal (.bl a) .non = true := rfl
theorem w_isN : tIsN ta σ H Q = ta σ H (fun x H1 => Q (.bl (decide (x = .non))) H1) := rfl
theorem w_notN : tNotN ta σ H Q = ta σ H (fun x H1 => Q (.bl (!decide (x = .non))) H1) := rfl
theorem w_chain {r r' : R2} : tChain r r' ta tb tc σ H Q = ta σ H (fun x H1 => tb σ H1 (fun y H2 => r x y H2 (fun z H3 => ∃ k, z = .bl k ∧ (if k = true then tc σ H3 (fun w' H4 => r' y w' H4 Q) else Q (.bl false) H3)))) := rfl
theorem w_sl {r : V → Option Int → Option Int → Hp → VK → Prop} {tl th : TO} : tSl r te tl th σ H Q = te σ H (fun x H1 => tl σ H1 (fun l H2 => th σ H2 (fun u H3 => r x l u H3 Q))) := rfl
theorem w_part {QO : Option Int → Hp → Prop} : tPart te σ H QO = te σ H (fun x H1 => ∃ i, x = .int i ∧ QO (some i) H1) := rfl
theorem w_noPart {QO : Option Int → Hp → Prop} : tNoPart σ H QO = QO none H := rfl
theorem w_K {CX : CXT} {P : Program} {w : World} {mg : Str → Option Value} {base : Heap} {N : List Str} {qual : Str} {sc : Scope} {f : Addr} {cd : Value} {A : Around} {outer : List Env} {s : Shared} {H : Hp} {E : XK} : (cxOf CX P w K mg base N qual sc f cd A outer s H E).K = K := rfl
def ForL (K : PySem.W.Frag) (a : Addr) (g : TG) (tb : TS) (D : Ends) (σ : L2.St) (H : Hp) : Prop := ∃ W : Nat → Nat → L2.St → Hp → Prop, (∃ m, W 0 m σ H) ∧ ∀ i m σ H, W i m σ H →
  ((Itl K a).stop i H ∧ D.nx σ H) ∨ ((Itl K a).go i H ∧ ∃ N : L2.St → Hp → Prop, (∀ σ' H', N σ' H' → ∃ m', m' < m ∧ W (i + 1) m' σ' H') ∧ ∀ x H', (Itl K a).yld i H x H' → g x σ H' fun σ2 H2 => tb { D with nx := N, ct := N, bk := D.nx } σ2 H2)
def ForR (lo : Int) (n : Nat) (g : TG) (tb : TS) (D : Ends) (σ : L2.St) (H : Hp) : Prop := ∃ W : Nat → Nat → L2.St → Hp → Prop, (∃ m, W 0 m σ H) ∧ ∀ i m σ H, W i m σ H →
  ((Itr lo n).stop i H ∧ D.nx σ H) ∨ ((Itr lo n).go i H ∧ ∃ N : L2.St → Hp → Prop, (∀ σ' H', N σ' H' → ∃ m', m' < m ∧ W (i + 1) m' σ' H') ∧ ∀ x H', (Itr lo n).yld i H x H' → g x σ H' fun σ2 H2 => tb { D with nx := N, ct := N, bk := D.nx } σ2 H2)
theorem w_forL : tFor (iList K ta) g t D σ H = ta σ H (fun x H1 => ∃ a, x = .ref a ∧ (∃ xs, SqL K H1 a xs) ∧ ForL K a g t D σ H1) := rfl
theorem w_for1 : tFor (iRng1 tr) g t D σ H = tr σ H (fun vs H1 => ∃ j : Int, vs = [.int j] ∧ -(2 ^ 62) ≤ j ∧ j < 2 ^ 62 ∧ ForR 0 j.toNat g t D σ H1) := rfl
theorem w_for2 : tFor (iRng2 tr) g t D σ H = tr σ H (fun vs H1 => ∃ i j : Int, vs = [.int i, .int j] ∧ (-(2 ^ 62) ≤ i ∧ i < 2 ^ 62 ∧ -(2 ^ 62) ≤ j ∧ j < 2 ^ 62) ∧ ForR i (j - i).toNat g t D σ H1) := rfl
theorem ForL.by {a : Addr} {xs : List V} (Pv : Nat → L2.St → Hp → Prop) (h0 : Pv 0 σ H) (hl : ∀ i σ H, i ≤ xs.length → Pv i σ H → SqL K H a xs)
    (hs : ∀ i x σ H, xs[i]? = some x → Pv i σ H → g x σ H fun σ2 H2 => t { D with nx := Pv (i + 1), ct := Pv (i + 1), bk := D.nx } σ2 H2) (hd : ∀ σ H, Pv xs.length σ H → D.nx σ H) : ForL K a g t D σ H := for_list Pv h0 hl hs hd
theorem ForR.by {lo : Int} {n : Nat} (Pv : Nat → L2.St → Hp → Prop) (h0 : Pv 0 σ H)
    (hs : ∀ i σ H, i < n → Pv i σ H → g (.int (lo + i)) σ H fun σ2 H2 => t { D with nx := Pv (i + 1), ct := Pv (i + 1), bk := D.nx } σ2 H2) (hd : ∀ σ H, Pv n σ H → D.nx σ H) : ForR lo n g t D σ H := for_range Pv h0 hs hd
theorem ixl {p : Addr} {xs : List V} {k : Int} (hS : SqL K H p xs) (hv : atI xs k = some v) (q : Q v H) : rIxL K (.ref p) (.int k) H Q := ⟨p, xs, k, v, rfl, rfl, hS, hv, q⟩
theorem ixt {p : Addr} {xs : List V} {k : Int} (hS : SqT K H p xs) (hv : atI xs k = some v) (q : Q v H) : rIxT K (.ref p) (.int k) H Q := ⟨p, xs, k, v, rfl, rfl, hS, hv, q⟩
theorem setl {p : Addr} {xs : List V} {k : Int} {QH : Hp → Prop} (h : H p = some (.lst xs)) (hj : ixN xs.length k = some j) (q : QH (L2.upd H p (.lst (xs.set j v)))) : rSetL (.ref p) (.int k) v H QH := ⟨p, xs, k, j, rfl, rfl, h, hj, q⟩
end
end Bw
set_option Elab.async false
set_option linter.all false
set_option maxRecDepth 100000
namespace Bw
open PySem PySem.Spec PyProof.Rows L2
def rIsNotB : R2 := fun x y H Q => ∃ c d : Bool, x = .bl c ∧ y = .bl d ∧ Q (.bl (c != d)) H
theorem w_isnotB {x y : V} {H : Hp} {Q : VK} : rIsNotB x y H Q = ∃ c d : Bool, x = .bl c ∧ y = .bl d ∧ Q (.bl (c != d)) H := rfl
def Itr3 (lo c : Int) (n : Nat) : It := ⟨fun i _ => i < n, fun i H x H' => H' = H ∧ x = .int (lo + i * c), fun i _ => n ≤ i⟩
def rngN (i j c : Int) : Nat := if i < j then ((j - i - 1) / c + 1).toNat else 0
def iRng3 (ta : TA) : TI := fun σ H R => ta σ H fun vs H1 => ∃ i j c : Int, vs = [.int i, .int j, .int c] ∧ (-(2 ^ 60) ≤ i ∧ i < 2 ^ 60 ∧ -(2 ^ 60) ≤ j ∧ j < 2 ^ 60 ∧ 0 < c ∧ c < 2 ^ 30) ∧ R (Itr3 i c (rngN i j c)) H1
def ForR3 (lo c : Int) (n : Nat) (g : TG) (tb : TS) (D : Ends) (σ : L2.St) (H : Hp) : Prop := ∃ W : Nat → Nat → L2.St → Hp → Prop, (∃ m, W 0 m σ H) ∧ ∀ i m σ H, W i m σ H →
  ((Itr3 lo c n).stop i H ∧ D.nx σ H) ∨ ((Itr3 lo c n).go i H ∧ ∃ N : L2.St → Hp → Prop, (∀ σ' H', N σ' H' → ∃ m', m' < m ∧ W (i + 1) m' σ' H') ∧ ∀ x H', (Itr3 lo c n).yld i H x H' → g x σ H' fun σ2 H2 => tb { D with nx := N, ct := N, bk := D.nx } σ2 H2)
theorem w_for3 {tr : TA} {g : TG} {t : TS} {D : Ends} {σ : L2.St} {H : Hp} : tFor (iRng3 tr) g t D σ H = tr σ H (fun vs H1 => ∃ i j c : Int, vs = [.int i, .int j, .int c] ∧ (-(2 ^ 60) ≤ i ∧ i < 2 ^ 60 ∧ -(2 ^ 60) ≤ j ∧ j < 2 ^ 60 ∧ 0 < c ∧ c < 2 ^ 30) ∧ ForR3 i c (rngN i j c) g t D σ H1) := rfl
theorem ForR3.by {lo c : Int} {n : Nat} {g : TG} {t : TS} {D : Ends} {σ : L2.St} {H : Hp} (Pv : Nat → L2.St → Hp → Prop) (h0 : Pv 0 σ H)
    (hs : ∀ i σ H, i < n → Pv i σ H → g (.int (lo + i * c)) σ H fun σ2 H2 => t { D with nx := Pv (i + 1), ct := Pv (i + 1), bk := D.nx } σ2 H2) (hd : ∀ σ H, Pv n σ H → D.nx σ H) : ForR3 lo c n g t D σ H := by
  refine ⟨fun i m σ H => m = n - i ∧ i ≤ n ∧ Pv i σ H, ⟨n, by simp, Nat.zero_le _, h0⟩, ?_⟩
  rintro i m σ H ⟨rfl, hi, p⟩
  by_cases hlt : i < n
  · refine .inr ⟨hlt, Pv (i + 1), fun σ' H' p' => ⟨n - (i + 1), by omega, rfl, hlt, p'⟩, fun x H' y => ?_⟩
    obtain ⟨e, y⟩ := y
    subst e y
    exact hs i σ _ hlt p
  · have e : i = n := by omega
    subst e
    exact .inl ⟨Nat.le_refl _, hd σ H p⟩
structure QOk (H : Hp) (p : Addr) (s e : Int) : Prop where
  at_ : H p = some (.tup [.int s, .int e])
  s0 : 0 ≤ s
  s1 : s ≤ 1439
  e0 : 0 ≤ e
  e1 : e ≤ 1439
  ne : s ≠ e
theorem QOk.same {H H' : Hp} {p : Addr} {s e : Int} (q : QOk H p s e) (h : Same H H') : QOk H' p s e := ⟨h _ _ q.at_, q.s0, q.s1, q.e0, q.e1, q.ne⟩
theorem QOk.but {H H' : Hp} {w p : Addr} {s e : Int} (q : QOk H p s e) (W : Well H w) (h : But w H H') : QOk H' p s e := ⟨h _ _ (W.neL q.at_) q.at_, q.s0, q.s1, q.e0, q.e1, q.ne⟩
end Bw
set_option Elab.async false
set_option linter.all false
set_option maxRecDepth 100000
namespace Bw
open PySem PySem.Spec PyProof.Rows L2
abbrev vbm : List Value := [.type "ValueError", .type "Exception", .type "BaseException", .type "object"]
theorem obj_at {P : Program} {w : World} {H : Hp} {h : Heap} {a : Addr} {o : HO} (x : ObjOk P w H h a o) : ∃ ob, h.get? a = some ob := by
  cases o with
  | lst xs => exact ⟨_, x.2.choose_spec.choose_spec.2⟩
  | tup xs => exact let ⟨_, _, _, ob, e, _⟩ := x; ⟨ob, e⟩
  | dK kvs => exact let ⟨_, _, _, _, ob, _, _, e, _⟩ := x; ⟨ob, e⟩
  | dT kvs => exact let ⟨_, _, _, _, ob, _, _, e, _⟩ := x; ⟨ob, e⟩
  | set S n => exact let ⟨ob, _, _, _, e, _⟩ := x; ⟨ob, e⟩
  | ins C dx fs => exact let ⟨_, _, _, e, _⟩ := x; ⟨_, e⟩
  | own y => exact x
  | xd fs => exact let ⟨_, ⟨ob, _, _, e, _⟩, _⟩ := x; ⟨ob, e⟩
  | rng lo hi => exact let ⟨_, _, _, e⟩ := x; ⟨_, e⟩
  | frz ob u => exact ⟨ob, x.1⟩
  | tbl ps => exact ⟨_, show h.get? a = some _ from x⟩
  | met f y => exact ⟨_, show h.get? a = some _ from x⟩
  | ext φ => exact x.2.1
def CXF (P : Program) (w : World) : CXT := fun outer H s E e s' =>
  ∃ (x : Addr) (cls a0 : Value) (H' : Hp) (B : Heap), e = .ref x ∧ s'.os = s.os ∧ AllBare s'.gens ∧ Un (frs outer) [] H H' s.heap s'.heap ∧ HOk P w H' s'.heap ∧ Heap.FlyingW B outer x cls a0 s'.heap ∧
    (∀ b u, H' b = some u → ∃ o, B.get? b = some o) ∧ (∀ b o, s.heap.get? b = some o → H b = none → b ∉ frs outer → B.get? b = some o) ∧ (∀ b o, s.heap.get? b = some o → b ∉ frs outer → ∃ o', B.get? b = some o') ∧ E cls none H'
theorem ride {P : Program} {w : World} {outer : List Env} {H H' : Hp} {h0 g h2 B : Heap} (un : Un (frs outer) [] H H' h0 g) (hok : HOk P w H' g) (sg : B.StaysIn g) (fr : g.FunFrames B outer)
    (cT : ∀ b u, H' b = some u → ∃ o, B.get? b = some o) (cO : ∀ b o, h0.get? b = some o → H b = none → b ∉ frs outer → B.get? b = some o) (cA : ∀ b o, h0.get? b = some o → b ∉ frs outer → ∃ o', B.get? b = some o')
    (sh : B.StaysIn h2) (up : g.UpToSlots h2) : Un (frs outer) [] H H' h0 h2 ∧ HOk P w H' h2 := by
  have nf : ∀ b ∈ frs outer, ∀ o, g.get? b = some o → ∀ vs, o.data ≠ .fields vs := fun b hb o ho vs hd => by
    obtain ⟨_, o', ho', hn⟩ := fr.mem hb
    rw [ho] at ho'
    cases ho'
    exact hn vs hd
  refine ⟨⟨fun b o q n hb _ => sh b o (cO b o q n hb), fun b o q n hb hx => ?_, un.free, fun b o q hx => ?_, un.tups, un.frzs, un.tbls⟩, fun b u e => ?_⟩
  · obtain ⟨sl, e1⟩ := un.slot b o q n hb hx
    obtain ⟨sl2, e2⟩ := up b _ e1 (nf b hb _ e1)
    exact ⟨sl2, e2⟩
  · by_cases hb : b ∈ frs outer
    · obtain ⟨o', e1⟩ := un.there b o q hx
      obtain ⟨sl2, e2⟩ := up b _ e1 (nf b hb _ e1)
      exact ⟨_, e2⟩
    · obtain ⟨o', e1⟩ := cA b o q hb
      exact ⟨o', sh _ _ e1⟩
  · refine (hok b u e).stay (fun c v hc r => ?_) (fun _ q => q) fun _ _ q => q
    have tr : ∃ u', H' c = some u' := by
      rcases hc with rfl | hc
      · exact ⟨_, e⟩
      · exact ⟨_, hc⟩
    obtain ⟨u', hu⟩ := tr
    obtain ⟨o', e1⟩ := cT c u' hu
    have e2 := sg _ _ e1
    rw [r] at e2
    cases e2
    exact sh _ _ e1
section
variable {X : Cx} {pins : List (Addr × Obj)} {σ : L2.St} {H H' : Hp} {s : Shared} {h2 B : Heap}
theorem out_of (I : Inv X pins σ H s) (hex : X.ex = []) (un : Un (frs X.stack) [] H H' s.heap h2)
    (cO : ∀ b o, s.heap.get? b = some o → H b = none → b ∉ frs X.stack → B.get? b = some o) (cA : ∀ b o, s.heap.get? b = some o → b ∉ frs X.stack → ∃ o', B.get? b = some o') :
    Un (frs X.outer) [] X.H₀ H' X.s₀.heap h2 ∧ (∀ b o, X.s₀.heap.get? b = some o → X.H₀ b = none → b ∉ frs X.outer → B.get? b = some o) ∧ ∀ b o, X.s₀.heap.get? b = some o → b ∉ frs X.outer → ∃ o', B.get? b = some o' := by
  have nx : ∀ b : Addr, b ∉ X.ex := fun b z => by rw [hex] at z; cases z
  have nl : ∀ b o, X.s₀.heap.get? b = some o → b ∉ frs X.outer → b ∉ frs X.stack := fun b o q hb z => by
    rcases List.mem_cons.mp (I.stkSub b z) with e | e
    · exact absurd (Nat.lt_of_lt_of_le (Heap.lt_size q) I.ok.above) (by rw [e]; exact Nat.lt_irrefl _)
    · exact hb e
  have ne : ∀ b : Addr, b ∉ ([] : List Addr) := fun b => by simp
  refine ⟨⟨fun b o q n hb _ => ?_, fun b o q n hb _ => ?_, fun b o q n _ => ?_, fun b o q _ => ?_, fun b xs q => un.tups b xs (I.base.tups b xs q), fun b o u q => un.frzs b o u (I.base.frzs b o u q), fun b ps q => ?_⟩, fun b o q n hb => ?_, fun b o q hb => ?_⟩
  · exact un.keep b o (I.base.keep b o q n hb (nx b)) (I.base.free b o q n (nx b)) (nl b o q hb) (ne b)
  · obtain ⟨sl, e1⟩ := I.base.slot b o q n hb (nx b)
    obtain ⟨sl2, e2⟩ := un.any e1 (I.base.free b o q n (nx b)) (ne b)
    exact ⟨sl2, e2⟩
  · obtain ⟨o', e1⟩ := I.base.there b o q (nx b)
    exact un.free b o' e1 (I.base.free b o q n (nx b)) (ne b)
  · obtain ⟨o', e1⟩ := I.base.there b o q (nx b)
    exact un.there b o' e1 (ne b)
  · obtain ⟨m1, e1⟩ := I.base.tbls b ps q
    obtain ⟨m2, e2⟩ := un.tbls b _ e1
    exact ⟨m1 ++ m2, by rw [e2, Array.append_assoc]⟩
  · exact cO b o (I.base.keep b o q n hb (nx b)) (I.base.free b o q n (nx b)) (nl b o q hb)
  · obtain ⟨o', e1⟩ := I.base.there b o q (nx b)
    exact cA b o' e1 (nl b o q hb)
theorem raised_out {h' : Heap} {e : Addr} {cls : Value} {args : List Value} {E : XK} {F : Value → Shared → Prop} (I : Inv X pins σ H s) (hst : X.stack = X.env :: X.outer) (hf : X.env.frame = some X.env.locals) (hex : X.ex = [])
    (hx : Heap.MadeExcOf s.heap h' e cls args) (hE : E cls none H) :
    wpAny (model X.prog X.w) X.A (leaving X.env (.ref e)) (fun _ s'' => CXF X.prog X.w X.outer X.H₀ X.s₀ E (.ref e) s'') F { s with heap := h' } := by
  have hin : ∀ env ∈ X.stack, ∀ a, env.frame = some a → a ∈ frs X.stack := fun env he a ha => List.mem_filterMap.mpr ⟨env, he, ha⟩
  have hl : s.heap.FunFrames (PySem.W.hideAll s.heap (frs X.stack)) X.stack := PySem.W.funFrames_hide I.stack hin
  have hkb : (PySem.W.hideAll s.heap (frs X.stack)).StaysIn s.heap := fun b o q => PySem.W.of_hideAll _ q
  refine wpAny_leaves_madeW (base := PySem.W.hideAll s.heap (frs X.stack)) (h := s.heap) (outer := X.outer) (L := X.env.locals) (by rw [← hst]; exact I.ok.frames) hf hkb (by rw [← hst]; exact hl) hx fun h2 t fl tup tn up => ?_
  have cT : ∀ b u, H b = some u → ∃ o, (PySem.W.hideAll s.heap (frs X.stack)).get? b = some o := fun b u q => by
    obtain ⟨o, ho⟩ := obj_at (I.hok b u q)
    exact ⟨o, PySem.W.hideAll_get _ ho fun z => by rw [I.stkFree b z] at q; cases q⟩
  have cO : ∀ b o, s.heap.get? b = some o → H b = none → b ∉ frs X.stack → (PySem.W.hideAll s.heap (frs X.stack)).get? b = some o := fun b o q _ hb => PySem.W.hideAll_get _ q hb
  have cA : ∀ b o, s.heap.get? b = some o → b ∉ frs X.stack → ∃ o', (PySem.W.hideAll s.heap (frs X.stack)).get? b = some o' := fun b o q hb => ⟨o, PySem.W.hideAll_get _ q hb⟩
  obtain ⟨un, hok⟩ := ride (P := X.prog) (w := X.w) (H := H) (H' := H) (h0 := s.heap) (g := s.heap) Un.refl I.hok hkb hl cT cO cA fl.1 ((Heap.UpToSlots.of_keeps hx.keeps).trans up)
  obtain ⟨un2, cO2, cA2⟩ := out_of I hex un cO cA
  exact ⟨e, cls, _, H, _, rfl, I.os, I.bare, un2, hok, fl, cT, cO2, cA2, hE⟩
theorem passed_out {s' : Shared} {e : Value} {E : XK} {F : Value → Shared → Prop} (I : Inv X pins σ H s) (hst : X.stack = X.env :: X.outer) (hf : X.env.frame = some X.env.locals) (hex : X.ex = [])
    (hx : CXF X.prog X.w X.stack H s E e s') :
    wpAny (model X.prog X.w) X.A (leaving X.env e) (fun _ s'' => CXF X.prog X.w X.outer X.H₀ X.s₀ E e s'') F s' := by
  obtain ⟨x, cls, a0, H', B, rfl, os, bare, un, hok, fl, cT, cO, cA, hE⟩ := hx
  have fl' := fl
  rw [hst] at fl'
  refine wpAny_leaves_onW (base := B) (outer := X.outer) (by rw [← hst]; exact I.ok.frames) hf fl' fun h2 fl2 up => ?_
  obtain ⟨un1, hok1⟩ := ride (P := X.prog) (w := X.w) un hok fl.1 fl.2.2.1 cT cO cA fl2.1 up
  obtain ⟨un2, cO2, cA2⟩ := out_of I hex un1 cO cA
  exact ⟨x, cls, a0, H', B, rfl, os.trans I.os, bare, un2, hok1, fl2, cT, cO2, cA2, hE⟩
end
abbrev cxX (P : Program) (w : World) (K : PySem.W.Frag) (mg : Str → Option Value) (base : Heap) (N : List Str) (qual : Str) (sc : Scope) (f : Addr) (cdv : Value) (A : Around) (outer : List Env) (s : Shared) (H : Hp) (E : XK) : Cx :=
  cxOf (CXF P w) P w K mg base N qual sc f cdv A outer s H E
section
variable {P : Program} {w : World} {K : PySem.W.Frag} {mg : Str → Option Value} {base : Heap} {N : List Str} {qual : Str} {sc : Scope} {f : Addr} {cdv : Value} {A : Around} {outer : List Env} {s : Shared} {H : Hp} {E : XK}
theorem passX : Passes (CXF P w) (cxX P w K mg base N qual sc f cdv A outer s H E) E := fun pins σ H1 s1 e s' I hx => passed_out I rfl rfl rfl hx
theorem raiseX {pins : List (Addr × Obj)} {σ : L2.St} {H1 : Hp} {s1 : Shared} {h' : Heap} {e : Addr} {cls : Value} {args : List Value} (I : Inv (cxX P w K mg base N qual sc f cdv A outer s H E) pins σ H1 s1)
    (hx : Heap.MadeExcOf s1.heap h' e cls args) (hE : E cls none H1) : (cxX P w K mg base N qual sc f cdv A outer s H E).xe (.ref e) { s1 with heap := h' } := raised_out I rfl rfl rfl hx hE
theorem pass00 {X : Cx} : Passes (CXF P w) X E0 := fun pins σ H1 s1 e s' I hx => by
  obtain ⟨_, _, _, _, _, _, _, _, _, _, _, _, _, _, hE⟩ := hx
  exact hE.elim
theorem FnOk.up {k : Nat} {fd : FuncData} {ps : List Str} {sp : Sp} {CX : CXT} (F : FnOk P w K mg base CX0 k f fd ps sp) : FnOk P w K mg base CX k f fd ps sp :=
  ⟨F.len, fun A outer s H args us vs Q E hr he hb hv hs => codeAny_mono (F.run A outer s H args us vs Q E hr he hb hv hs) fun r s' q => by
    cases r with
    | ok fl => cases fl <;> exact q
    | error e => exact (show False from q).elim⟩
theorem Fun.okX {x qual : Str} {st : Stmt} {fd : FuncData} {ps : List Str} {k : Nat} {sp : Sp} (F : Fun K x qual st f fd) (S : FnScope N ps (defScope st)) (len : ∀ vs H Q E, sp vs H Q E → vs.length = ps.length)
    (hbody : ∀ (cdv : Value) (A : Around) (outer : List Env) (s : Shared) (H : Hp) (vs : List V) (Q : VK) (E : XK), Room k (A.deeper (envOfC qual (defScope st) s.heap.objs.size f cdv)) → sp vs H Q E →
      ∃ t, PSs (cxX P w K mg base N qual (defScope st) f cdv A outer s H E) (defBody st) t ∧ t { nx := fun _ H' => Q .non H', rt := Q } (L2.start N vs) H) : FnOk P w K mg base (CXF P w) (k + 1) f fd ps sp := by
  obtain ⟨oc, od, kV, doc, pm, an, cdv, ct, osl, rfl, lk, hcd⟩ := F.ex
  exact fn_of lk hcd S len fun A outer s H vs Q E hr hsp => hbody cdv A outer s H vs Q E hr hsp
end
theorem own_obj {K : PySem.W.Frag} {h : Heap} {C : Addr} {bmB : List Value} {nw : String} (Z : K.In h) (q : PySem.W.excIn K C bmB nw = true) :
    ∃ bm N nm qn bs hd sn sub ab col dd k0 k1 k2 k3 k5 mN, h.get? C = some (excClassObj nm qn C N bs bm hd sn sub ab col dd k0 k1 k2 k3 k5 nw) ∧ h.Ns N mN ∧ mN "__init__" = none ∧ OwnTail h bmB bm := by
  unfold PySem.W.excIn at q
  split at q
  · rename_i dd cd sl lk
    split at q
    · rename_i C' bm k0 k1 k2 k3 n k5 hm hs
      simp only [Bool.and_eq_true, beq_iff_eq, Bool.not_eq_true'] at q
      obtain ⟨⟨⟨⟨⟨z1, z2⟩, z3⟩, z4⟩, z5⟩, z6⟩ := q
      subst z1 z2
      obtain ⟨nm, bs, mro, ns, qn, hd, sn, sub, ab, col, del⟩ := cd
      dsimp only at hm z3 z5 z6
      subst hm z3
      obtain ⟨l⟩ := sl
      dsimp only at hs
      subst hs
      exact ⟨bm, ns, nm, qn, bs, hd, sn, sub, ab, col, dd, k0, k1, k2, k3, k5, h.nsMap ns, Z _ _ lk, .of_isNs (PySem.W.isNs_of_in Z z5), PySem.W.nsMap_none_of_in Z z5 z6, PySem.W.tail_of_in Z z4⟩
    · exact absurd q Bool.false_ne_true
  · exact absurd q Bool.false_ne_true
def tRaise (R : Hp → Prop) : TS := fun _ _ H => R H
theorem ps_raise {X : Cx} {x : Str} {C : Addr} {m : Str} {j : Nat} {np ap cpos pos : Pos} {R : Hp → Prop} (hc : X.calm = true) (hg : Gl X x) (hm : X.mg x = some (.ref C)) (q : PySem.W.excIn X.K C vbm "ValueError.__new__" = true)
    (hxe : ∀ pins σ H s h' e args, Inv X pins σ H s → Heap.MadeExcOf s.heap h' e (.ref C) args → R H → X.xe (.ref e) { s with heap := h' }) (hd : (x == ("__debug__" : Str)) = false := by decide) :
    PS X (.Raise (some (.Call (.Name x np) [.Constant (.str m) j ap] [] cpos)) none pos) (tRaise R) := by
  intro pins s σ H D I h
  obtain ⟨bm, N, nm, qn, bs, hd', sn, sub, ab, col, dd, k0, k1, k2, k3, k5, mN, hC, hN, hni, T⟩ := own_obj I.kIn q
  refine wpAny_Raise_call_subT (C := C) (nm := nm) (q := qn) (N := N) (bs := bs) (bm := bm) (hdct := hd') (sn := sn) (sub := sub) (ab := ab) (col := col) (dd := dd) (k0 := k0) (k1 := k1) (k2 := k2) (k3 := k3) (k5 := k5) PySem.F.excBase_ValueError (mN := mN) (T.hasType PySem.F.excBase_ValueError.hasBase) (I.ok.hd hc) rfl hni (ld_glob I hg hm ⟨rfl, ?_⟩ hd)
  refine Calls.evalArgs_plain (Calls.spliced_cons (Calls.Constant_str (k := j) (pos := ap) (Calls.spliced_nil ?_)))
  exact ⟨rfl, sz8 (show 1 ≤ 1000 by decide), hC, hN, T, fun h' e hm => hxe pins σ H _ h' e _ (I.tok _) hm h⟩
section
variable {X : Cx} {pins : List (Addr × Obj)} {σ : L2.St} {H H' : Hp} {s : Shared}
abbrev cxE (X : Cx) (v : Value) : Cx := { X with A := X.A.mark (some v), calm := false }
theorem inv_mark (I : Inv X pins σ H s) (v : Value) : Inv (cxE X v) pins σ H s :=
  ⟨⟨I.ok.mod, I.ok.kind, I.ok.glob, I.ok.blt, I.ok.above, I.ok.inj, I.ok.has, I.ok.cab, (fun z => nomatch z), I.ok.frames, I.ok.stk, I.ok.exf, I.ok.bs, I.ok.bsz, I.ok.noex, I.ok.exfs, I.ok.funs, I.ok.frf⟩, I.os, I.bare, I.base, I.loc, I.cell, I.free, I.freeC, I.pin, I.hok, I.len⟩
theorem inv_unmark {v : Value} (ok : X.Ok) (I : Inv (cxE X v) pins σ H s) : Inv X pins σ H s :=
  ⟨ok, I.os, I.bare, I.base, I.loc, I.cell, I.free, I.freeC, I.pin, I.hok, I.len⟩
theorem goes {M : Model} {A : Around} {E : Value → Shared → Prop} {n : Str} {i : Nat} {pos : Pos} {Q : Unit → Shared → Prop} (I : Inv X pins σ H s) (hN : X.N.Nodup) (hi : X.N[i]? = some n) (hl : X.env.kindOf n = some .local)
    (h : ∀ s', Inv X pins (σ.set i none) H s' → Q () s') : wpAny M A (do bindName X.env n .none; unbindBehindTheSuite X.env n pos) Q E s := by
  obtain ⟨m, hn, hl'⟩ := id I.loc
  have hiσ : i < σ.length := by rw [I.len]; exact (List.getElem?_eq_some_iff.mp hi).1
  refine wpAny_nameGoes_keeps hl hn (by rw [I.ok.kind]; rfl) fun h' v hn' hs => h _ ?_
  have ltL : ∀ b o, X.s₀.heap.get? b = some o → b ≠ X.env.locals := fun b o e => Nat.ne_of_lt (Nat.lt_of_lt_of_le (Heap.lt_size e) I.ok.above)
  have hok : HOk X.prog X.w H h' := fun b ob e => by
    refine (I.hok b ob e).stay (fun c w' hc q => (hs.2 c ?_).trans q) (fun _ q => q) fun _ _ q => q
    intro z
    rcases hc with y | y
    · rw [← y, z, I.free] at e; cases e
    · rw [z, I.free] at y; cases y
  refine ⟨I.ok, I.os, I.bare, ⟨fun b o e k hb hx => ?_, fun b o e k hb hx => ?_, I.base.free, fun b o e hx => ?_, I.base.tups, I.base.frzs, I.base.tbls⟩, ⟨_, hn', fun j y v' e1 e2 e3 => ?_⟩, fun y c e => ?_, I.free, I.freeC, fun p hp => ?_, hok, ?_⟩
  · exact (hs.2 b (ltL b o e)).trans (I.base.keep b o e k hb hx)
  · obtain ⟨sl, q⟩ := I.base.slot b o e k hb hx
    exact ⟨sl, (hs.2 b (ltL b o e)).trans q⟩
  · obtain ⟨o', q⟩ := I.base.there b o e hx
    exact ⟨o', (hs.2 b (ltL b o e)).trans q⟩
  · by_cases hj : j = i
    · rw [hj, List.getElem?_set_self hiσ] at e2
      cases e2
    · rw [List.getElem?_set_ne (Ne.symm hj)] at e2
      obtain ⟨u, r, q⟩ := hl' j y v' e1 e2 e3
      refine ⟨u, r, ?_⟩
      rcases q with ⟨k, e⟩ | ⟨k, c, e, z⟩
      · have ny : y ≠ n := fun z => hj (nodup_ix hN e1 (z ▸ hi))
        exact .inl ⟨k, by show (if y = n then v else m y) = some u; rw [if_neg ny]; exact e⟩
      · exact .inr ⟨k, c, e, z.sameBut hs (I.cne y c e)⟩
  · obtain ⟨w', z⟩ := I.cell y c e
    exact ⟨w', z.sameBut hs (I.cne y c e)⟩
  · obtain ⟨e, k, ne, nf, d⟩ := I.pin p hp
    exact ⟨(hs.2 p.1 ne).trans e, k, ne, nf, d⟩
  · rw [List.length_set]; exact I.len
def excAt (x : Addr) (cls : Value) (h : Heap) : Prop := ∃ ob, h.get? x = some ob ∧ ob.cls = cls
def hoExc (x : Addr) (cls : Value) : HO := .ext (excAt x cls)
def tTry (K : PySem.W.Frag) (CB : Addr) (i : Nat) (sp : Sp) (t : TA) (ts : TS) : TS := fun D σ H => t σ H fun vs H1 => sp vs H1 (fun _ H2 => D.nx σ H2) fun cls _ H2 => PySem.W.exmOne K cls (.ref CB) = some true ∧
  ∀ x, H2 x = none → ts { nx := fun σ' H3 => D.nx (σ'.set i none) H3, rt := D.rt, bk := fun σ' H3 => D.bk (σ'.set i none) H3, ct := fun σ' H3 => D.ct (σ'.set i none) H3 } (σ.set i (some (.ref x))) (L2.upd H2 x (hoExc x cls))
end
end Bw
set_option Elab.async false
set_option linter.all false
set_option maxRecDepth 100000
set_option maxHeartbeats 400000
namespace Bw
open PySem PySem.Spec PyProof.Rows L2
section
variable {prog : Program} {w : World} {A : Around} {E : Value → Shared → Prop} {K : PySem.W.Frag} {h : Heap} {g : Array GenState} {d : Drawn} {t : Nat} {os : OsState} {x C : Addr}
structure ExcK (K : PySem.W.Frag) (C : Addr) : Prop where
  ga : PySem.W.findIn K (.ref C) "__getattribute__" = some (some (.builtin "BaseException.__getattribute__"))
  gt : PySem.W.findIn K (.ref C) "__getattr__" = some none
  cl : PySem.W.findIn K (.ref C) "__class__" = some (some (.builtin "object.__class__"))
  mB : PySem.W.mroIn K C (.type "BaseException") = some true
  mO : PySem.W.mroIn K C (.type "object") = some true
  cls : (PySem.W.clsIn K C).isSome = true
theorem exc_ty {cls : Value} (p : excAt x cls h) (M : Model) : PySem.W.Looks M h (typeOf (.ref x)) cls := by
  obtain ⟨ob, h1, h2⟩ := p
  exact h2 ▸ (PySem.W.Looks.ld h1).andThen .now
theorem exc_get {tp : Value} {R : Result → Shared → Prop} (Z : K.In h) (F : ExcK K C) (p : excAt x (.ref C) h) (hq : R (.ok (.ret (.ref C))) ⟨h, g, d, t, os⟩) :
    codeAny (model prog w) A (.call (.builtin "getset_descriptor.__get__") ⟨[.builtin "object.__class__", .ref x, tp], []⟩) R ⟨h, g, d, t, os⟩ := by
  have L0 := exc_ty p (model prog w)
  have L1 := PySem.W.looks_mroIn (M := model prog w) Z F.mO
  refine codeAny_call_builtin PySem.W.KF.slot_gs.plain PySem.W.KF.entry_gs (PySem.W.KF.slot_gs.check _ _ _ _ _ _ _ _ PySem.W.KF.type_class (PySem.W.KF.args_gs _ _ _) ?_)
  unfold Builtin.«getset_descriptor.__get__» Builtin.Getset_descriptor.descrGet
  rw [PySem.W.dga_obj]
  refine wpAny_bind (wpAny_pure ?_)
  unfold Builtin.Getset_descriptor.descrGetter Builtin.Getset_descriptor.descrCheckInstance Builtin.Getset_descriptor.descrNameAndClass isInstance
  simp only [PySem.W.KF.owner_class]
  repeat lk
  refine ⟨Code.quiet_builtin _ (by decide +kernel), codeAny_builtin PySem.W.KF.entry_class ?_⟩
  unfold Builtin.«object.__class__» shownTypeOf
  repeat lk
  exact hq
theorem exc_entry {tk : Tok} {Q : Fin → Shared → Prop} (Z : K.In h) (F : ExcK K C) (p : excAt x (.ref C) h) (hq : Q (.done (.ret (.ref C))) ⟨h, g, d, t, os⟩) :
    wpAny (model prog w) A (Builtin.«object.__getattribute__» ⟨[.ref x, .str "__class__" tk], []⟩) Q E ⟨h, g, d, t, os⟩ := by
  have L0 := exc_ty p (model prog w)
  have L1 := PySem.W.looks_findIn (M := model prog w) Z F.cl
  have hT5 : (⟨h, g, d, t, os⟩ : Shared).TypeIs (.builtin "object.__class__") "getset_descriptor" := PySem.F.typeOf_object_class
  have f5 := PySem.F.typeOf_object_class
  have f6 := PySem.F.slot_gs_get.lookup
  have f7 := PySem.F.slot_gs_set.lookup
  repeat (any_goals (first | assumption | (with_reducible refine PySem.W.Looks.at (by assumption) ?_) | wp_step))
  refine exc_get Z F p ?_
  repeat (any_goals (first | assumption | wp_step))
theorem exc_isB {M : Model} (Z : K.In h) (F : ExcK K C) (p : excAt x (.ref C) h) : PySem.W.Looks M h (isInstance (.ref x) (.type "BaseException")) true := (exc_ty p M).andThen (PySem.W.looks_mroIn Z F.mB)
theorem ga_kind : builtinKind "BaseException.__getattribute__" = some .slot := by decide +kernel
theorem ga_split : splitId "BaseException.__getattribute__" = some ("BaseException", "__getattribute__") := by decide +kernel
theorem exc_check {M : Model} {nameV : Value} {Q : Unit → Shared → Prop} (Z : K.In h) (F : ExcK K C) (p : excAt x (.ref C) h) (hq : Q () ⟨h, g, d, t, os⟩) :
    wpAny M A (checkBuiltinCall "BaseException.__getattribute__" ⟨[.ref x, nameV], []⟩) Q E ⟨h, g, d, t, os⟩ := by
  have ha := PySem.F.args_bexc_ga (.ref x) nameV
  simp only [checkBuiltinCall, ga_kind, ga_split]
  refine wpAny_bind ((exc_isB (M := M) Z F p).here (s := ⟨h, g, d, t, os⟩) ?_)
  repeat wp_step
  exact hq
theorem exc_call {tk : Tok} {R : Result → Shared → Prop} (Z : K.In h) (F : ExcK K C) (p : excAt x (.ref C) h) (hq : R (.ok (.ret (.ref C))) ⟨h, g, d, t, os⟩) :
    codeAny (model prog w) A (.call (.builtin "BaseException.__getattribute__") ⟨[.ref x, .str "__class__" tk], []⟩) R ⟨h, g, d, t, os⟩ :=
  codeAny_call_builtin PySem.F.excAttr_ValueError.ga.plain PySem.F.entry_bexc_ga (exc_check Z F p (exc_entry Z F p hq))
theorem exc_by {tk : Tok} {Q : Value → Shared → Prop} (Z : K.In h) (F : ExcK K C) (p : excAt x (.ref C) h) (hq : Q (.ref C) ⟨h, g, d, t, os⟩) :
    wpAny (model prog w) A (getAttrBy (.ref x) (.str "__class__" tk) false) Q E ⟨h, g, d, t, os⟩ := by
  have L0 := exc_ty p (model prog w)
  have L1 := PySem.W.looks_findIn (M := model prog w) Z F.ga
  have L2 := PySem.W.looks_findIn (M := model prog w) Z F.gt
  have f3 := PySem.F.excAttr_ValueError.ga.bind (.ref x)
  have hx2 : (Value.builtin "BaseException.__getattribute__" == Value.builtin "object.__getattribute__") = false := by decide +kernel
  have hx1 : (onTheHeap (Value.ref C) && Value.builtin "BaseException.__getattribute__" == Value.builtin "object.__getattribute__") = false := by rw [hx2]; rfl
  repeat (any_goals (first | assumption | (with_reducible refine PySem.W.Looks.at (by assumption) ?_) | wp_step))
  refine exc_call Z F p ?_
  repeat (any_goals (first | assumption | wp_step))
theorem exc_attr {Q : Option Value → Shared → Prop} (Z : K.In h) (F : ExcK K C) (p : excAt x (.ref C) h) (hq : Q (some (.ref C)) ⟨h, g, d, t + 1, os⟩) :
    wpAny (model prog w) A (getAttr? (.ref x) "__class__") Q E ⟨h, g, d, t, os⟩ := by
  unfold getAttr? getAttrBy?
  repeat (any_goals (first | assumption | with_reducible apply exc_by Z F p | wp_step))
theorem kitx_exc (F : ExcK K C) : PySem.W.KitX K (.ref x) (.ref C) (excAt x (.ref C)) where
  ty := fun M _ _ p => exc_ty p M
  it := fun M h' Z _ => by
    obtain ⟨cd, hcd⟩ := Option.isSome_iff_exists.mp F.cls
    unfold PySem.W.clsIn at hcd
    split at hcd
    · rename_i lk
      intro A' Q' E' s' k q
      unfold isType loadHead
      exact wpAny_bind (wpAny_loadPart (k _ _ (Z _ _ lk)) (wpAny_pure q))
    · cases hcd
  ne := fun h' tp dd its n sl Z htp => by
    obtain ⟨cd, hcd⟩ := Option.isSome_iff_exists.mp F.cls
    refine Bool.eq_false_iff.mpr fun q => ?_
    have e : C = tp := Value.ref.inj (beq_iff_eq.mp q)
    subst e
    unfold PySem.W.clsIn at hcd
    split at hcd
    · rename_i lk
      have z := (Z _ _ lk).symm.trans htp
      cases z
    · cases hcd
  ca := fun {prog w A E Q s} Z p k => by
    obtain ⟨h1, g1, d1, t1, os1⟩ := s
    exact exc_attr Z F p k
end
section
variable {X : Cx}
def rIsiE (K : PySem.W.Frag) (C : Addr) : List V → Hp → VK → Prop := fun xs H Q => ∃ (x : Addr) (c : V) (cv : Value) (b : Bool), xs = [.ref x, c] ∧ RelV c cv ∧ H x = some (hoExc x (.ref C)) ∧ PySem.W.kitOne K (.ref C) cv = some b ∧ Q (.bl b) H
theorem call_isiE {C : Addr} (F : ExcK X.K C) : CallR X (.builtin "isinstance") (rIsiE X.K C) := by
  intro pins s σ H xs us Q I r h
  obtain ⟨x, c, cv, b, rfl, rc, hx, e, q⟩ := h
  obtain ⟨u, w', rfl, rx, rc'⟩ := vals2 r
  cases (show u = Value.ref x from rx)
  have hw : w' = cv := by
    cases c with
    | ref a => exact (show w' = Value.ref a from rc').trans (show cv = Value.ref a from rc).symm
    | ty n => exact (show w' = Value.type n from rc').trans (show cv = Value.type n from rc).symm
    | non => exact (show w' = Value.none from rc').trans (show cv = Value.none from rc).symm
    | bl z => exact (show w' = Value.bool z from rc').trans (show cv = Value.bool z from rc).symm
    | int i =>
      obtain ⟨t, rfl⟩ := rc
      exact absurd e (by unfold PySem.W.kitOne PySem.W.kitCls; simp)
    | str i =>
      obtain ⟨t, rfl⟩ := rc
      exact absurd e (by unfold PySem.W.kitOne PySem.W.kitCls; simp)
    | byt i =>
      obtain ⟨t, rfl⟩ := rc
      exact absurd e (by unfold PySem.W.kitOne PySem.W.kitCls; simp)
    | flt i =>
      obtain ⟨t, rfl⟩ := rc
      exact absurd e (by unfold PySem.W.kitOne PySem.W.kitCls; simp)
  subst hw
  have hp : excAt x (.ref C) s.heap := (I.hok x _ hx).1
  exact PySem.W.kia_one (kitx_exc F) I.kIn hp e (fun z => nomatch z) fun tk => ⟨.bl b, H, I.tok _, rfl, q⟩
def rIsiT (K : PySem.W.Frag) (C : Addr) : List V → Hp → VK → Prop := fun xs H Q => ∃ (x tp : Addr) (cs : List Addr) (b : Bool), xs = [.ref x, .ref tp] ∧ H x = some (hoExc x (.ref C)) ∧ H tp = some (.tup (cs.map V.ref)) ∧ PySem.W.kitAny K (.ref C) (cs.map Value.ref) = some b ∧ Q (.bl b) H
theorem vals_refs : ∀ {cs : List Addr} {us : List Value}, Vals (cs.map V.ref) us → us = cs.map Value.ref
  | [], _, .nil => rfl
  | a :: cs, _, .cons r t => by
    cases (show _ = Value.ref a from r)
    rw [vals_refs t]
    rfl
theorem call_isiT {C : Addr} (F : ExcK X.K C) : CallR X (.builtin "isinstance") (rIsiT X.K C) := by
  intro pins s σ H xs us Q I r h
  obtain ⟨x, tp, cs, b, rfl, hx, ht, e, q⟩ := h
  obtain ⟨u, w', rfl, rx, rc'⟩ := vals2 r
  cases (show u = Value.ref x from rx)
  cases (show w' = Value.ref tp from rc')
  have hp : excAt x (.ref C) s.heap := (I.hok x _ hx).1
  obtain ⟨_, its, rv, o, ho, hc, n, hd⟩ := (show ObjOk X.prog X.w H s.heap tp (.tup (cs.map V.ref)) from I.hok tp _ ht)
  have hv := vals_refs rv
  subst hv
  obtain ⟨oc, dd, dt, sl⟩ := o
  dsimp only at hc hd
  subst hc hd
  exact PySem.W.kia_tup (kitx_exc F) I.kIn hp ho e (fun z => nomatch z) fun tk => ⟨.bl b, H, I.tok _, rfl, q⟩
end
structure CalX (P : Program) (w : World) (K : PySem.W.Frag) (mg : Str → Option Value) (base : Heap) (x : Str) (ps : List Str) (k : Nat) (sp : Sp) : Prop where
  ex : ∃ f fd, FnOk P w K mg base (CXF P w) k f fd ps sp ∧ Binds K fd ps [] ∧ PySem.W.keepIn K (.ref f) = true ∧ mg x = some (.ref f)
theorem pe_calN {X : Cx} {x : Str} {ps : List Str} {k : Nat} {sp : Sp} {e : Expr} {es : List Expr} {t : TA} {p pos : Pos} (C : CalX X.prog X.w X.K X.mg X.base x ps k sp) (hr : Room k X.A) (hg : Gl X x) (ha : PA X (e :: es) t)
    (hdb : (x == ("__debug__" : Str)) = false := by decide) (he : starEach (e :: es) X.env = (false, eval e X.env) :: starEach es X.env := by rfl) (hpl : (backTo pos (starEach es X.env)).any (·.1) = false := by rfl) :
    PE X (.Call (.Name x p) (e :: es) [] pos) (tCall sp [] E0 t) := by
  obtain ⟨f, fd, F, b, kp, m⟩ := C.ex
  exact pe_call F hr hg m kp b .nil pass00 ha hdb he hpl
theorem pe_calX {P : Program} {w : World} {K : PySem.W.Frag} {mg : Str → Option Value} {base : Heap} {N : List Str} {qual : Str} {sc : Scope} {f : Addr} {cdv : Value} {A : Around} {outer : List Env} {s : Shared} {H : Hp} {E : XK}
    {x : Str} {ps : List Str} {k : Nat} {sp : Sp} {e : Expr} {es : List Expr} {t : TA} {p pos : Pos} (C : CalX P w K mg base x ps k sp) (hr : Room k (cxX P w K mg base N qual sc f cdv A outer s H E).A) (hg : Gl (cxX P w K mg base N qual sc f cdv A outer s H E) x)
    (ha : PA (cxX P w K mg base N qual sc f cdv A outer s H E) (e :: es) t)
    (hdb : (x == ("__debug__" : Str)) = false := by decide) (he : starEach (e :: es) (cxX P w K mg base N qual sc f cdv A outer s H E).env = (false, eval e (cxX P w K mg base N qual sc f cdv A outer s H E).env) :: starEach es (cxX P w K mg base N qual sc f cdv A outer s H E).env := by rfl)
    (hpl : (backTo pos (starEach es (cxX P w K mg base N qual sc f cdv A outer s H E).env)).any (·.1) = false := by rfl) :
    PE (cxX P w K mg base N qual sc f cdv A outer s H E) (.Call (.Name x p) (e :: es) [] pos) (tCall sp [] E t) := by
  obtain ⟨f', fd, F, b, kp, m⟩ := C.ex
  exact pe_call F hr hg m kp b .nil passX ha hdb he hpl
theorem w_raise {R : Hp → Prop} {D : Ends} {σ : L2.St} {H : Hp} : tRaise R D σ H = R H := rfl
theorem w_try {K : PySem.W.Frag} {CB : Addr} {i : Nat} {sp : Sp} {t : TA} {ts : TS} {D : Ends} {σ : L2.St} {H : Hp} : tTry K CB i sp t ts D σ H = t σ H (fun vs H1 => sp vs H1 (fun _ H2 => D.nx σ H2) fun cls _ H2 => PySem.W.exmOne K cls (.ref CB) = some true ∧
  ∀ x, H2 x = none → ts { nx := fun σ' H3 => D.nx (σ'.set i none) H3, rt := D.rt, bk := fun σ' H3 => D.bk (σ'.set i none) H3, ct := fun σ' H3 => D.ct (σ'.set i none) H3 } (σ.set i (some (.ref x))) (L2.upd H2 x (hoExc x cls))) := rfl
theorem w_KX {K : PySem.W.Frag} {P : Program} {w : World} {mg : Str → Option Value} {base : Heap} {N : List Str} {qual : Str} {sc : Scope} {f : Addr} {cd : Value} {A : Around} {outer : List Env} {s : Shared} {H : Hp} {E : XK} : (cxX P w K mg base N qual sc f cd A outer s H E).K = K := rfl
theorem at_memV {xs : List V} {i : Int} (h0 : 0 ≤ i) (h : i < xs.length) : ∃ z ∈ xs, atI xs i = some z := by
  have hk : i.toNat < xs.length := by omega
  have ek : i = ((i.toNat : Nat) : Int) := by omega
  refine ⟨xs[i.toNat], List.getElem_mem hk, ?_⟩
  have q : atI xs ((i.toNat : Nat) : Int) = some xs[i.toNat] := atI_nat (List.getElem?_eq_getElem hk)
  rwa [← ek] at q
theorem boot_ValueError : bootBuiltins "ValueError" = some (.type "ValueError") := by decide +kernel
end Bw
set_option Elab.async false
set_option linter.all false
set_option maxRecDepth 100000
set_option maxHeartbeats 1000000
namespace Bw
open PySem PySem.Spec PyProof.Rows L2
section
variable {X : Cx}
def Flew (X : Cx) (pins : List (Addr × Obj)) (σ : L2.St) (E : XK) (e : Value) (s' : Shared) : Prop := ∃ H1 s1, Inv X pins σ H1 s1 ∧ CXF X.prog X.w X.stack H1 s1 E e s'
def PBE (X : Cx) (e : Expr) (t : XK → TE) : Prop :=
  ∀ (pins : List (Addr × Obj)) (s : Shared) (σ : L2.St) (H : Hp) (Q : VK) (E : XK), Inv X pins σ H s → t E σ H Q → wpAny (model X.prog X.w) X.A (eval e X.env) (EP X pins σ Q) (Flew X pins σ E) s
def PBS (X : Cx) (st : Stmt) (t : XK → TS) : Prop :=
  ∀ (pins : List (Addr × Obj)) (s : Shared) (σ : L2.St) (H : Hp) (D : Ends) (E : XK), Inv X pins σ H s → t E D σ H → wpAny (model X.prog X.w) X.A (exec st X.env) (SP X pins D) (Flew X pins σ E) s
def tBMake (C : Addr) (sp : Sp) (dvs : List V) (t : TA) : XK → TE := fun E σ H Q => t σ H fun vs H1 => ∀ x dx, H1 x = none → H1 dx = none → dx ≠ x →
  sp (.ref x :: (vs ++ dvs)) (upd (upd H1 dx (.own x)) x (.ins C dx [])) (fun v H2 => v = .non ∧ Q (.ref x) H2) E
theorem pbe_make {x : Str} {k : Nat} {f C : Addr} {fd : FuncData} {ps : List Str} {sp : Sp} {ds : List Value} {dvs : List V} {e : Expr} {es : List Expr} {t : TA} {p pos : Pos} (hnx : ∀ v s, ¬ X.xe v s) (M : Mk X.K C f)
    (F : FnOk X.prog X.w X.K X.mg X.base (CXF X.prog X.w) k f fd ps sp) (hr : Room (k + 1) X.A) (hg : Gl X x) (hm : X.mg x = some (.ref C)) (hb : Binds X.K fd ps ds) (hd : Vals dvs ds) (ha : PA X (e :: es) t)
    (hdb : (x == ("__debug__" : Str)) = false := by decide) (he : starEach (e :: es) X.env = (false, eval e X.env) :: starEach es X.env := by rfl) (hpl : (backTo pos (starEach es X.env)).any (·.1) = false := by rfl) :
    PBE X (.Call (.Name x p) (e :: es) [] pos) (tBMake C sp dvs t) := by
  intro pins s0 σ H0 Q E I0 h
  refine wpAny_Call_Name_kw (ld_glob I0 hg hm ?_ hdb)
  refine PySem.W.callWith_K (h₀ := X.base) I0.ok.mod.kin M.kp (wpAny_mono (ha pos pins s0 σ H0 _ I0 h) (fun us s q1 => ?_) fun _ _ z => (hnx _ _ z).elim) he hpl
  obtain ⟨vs, H, I, r, h⟩ := q1
  refine ⟨I.kIn, ?_⟩
  have hq := h (s.heap.objs.size + 1) s.heap.objs.size (I.hok.fresh (Nat.le_succ _)) (I.hok.fresh (Nat.le_refl _)) (Nat.ne_of_lt (Nat.lt_succ_self _))
  have I2 := Inv.made (C := C) I
  have r2 : Vals (V.ref (s.heap.objs.size + 1) :: (vs ++ dvs)) (Value.ref (s.heap.objs.size + 1) :: (us ++ ds)) := .cons rfl (r.append hd)
  have hl : (Value.ref (s.heap.objs.size + 1) :: us ++ ds).length = ps.length := by
    have e := r2.length
    rw [F.len _ _ _ _ hq] at e
    exact e.symm
  refine wpAny_call (make_map (f := f) I.kIn M.makes M.init (beq_iff_eq.mp M.fn) (codeAny_mono (F.run _ X.stack _ _ ⟨Value.ref (s.heap.objs.size + 1) :: us, []⟩ (Value.ref (s.heap.objs.size + 1) :: (us ++ ds)) _ _ E (hr.make C us [])
    (I2.env0.make C us []) (hb _ (Value.ref (s.heap.objs.size + 1) :: us) I2.kIn hl) r2 hq) fun r s' hq' => ?_))
  cases r with
  | error e => exact ⟨_, _, I2, hq'⟩
  | ok fl =>
    cases fl with
    | ret u =>
      obtain ⟨v, H', I3, rv, ev, q3⟩ := I2.after hq'
      subst ev
      exact ⟨rv, ⟨V.ref (s.heap.objs.size + 1), H', I3, rfl, q3⟩⟩
    | next => exact False.elim hq'
    | brk => exact False.elim hq'
    | cont => exact False.elim hq'
theorem pbs_expr {e : Expr} {t : XK → TE} {pos : Pos} (he : PBE X e t) (hsw : swapsWith e none pos.line X.env = pure false := by rfl) : PBS X (.Expr e pos) (fun E => tDrop (t E)) := by
  intro pins s σ H D E I h
  exact wpAny_Expr_any (thn (he pins s σ H _ E I h) fun v s1 ⟨x, H1, I1, _, q⟩ => ⟨σ, H1, I1, q⟩) I.quiet hsw
def tTryB (K : PySem.W.Frag) (CB : Addr) (i : Nat) (tb : XK → TS) (ts : TS) : TS := fun D σ H => tb (fun cls _ H2 => PySem.W.exmOne K cls (.ref CB) = some true ∧
  ∀ x, H2 x = none → ts { nx := fun σ' H3 => D.nx (σ'.set i none) H3, rt := D.rt, bk := fun σ' H3 => D.bk (σ'.set i none) H3, ct := fun σ' H3 => D.ct (σ'.set i none) H3 } (σ.set i (some (.ref x))) (L2.upd H2 x (hoExc x cls))) D σ H
theorem ps_tryB {cn n : Str} {i : Nat} {CB : Addr} {st : Stmt} {tb : XK → TS} {b₀ : Stmt} {suite : List Stmt} {ts : TS} {cp hpos tpos : Pos}
    (hst : X.stack = X.env :: X.outer) (hf : X.env.frame = some X.env.locals) (hnx : ∀ v s, ¬ X.xe v s) (hb : PBS X st tb)
    (hgC : Gl X cn) (hmC : X.mg cn = some (.ref CB)) (hN : X.N.Nodup) (hi : X.N[i]? = some n) (hl : X.env.scope.names.lookup n = some .local) (hs : ∀ v : Value, PSs (cxE X v) (b₀ :: suite) ts)
    (hdc : (cn == ("__debug__" : Str)) = false := by decide) :
    PS X (.Try [st] [.ExceptHandler (some (.Name cn cp)) (some n) (b₀ :: suite) hpos] [] [] tpos) (tTryB X.K CB i tb ts) := by
  intro pins s σ H D I h
  refine wpAny_Try_except (wpAny_execs_cons (wpAny_mono (hb pins s σ H _ _ I h) (fun fl s' q => ?_) fun ev s' hq => ?_))
  · cases fl with
    | next => exact wpAny_execs_nil (wpAny_execs_nil q)
    | brk => exact q
    | cont => exact q
    | ret u => exact q
  obtain ⟨H1, s1, I1, hq1⟩ := hq
  obtain ⟨x', cls, a0, H2, B, rfl, os, bare, un, hok, fl, cT, cO, cA, hm1, hE⟩ := hq1
  have fl' := fl
  rw [hst] at fl'
  refine wpAny_looks_onW (base := B) (outer := X.outer) (L := X.env.locals) (by rw [← hst]; exact I1.ok.frames) hf fl' fun h4 held4 up4 => ?_
  refine wpAny_landsW held4 fun h5 fl5 up5 => ?_
  rw [← hst] at fl5
  obtain ⟨un5, hok5⟩ := ride (P := X.prog) (w := X.w) un hok fl.1 fl.2.2.1 cT cO cA fl5.1 (up4.trans up5)
  have I5 : Inv X pins σ H2 { s' with heap := h5 } := I1.call' (s' := { s' with heap := h5 }) (ch := []) os un5 hok5 bare (fun b z => absurd z (by simp))
  have X5 := inv_mark I5 (.ref x')
  have ty5 : PySem.W.Looks (model X.prog X.w) h5 (typeOf (.ref x')) cls := by
    obtain ⟨ob, hob, hc⟩ := fl5.there
    subst hc
    exact (PySem.W.Looks.ld hob).andThen .now
  refine wpAny_handleBy_cons (codeAny_handlers_test (ld_glob X5 hgC hmC ((PySem.W.exm_one I5.kIn ty5 hm1).here ?_) hdc)) (by intro z; cases z)
  refine codeAny_handlers_suite_as ?_
  refine lands_againW fl5 fun h6 fl6 up6 => ?_
  obtain ⟨un6, hok6⟩ := ride (P := X.prog) (w := X.w) un5 hok5 fl5.1 fl5.2.2.1 cT cO cA fl6.1 up6
  obtain ⟨ob, hob, hcl⟩ := fl6.there
  have nH : H2 x' = none := by
    cases z : H2 x' with
    | none => rfl
    | some u =>
      obtain ⟨o, ho⟩ := cT x' u z
      rw [fl.2.1] at ho
      cases ho
  have nS : ∀ o, s1.heap.get? x' ≠ some o := fun o ho => by
    by_cases hx' : x' ∈ frs X.stack
    · obtain ⟨_, o', ho', hn'⟩ := fl6.2.2.1.mem hx'
      obtain ⟨oe, ws, hoe, _, hoed, _⟩ := fl6.first
      rw [hoe] at ho'
      cases ho'
      exact hn' _ hoed
    · obtain ⟨o', ho'⟩ := cA x' o ho hx'
      rw [fl.2.1] at ho'
      cases ho'
  have hT : ∀ b u, H2 b = some u → L2.upd H2 x' (hoExc x' cls) b = some u := fun b u z => by rw [upd_ne (ne_of_none z nH)]; exact z
  have un7 : Un (frs X.stack) [] H1 (L2.upd H2 x' (hoExc x' cls)) s1.heap h6 :=
    ⟨un6.keep, un6.slot, fun b o q n hx => by
      have nb : b ≠ x' := fun z => nS o (by rw [← z]; exact q)
      rw [upd_ne nb]
      exact un6.free b o q n hx, un6.there, fun b xs z => hT _ _ (un6.tups b xs z), fun b o u z => hT _ _ (un6.frzs b o u z), fun b ps z => by
      obtain ⟨m1, e1⟩ := un6.tbls b ps z
      exact ⟨m1, hT _ _ e1⟩⟩
  have hok7 : HOk X.prog X.w (L2.upd H2 x' (hoExc x' cls)) h6 := fun b u z => by
    by_cases hbx : b = x'
    · subst hbx
      rw [upd_same] at z
      cases z
      exact ⟨⟨ob, hob, hcl⟩, ⟨ob, hob⟩, fun h1 h2 ⟨o1, q1, q2⟩ k => ⟨o1, k _ q1, q2⟩⟩
    · rw [upd_ne hbx] at z
      exact (hok6 b u z).stay (fun _ _ _ q => q) (fun c q => hT _ _ q) fun c xs q => hT _ _ q
  have I6 : Inv X pins σ (L2.upd H2 x' (hoExc x' cls)) { s' with heap := h6 } := I1.call' (s' := { s' with heap := h6 }) (ch := []) os un7 hok7 bare (fun b z => absurd z (by simp))
  refine store_ok (X := cxE X (.ref x')) (inv_mark I6 (.ref x')) hN hi (.inl hl) (v := .ref x') rfl (fun s7 I7 => ?_) (.inr hl)
  refine wpAny_mono (hs (.ref x') pins s7 _ _ _ I7 (hE x' nH)) (fun f8 s8 q8 => ?_) fun _ _ z => (hnx _ _ z).elim
  cases f8 with
  | next =>
    obtain ⟨σ8, H8, I8, q8⟩ := q8
    exact goes (inv_unmark I1.ok I8) hN hi hl fun s9 I9 => ⟨_, H8, I9, q8⟩
  | brk =>
    obtain ⟨σ8, H8, I8, q8⟩ := q8
    exact goes (inv_unmark I1.ok I8) hN hi hl fun s9 I9 => ⟨_, H8, I9, q8⟩
  | cont =>
    obtain ⟨σ8, H8, I8, q8⟩ := q8
    exact goes (inv_unmark I1.ok I8) hN hi hl fun s9 I9 => ⟨_, H8, I9, q8⟩
  | ret u =>
    obtain ⟨v, σ8, H8, I8, r8, q8⟩ := q8
    exact goes (inv_unmark I1.ok I8) hN hi hl fun s9 I9 => ⟨v, _, H8, I9, r8, q8⟩
end
end Bw
set_option Elab.async false
set_option linter.all false
set_option maxRecDepth 100000
set_option maxHeartbeats 1000000
namespace Bw
open PySem PySem.Spec PyProof.Rows L2
theorem lookup_mem {α : Type} {x : Str} {c : α} : ∀ {l : List (Str × α)}, l.lookup x = some c → (x, c) ∈ l
  | [], h => by simp at h
  | (n, k) :: r, h => by
    rw [List.lookup_cons] at h
    cases hx : x == n with
    | true =>
      rw [hx] at h
      have e : x = n := by simpa using hx
      have e2 : k = c := by simpa using h
      subst e e2
      exact List.mem_cons_self
    | false =>
      rw [hx] at h
      exact List.mem_cons_of_mem _ (lookup_mem h)
theorem mem_lookup {α : Type} {x : Str} {c : α} : ∀ {l : List (Str × α)}, (x, c) ∈ l → ∃ c', l.lookup x = some c'
  | [], h => by cases h
  | (n, k) :: r, h => by
    rw [List.lookup_cons]
    cases hx : x == n with
    | true => exact ⟨k, rfl⟩
    | false =>
      rcases List.mem_cons.mp h with e | e
      · cases e
        simp at hx
      · exact mem_lookup e
theorem closure_run {env : Env} : ∀ (names : List (Str × NameKind)) (acc : List (Str × Addr)), (∀ y ∈ names, y.2 = .free → ∃ c, env.cells.lookup y.1 = some c) →
    ∃ cl : List (Str × Addr), (forIn (m := Sem) names acc fun (x : Str × NameKind) r =>
        if (x.2 == NameKind.free) = true then do let a ← cellOf env x.1; pure (ForInStep.yield ((x.1, a) :: r)) else pure (ForInStep.yield r)) = pure cl ∧
      (∀ p ∈ cl, p ∈ acc ∨ env.cells.lookup p.1 = some p.2) ∧ (∀ p ∈ acc, p ∈ cl) ∧ ∀ x, (x, NameKind.free) ∈ names → ∃ c, (x, c) ∈ cl
  | [], acc, _ => ⟨acc, rfl, fun p hp => .inl hp, fun p hp => hp, fun x hx => by cases hx⟩
  | (n, k) :: r, acc, h => by
    by_cases hk : k = .free
    · subst hk
      obtain ⟨c, hc⟩ := h (n, .free) List.mem_cons_self rfl
      obtain ⟨cl, e, h1, h2, h3⟩ := closure_run r ((n, c) :: acc) fun y hy => h y (List.mem_cons_of_mem _ hy)
      have hc' : cellOf env n = pure c := by unfold cellOf; rw [hc]
      refine ⟨cl, ?_, fun p hp => ?_, fun p hp => h2 p (List.mem_cons_of_mem _ hp), fun x hx => ?_⟩
      · rw [List.forIn_cons]
        simp only [beq_self_eq_true, if_true, hc', pure_bind]
        exact e
      · rcases h1 p hp with z | z
        · rcases List.mem_cons.mp z with rfl | z
          · exact .inr hc
          · exact .inl z
        · exact .inr z
      · rcases List.mem_cons.mp hx with z | z
        · cases z
          exact ⟨c, h2 _ List.mem_cons_self⟩
        · exact h3 x z
    · obtain ⟨cl, e, h1, h2, h3⟩ := closure_run r acc fun y hy => h y (List.mem_cons_of_mem _ hy)
      have hb : (k == NameKind.free) = false := by simpa using hk
      refine ⟨cl, ?_, h1, h2, fun x hx => ?_⟩
      · rw [List.forIn_cons]
        simp only [hb, Bool.false_eq_true, if_false, pure_bind]
        exact e
      · rcases List.mem_cons.mp hx with z | z
        · cases z
          exact absurd rfl hk
        · exact h3 x z
theorem closure_of {env : Env} {scope : Scope} (h : ∀ y ∈ scope.names, y.2 = .free → ∃ c, env.cells.lookup y.1 = some c) :
    ∃ cl, closureFor scope env = pure cl ∧ (∀ x c, cl.lookup x = some c → env.cells.lookup x = some c) ∧ ∀ x, (x, NameKind.free) ∈ scope.names → ∃ c, cl.lookup x = some c := by
  obtain ⟨cl, e, h1, h2, h3⟩ := closure_run (env := env) scope.names [] h
  refine ⟨cl, ?_, fun x c hx => ?_, fun x hx => ?_⟩
  · unfold closureFor
    simp only [bind_pure]
    exact e
  · rcases h1 _ (lookup_mem hx) with z | z
    · cases z
    · exact z
  · obtain ⟨c, hc⟩ := h3 x hx
    exact mem_lookup hc
theorem relabel_mem {scope : Scope} {env : Env} {x : Str} {k : NameKind} (h : (relabel scope env).names.lookup x = some k) : (x, k) ∈ scope.names ∨ (k = .cell ∧ (x, NameKind.free) ∈ scope.names) := by
  obtain ⟨⟨n, k'⟩, hm, e⟩ := List.mem_map.mp (lookup_mem h)
  dsimp only at e
  split at e
  · rename_i hc
    simp only [Bool.and_eq_true, beq_iff_eq] at hc
    obtain ⟨⟨rfl, _⟩, _⟩ := hc
    cases e
    exact .inr ⟨rfl, hm⟩
  · cases e
    exact .inl hm
abbrev blk (X : Cx) (N : List Str) (scope : Scope) (cl : List (Str × Addr)) (C : Addr) (s : Shared) (H : Hp) (fp : List Addr) : Cx :=
  { prog := X.prog, w := X.w, K := X.K, mg := X.mg, base := X.base, A := X.A, N := N, s₀ := s, H₀ := H, env := compEnvC scope cl C X.env, outer := X.stack, stack := X.stack, ex := fp, fn := fun _ => false, calm := X.calm, pn := [], xe := fun _ _ => False }
def pick (ix : List (Option Nat)) (σ : L2.St) : L2.St := ix.map fun o => o.bind fun j => (σ[j]?).getD none
def PTs (X : Cx) (ifs : List Expr) (t : TT) : Prop :=
  ∀ (pins : List (Addr × Obj)) (s : Shared) (σ : L2.St) (H : Hp) (Q : Bool → Hp → Prop), Inv X pins σ H s → t σ H Q →
    wpAny (model X.prog X.w) X.A (forIn ifs true fun c r => if r = true then do let ok ← isTrue c X.env (eval c X.env); pure (ForInStep.yield ok) else pure (ForInStep.yield r)) (TP X pins σ Q) X.xe s
def tYes : TT := fun _ H Q => Q true H
theorem pts_nil {X : Cx} : PTs X [] tYes := fun pins s σ H Q I h => wpAny_tests_nil ⟨H, I, h⟩
theorem pts_one {X : Cx} {c : Expr} {t : TT} (h : PT X c t) : PTs X [c] t := fun pins s σ H Q I q => wpAny_tests_one (h pins s σ H Q I q)
def tComp (wi : TI) (ix : List (Option Nat)) (g : TG) (tt : TT) (te : TE) : TE := fun σ H Q => wi σ H fun J H1 => ∃ W : Nat → Nat → List V → L2.St → Hp → Prop, (∃ m, W 0 m [] (pick ix σ) H1) ∧ ∀ i m acc σ H, W i m acc σ H →
  (J.stop i H ∧ ∀ D, H D = none → Q (.ref D) (upd H D (.lst acc))) ∨
  (J.go i H ∧ acc.length < sizeLine ∧ ∃ N : List V → L2.St → Hp → Prop, (∀ acc' σ' H', N acc' σ' H' → ∃ m', m' < m ∧ W (i + 1) m' acc' σ' H') ∧
    ∀ x H', J.yld i H x H' → g x σ H' fun σ2 H2 => tt σ2 H2 fun b H3 => if b = true then te σ2 H3 fun y H4 => N (acc ++ [y]) σ2 H4 else N acc σ2 H3)
section
variable {prog : Program} {w : World} {A : Around} {R : Result → Shared → Prop} {s : Shared}
theorem codeAny_compLoopT {elt target iter : Expr} {ifs : List Expr} {scope : Scope} {pos : Pos} {it acc : Value} {env : Env} (I : Nat → Shared → Prop)
    (turn : ∀ n s, I n s → wpAny (model prog w) A (pyNext it) (fun r s₁ => match r with
      | none => R (.ok .next) s₁
      | some v => wpAny (model prog w) A (letOwnedTupleGo target it v) (fun _ s₁ => wpAny (model prog w) A (assign target env v) (fun _ s₂ =>
          wpAny (model prog w) A (forIn ifs true fun c r => if r = true then do let ok ← isTrue c env (eval c env); pure (ForInStep.yield ok) else pure (ForInStep.yield r)) (fun ok s₃ =>
            if ok = true then wpAny (model prog w) A (eval elt env) (fun x s₄ =>
              wpAny (model prog w) A (call (.builtin "list.append") [acc, x]) (fun _ s₅ => ∃ m, m < n ∧ I m s₅) (fun _ _ => False) s₄) (fun _ _ => False) s₃
            else ∃ m, m < n ∧ I m s₃) (fun _ _ => False) s₂) (fun _ _ => False) s₁) (fun _ _ => False) s₁) (fun _ _ => False) s)
    (n : Nat) (h : I n s) :
    codeAny (model prog w) A (.compLoop (.ListComp elt [⟨target, iter, ifs, 0⟩] scope pos) 0 it acc env) R s := by
  refine codeAny_loop rfl I (fun n s hI => ?_) n h
  show wpAny _ A ((compTurn (.ListComp elt [⟨target, iter, ifs, 0⟩] scope pos) 0 it acc env).onRaise (fun x => do noteFrame x env; theTreesLotGoes x)) _ _ s
  refine wpAny_noted ?_
  rw [compTurn_list]
  refine wpAny_bind (wpAny_standAt (wpAny_bind (wpAny_mono (turn n s hI) (fun r s₁ h₁ => ?_) fun _ _ h' => h'.elim)))
  cases r with
  | none => exact wpAny_pure h₁
  | some v =>
    refine wpAny_bind (wpAny_mono h₁ (fun _ s₁ h₁ => ?_) fun _ _ h' => h'.elim)
    refine wpAny_bind (wpAny_mono h₁ (fun _ s₂ h₂ => wpAny_bind (wpAny_mono h₂ (fun ok s₃ h₃ => ?_) fun _ _ h' => h'.elim)) fun _ _ h' => h'.elim)
    cases ok with
    | false => exact wpAny_pure ⟨rfl, h₃⟩
    | true =>
      exact wpAny_bind (wpAny_bind (wpAny_mono h₃ (fun x s₄ h₄ => wpAny_bind (wpAny_mono h₄ (fun _ s₅ h₅ => wpAny_pure (wpAny_pure ⟨rfl, h₅⟩)) fun _ _ h' => h'.elim)) fun _ _ h' => h'.elim))
end
section
variable {X : Cx} {pins : List (Addr × Obj)} {σ : L2.St} {H : Hp} {s : Shared} {N : List Str} {scope : Scope} {cl : List (Str × Addr)} {C : Addr} {fp : List Addr}
theorem blk_ok (I : Inv X pins σ H s) (hkind : scope.kind = .function) (hcell : ∀ y ∈ scope.names, y.2 ≠ .cell) (h1 : ∀ x c, cl.lookup x = some c → X.env.cells.lookup x = some c)
    (h2 : ∀ x, (x, NameKind.free) ∈ scope.names → ∃ c, cl.lookup x = some c) (hC : s.heap.objs.size ≤ C) (hf : ∀ b ∈ fp, FpOk X pins H b) (hb : ∀ b ∈ fp, b < s.heap.objs.size) : (blk X N scope cl C s H fp).Ok where
  mod := I.ok.mod
  kind := hkind
  glob := I.ok.glob
  blt := I.ok.blt
  above := hC
  inj := fun x y c a b => I.ok.inj x y c (h1 x c a) (h1 y c b)
  has := fun x hx => by
    have : (x, NameKind.free) ∈ scope.names := by
      rcases hx with z | z
      · rcases relabel_mem z with q | ⟨_, q⟩
        · exact absurd rfl (hcell _ q)
        · exact q
      · rcases relabel_mem z with q | ⟨e, q⟩
        · exact q
        · cases e
    exact h2 x this
  cab := fun x c hx => by cases hx
  hd := I.ok.hd
  frames := I.ok.frames
  stk := .inl rfl
  exf := fun b hm => ⟨Nat.ne_of_lt (Nat.lt_of_lt_of_le (hb b hm) hC), fun x c e => (hf b hm).2.2.2.2.1 x c (h1 x c e)⟩
  bs := I.bs
  bsz := Nat.le_trans I.ok.bsz I.sz
  noex := fun b o e hm => by
    rcases (hf b hm).2.2.2.1 with z | z
    · exact I.ok.noex b o e z
    · exact absurd (Nat.lt_of_lt_of_le (Heap.lt_size e) (Nat.le_trans I.ok.bsz z)) (Nat.lt_irrefl _)
  exfs := fun b hm hs => (List.mem_cons.mp (I.stkSub b hs)).elim (hf b hm).2.1 (hf b hm).2.2.1
  funs := I.stack
  frf := I.stkFree
end
theorem lookup_relabel_free {env : Env} : ∀ {names : List (Str × NameKind)} {x : Str}, names.lookup x = some .free →
    (names.map fun (n, k) => if (k == NameKind.free && env.scope.kind == .function && env.kindOf n == some .cell) then (n, NameKind.cell) else (n, k)).lookup x = some .cell ∨
    (names.map fun (n, k) => if (k == NameKind.free && env.scope.kind == .function && env.kindOf n == some .cell) then (n, NameKind.cell) else (n, k)).lookup x = some .free
  | [], _, h => by simp at h
  | (n, k) :: r, x, h => by
    have ih := @lookup_relabel_free env r x
    rw [List.map_cons]
    cases hx : x == n with
    | true =>
      simp only [List.lookup_cons, hx] at h
      cases h
      by_cases hc : (NameKind.free == NameKind.free && env.scope.kind == .function && env.kindOf n == some .cell) = true
      · left; simp only [hc, if_true, List.lookup_cons, hx]
      · right; simp only [Bool.not_eq_true] at hc; simp only [hc, Bool.false_eq_true, if_false, List.lookup_cons, hx]
    | false =>
      simp only [List.lookup_cons, hx] at h
      by_cases hc : (k == NameKind.free && env.scope.kind == .function && env.kindOf n == some .cell) = true
      · simp only [hc, if_true, List.lookup_cons, hx]; exact ih h
      · simp only [Bool.not_eq_true] at hc; simp only [hc, Bool.false_eq_true, if_false, List.lookup_cons, hx]; exact ih h
section
variable {X : Cx}
structure Gone (X : Cx) (pins : List (Addr × Obj)) (H : Hp) (C : Addr) : Prop where
  n : H C = none
  l : C ≠ X.env.locals
  y : X.s₀.heap.objs.size ≤ C
  c : ∀ x c, X.env.cells.lookup x = some c → c ≠ C
  p : ∀ p ∈ X.pn ++ pins, p.1 ≠ C
theorem Gone.inv {pins : List (Addr × Obj)} {σ : L2.St} {H : Hp} {s : Shared} {C : Addr} {h' : Heap} (G : Gone X pins H C) (I : Inv X pins σ H s) (hs : Heap.SameBut C s.heap h') : Inv X pins σ H { s with heap := h' } :=
  I.turned (t' := s.toks) (fun b o hb e => (hs.2 b hb).trans e) G.n G.l (.inr G.y) G.c G.p
theorem comp_run {elt iter tg : Expr} {ifs : List Expr} {scope : Scope} {pos ppos : Pos} {wi : TI} {g : TG} {tt : TT} {te : TE} {use : Option (Value → Sem Unit)} {Q' : Value → Shared → Prop} {pins : List (Addr × Obj)} {s : Shared} {σ : L2.St} {H : Hp} {Q : VK} (N : List Str) (ix : List (Option Nat)) (hc : X.calm = true) (hkind : scope.kind = .function) (hcell : ∀ y ∈ scope.names, y.2 ≠ .cell)
    (hnames : ∀ y ∈ scope.names, y.2 = .local → scope.names.lookup y.1 = some .local) (hfree : ∀ y ∈ scope.names, y.2 = .free → X.env.kindOf y.1 = some .cell ∨ X.env.kindOf y.1 = some .free)
    (hlen : ix.length = N.length) (hcap : ∀ (i j : Nat) (x : Str), ix[i]? = some (some j) → N[i]? = some x → X.N[j]? = some x ∧ scope.names.lookup x = some .free) (hi : PI X tg iter wi)
    (hb : ∀ cl C s H fp, PG (blk X N scope cl C s H fp) tg g ∧ PTs (blk X N scope cl C s H fp) ifs tt ∧ PE (blk X N scope cl C s H fp) elt te)
    (hs : ∀ x, foldedSetIterable iter X.env x = pure x) (I : Inv X pins σ H s) (h : tComp wi ix g tt te σ H Q)
    (hend : ∀ (D C : Addr) (H' : Hp) (s4 : Shared) (mC : Str → Option Value), Inv X pins σ H' s4 → s4.heap.Ns C mC → Gone X pins H' C → Q (.ref D) H' → compPost (model X.prog X.w) X.A X.xe use Q' (.ref D) C (.ok .next) s4) :
    wpAny (model X.prog X.w) X.A (comprehension (.ListComp elt [⟨tg, iter, ifs, 0⟩] scope pos) scope X.env ppos (newList []) false (eval iter X.env) use) Q' X.xe s := by
  obtain ⟨cl, hclos, hcl1, hcl2⟩ := closure_of (env := X.env) (scope := scope) fun y hy e => I.ok.has _ (hfree y hy e)
  refine wpAny_comprehension_free rfl hs hclos hkind hnames (thn (hi pins s σ H _ I h) fun v s1 h1 => thn h1 fun itv s2 h2 => ?_)
  obtain ⟨it, fp, tn, J, H2, e, I2, T, st2, f2, W, ⟨m0, w0⟩, turn⟩ := h2
  subst e
  refine wpAny_newObj_type (wpAny_newFunctionEnv hcell (by intro y hy; simp at hy) (fun h₁ hns₁ hsb₁ => ?_) hkind)
  dsimp only at hns₁ hsb₁ ⊢
  generalize hH2 : s2.heap.push { cls := .type "list", dict := none, data := .seq ([] : List Value).toArray } = HH at hns₁ hsb₁ ⊢
  have hC : HH.objs.size = s2.heap.objs.size + 1 := by rw [← hH2, Heap.size_push]
  have hDC : s2.heap.objs.size ≠ HH.objs.size := by rw [hC]; exact Nat.ne_of_lt (Nat.lt_succ_self _)
  have hCle : s2.heap.objs.size ≤ HH.objs.size := by rw [hC]; exact Nat.le_succ _
  have below : ∀ b, b < s2.heap.objs.size → b ≠ HH.objs.size ∧ b ≠ s2.heap.objs.size := fun b hb => ⟨by rw [hC]; exact Nat.ne_of_lt (Nat.lt_succ_of_lt hb), Nat.ne_of_lt hb⟩
  have hfp : ∀ b ∈ fp, b < s2.heap.objs.size := fun b hm => by
    obtain ⟨o, e, _⟩ := T.obj _ _ st2 b hm
    exact Heap.lt_size e
  have old : ∀ b o, s2.heap.get? b = some o → h₁.get? b = some o := fun b o e => hsb₁.extBut b o (below b (Heap.lt_size e)).1 (Heap.get?_push_of_some _ (hH2 ▸ Heap.get?_push_of_some _ e))
  have hacc : h₁.get? s2.heap.objs.size = some { cls := .type "list", data := .seq ([] : List Value).toArray } := hsb₁.extBut _ _ hDC (Heap.get?_push_of_some _ (hH2 ▸ Heap.get?_push_size _ rfl))
  generalize hD : s2.heap.objs.size = D at hDC hCle hacc ⊢
  generalize hCC : HH.objs.size = C at hns₁ hsb₁ hDC hCle ⊢
  have hDle : s2.heap.objs.size ≤ D := by rw [hD]; exact Nat.le_refl _
  have hCle' : s2.heap.objs.size ≤ C := by rw [hD]; exact hCle
  obtain ⟨bg, bt, be⟩ := hb cl C s2 H2 fp
  have ok := blk_ok (N := N) I2 hkind hcell hcl1 hcl2 hCle' f2 hfp
  have notY : ∀ b, s2.heap.objs.size ≤ b → b ∉ frs X.stack := fun b hle hm => by
    rcases List.mem_cons.mp (I2.stkSub b hm) with z | z
    · exact absurd (Nat.lt_of_lt_of_le I2.lt (z ▸ hle)) (Nat.lt_irrefl _)
    · exact I2.nofs hle z
  -- the block's invariant at its entry
  have I4 : Inv (blk X N scope cl C s2 H2 fp) [(D, { cls := .type "list", data := .seq ([] : List Value).toArray })] (pick ix σ) H2 { s2 with heap := h₁, toks := s2.toks + ([] : List (Str × Value)).length } := by
    refine ⟨ok, rfl, I2.bare, Un.kept old, ⟨_, hns₁, fun i x v e1 e2 e3 => ?_⟩, fun x c e => ?_, I2.hok.fresh hCle', fun x c e => I2.freeC x c (hcl1 x c e), fun p hp => ?_, I2.hok.kept old, ?_⟩
    · have q : ∃ j, ix[i]? = some (some j) ∧ σ[j]? = some (some v) := by
        unfold pick at e2
        rw [List.getElem?_map] at e2
        cases z : ix[i]? with
        | none => rw [z] at e2; cases e2
        | some o =>
          rw [z] at e2
          cases o with
          | none => cases e2
          | some j =>
            refine ⟨j, rfl, ?_⟩
            have e2' : (σ[j]?).getD none = some v := Option.some.inj e2
            cases z2 : σ[j]? with
            | none => rw [z2] at e2'; cases e2'
            | some w' => rw [z2] at e2'; exact congrArg some e2'
      obtain ⟨j, q1, q2⟩ := q
      obtain ⟨n1, n2⟩ := hcap i j x q1 e1
      obtain ⟨m, hn, hl⟩ := I2.loc
      have hmem := lookup_mem n2
      have hkx := hfree _ hmem rfl
      have hvis : Vis X.env.scope x := by
        rcases hkx with z | z
        · exact .inr (.inl z)
        · exact .inr (.inr z)
      obtain ⟨u, ru, lk⟩ := hl j x v n1 q2 hvis
      refine ⟨u, ru, .inr ⟨lookup_relabel_free n2, ?_⟩⟩
      obtain ⟨c, hcc⟩ := hcl2 x hmem
      rcases lk with ⟨k, _⟩ | ⟨_, c', e', z⟩
      · rcases hkx with z | z <;> · rw [k] at z; cases z
      · rw [hcl1 x c hcc] at e'
        cases e'
        obtain ⟨o, ho, hd⟩ := z
        exact ⟨c, hcc, o, old _ _ ho, hd⟩
    · obtain ⟨v, o, ho, hd⟩ := I2.cell x c (hcl1 x c e)
      exact ⟨v, o, old _ _ ho, hd⟩
    · have e : p = (D, { cls := .type "list", data := .seq ([] : List Value).toArray }) := by simpa using hp
      subst e
      exact ⟨hacc, I2.hok.fresh hDle, hDC, notY D hDle, fun v z => by cases z⟩
    · unfold pick
      rw [List.length_map]
      exact hlen
  have stat : ∀ {pl : List (Addr × Obj)} {H' : Hp}, (∀ p ∈ pl, p.1 ∉ fp) → (∀ b ∈ fp, H' b = none) → ∀ b ∈ fp, FpOk (blk X N scope cl C s2 H2 fp) pl H' b := fun {pl H'} hpl hn b hm =>
    ⟨hn b hm, (ok.exf b hm).1, ok.exfs b hm, .inl hm, (ok.exf b hm).2, fun p hp e => hpl p (by simpa using hp) (e ▸ hm)⟩
  have nfp : D ∉ fp := fun hm => absurd (Nat.lt_of_lt_of_le (hfp D hm) hDle) (Nat.lt_irrefl _)
  have nfpP : ∀ (o : Obj), ∀ p ∈ [(D, o)], p.1 ∉ fp := fun o p hp => by
    have e : p = (D, o) := by simpa using hp
    subst e
    exact nfp
  have loop : ∀ s3 : Shared, s3 = { s2 with heap := h₁, toks := s2.toks + ([] : List (Str × Value)).length } →
      codeAny (model X.prog X.w) X.A (.compLoop (.ListComp elt [⟨tg, iter, ifs, 0⟩] scope pos) 0 (.ref it) (.ref D) (compEnvC scope cl C X.env)) (compPost (model X.prog X.w) X.A X.xe use Q' (.ref D) C) s3 := by
    rintro s3 rfl
    refine codeAny_compLoopT (fun n s' => ∃ i σ' H' acc its nn, Inv (blk X N scope cl C s2 H2 fp) [(D, { cls := .type "list", data := .seq its nn })] σ' H' s' ∧ Vals acc its.toList ∧ tn i s'.heap ∧ (∀ b ∈ fp, H' b = none) ∧ acc.length ≤ sizeLine ∧ W i n acc σ' H') ?_ m0
      ⟨0, pick ix σ, H2, [], #[], 0, I4, .nil, T.keep _ _ _ st2 fun b _ o e => old b o e, fun b hm => (f2 b hm).1, Nat.zero_le _, w0⟩
    rintro n s3 ⟨i, σ3, H3, acc, its, nn, I3, rv, st3, fr3, hz, w3⟩
    rcases turn i n acc σ3 H3 w3 with ⟨stop, qn⟩ | ⟨go, hlt, NN, hN, step⟩
    · refine thn (T.done (blk X N scope cl C s2 H2 fp) rfl rfl rfl hc i _ s3 σ3 H3 (fun _ _ => False) I3 (stat (nfpP _) fr3) st3 stop) fun r s4 ⟨hr, I5⟩ => ?_
      subst hr
      obtain ⟨eD, nD, _⟩ := I5.pin (D, { cls := .type "list", data := .seq its nn }) (by simp)
      obtain ⟨mC, hnC, _⟩ := I5.loc
      -- back in the def's own frame
      have hne : ∀ b u, H3 b = some u → b ≠ D := fun b u q z => by rw [z, nD] at q; cases q
      have un : Un (frs X.stack) fp H2 (upd H3 D (.lst acc)) s2.heap s4.heap := by
        have b := I5.base
        have neD : ∀ b o, s2.heap.get? b = some o → b ≠ D := fun b o e => Nat.ne_of_lt (Nat.lt_of_lt_of_le (Heap.lt_size e) hDle)
        refine ⟨b.keep, b.slot, fun b' o q n' hx => ?_, b.there, fun b' xs q => ?_, fun b' o u q => ?_, fun b' ps q => ?_⟩
        · rw [upd_ne (neD b' o q)]
          exact b.free b' o q n' hx
        · have q' := b.tups b' xs q
          rw [upd_ne (hne _ _ q')]
          exact q'
        · have q' := b.frzs b' o u q
          rw [upd_ne (hne _ _ q')]
          exact q'
        · obtain ⟨more, q'⟩ := b.tbls b' ps q
          exact ⟨more, by rw [upd_ne (hne _ _ q')]; exact q'⟩
      have hokD : HOk X.prog X.w (upd H3 D (.lst acc)) s4.heap := fun b u e => by
        by_cases hbD : b = D
        · subst hbD
          rw [upd_same] at e
          cases e
          exact ⟨hz, its.toList, nn, rv, by simpa using eD⟩
        · rw [upd_ne hbD] at e
          refine (I5.hok b u e).stay (fun _ _ _ q => q) (fun c r => ?_) fun c xs r => ?_
          · rw [upd_ne (fun z => by rw [z, nD] at r; cases r)]; exact r
          · rw [upd_ne (fun z => by rw [z, nD] at r; cases r)]; exact r
      have IX : Inv X pins σ (upd H3 D (.lst acc)) s4 := I2.call' I5.os un hokD I5.bare fun b hm => ⟨(f2 b hm).2.2.2.1, (f2 b hm).2.1, (f2 b hm).2.2.2.2.1, (f2 b hm).2.2.2.2.2⟩
      refine hend D C _ s4 mC IX hnC ⟨?_, Nat.ne_of_gt (Nat.lt_of_lt_of_le I2.lt hCle'), Nat.le_trans I2.sz hCle', fun x c e z => ?_, fun p hp z => ?_⟩ (qn D nD)
      · rw [upd_ne (Ne.symm hDC)]
        exact I5.free
      · obtain ⟨v, o, ho, _⟩ := I2.cell x c e
        exact absurd (Nat.lt_of_lt_of_le (Heap.lt_size ho) (z ▸ hCle')) (Nat.lt_irrefl _)
      · exact absurd (Nat.lt_of_lt_of_le (Heap.lt_size (I2.pin p hp).1) (z ▸ hCle')) (Nat.lt_irrefl _)
    · refine thn (T.item (blk X N scope cl C s2 H2 fp) rfl rfl rfl hc i _ s3 σ3 H3 (fun _ _ => False) I3 (stat (nfpP _) fr3) st3 go) fun r s4 ⟨u, hr, h4⟩ => ?_
      subst hr
      refine thn h4 fun _ s5 ⟨x, H5, I5, r5, y5, st5, fr5⟩ => ?_
      have I5' := I5.pinned (stat (nfpP _) fr5) (T.obj _ _ st5)
      refine thn (bg _ s5 σ3 H5 x u _ I5' r5 (step x H5 y5)) fun _ s6 ⟨σ6, H6, I6, q6⟩ => ?_
      refine thn (bt _ s6 σ6 H6 _ I6 q6) fun b s7 ⟨H7, I7, q7⟩ => ?_
      have after : ∀ {o : Obj} {σ8 : L2.St} {H8 : Hp} {s8 : Shared}, Inv (blk X N scope cl C s2 H2 fp) ([(D, o)] ++ pinsAt fp s5.heap) σ8 H8 s8 → tn (i + 1) s8.heap ∧ ∀ b ∈ fp, H8 b = none := fun {o σ8 H8 s8} I8 => by
        refine ⟨T.keep _ _ _ st5 fun b hb o e => (I8.pin (b, o) (List.mem_append_right _ (List.mem_append_right _ (mem_pinsAt hb e)))).1, fun b hb => ?_⟩
        obtain ⟨o, e, d⟩ := T.obj _ _ st5 b hb
        exact (I8.pin (b, o) (List.mem_append_right _ (List.mem_append_right _ (mem_pinsAt hb e)))).2.1
      cases b with
      | false =>
        simp only [Bool.false_eq_true, if_false] at q7 ⊢
        obtain ⟨m', hm, w7⟩ := hN acc σ6 H7 q7
        exact ⟨m', hm, i + 1, σ6, H7, acc, its, nn, I7.unpinned, rv, (after I7).1, (after I7).2, hz, w7⟩
      | true =>
        simp only [if_true] at q7 ⊢
        refine thn (be _ s7 σ6 H7 _ I7 q7) fun yv s8 ⟨y, H8, I8, r8, q8⟩ => ?_
        obtain ⟨eD, nD, _⟩ := I8.pin (D, { cls := .type "list", data := .seq its nn }) (by simp)
        have hl : acc.length = its.size := by have := rv.length; simpa using this
        refine wpAny_list_append_plain (hsz := by omega) ⟨nn, eD⟩ fun h9 ⟨n9, e9⟩ hs9 => ?_
        obtain ⟨m', hm, w9⟩ := hN _ _ _ q8
        have J1 : Inv (blk X N scope cl C s2 H2 fp) (pinsAt fp s5.heap) σ6 H8 s8 := I8.pins_of fun p hp => I8.pin p (List.mem_append_right _ (List.mem_append_right _ hp))
        have nc : ∀ x c, cl.lookup x = some c → c ≠ D := fun x c e z => by
          obtain ⟨v, o, ho, _⟩ := I2.cell x c (hcl1 x c e)
          exact absurd (Nat.lt_of_lt_of_le (Heap.lt_size ho) (z ▸ hDle)) (Nat.lt_irrefl _)
        have J2 : Inv (blk X N scope cl C s2 H2 fp) (pinsAt fp s5.heap) σ6 H8 { s8 with heap := h9 } := J1.turned (t' := s8.toks) (fun b o hb e => hs9.extBut b o hb e) nD hDC (.inr hDle) nc fun p hp z => by
          have hp' : p ∈ pinsAt fp s5.heap := by simpa using hp
          exact nfp (z ▸ (of_pinsAt hp').1)
        have J3 : Inv (blk X N scope cl C s2 H2 fp) ([(D, { cls := .type "list", data := .seq (its.push yv) n9 })] ++ pinsAt fp s5.heap) σ6 H8 { s8 with heap := h9 } := J2.pins_of fun p hp => by
          rcases List.mem_append.mp hp with hp | hp
          · have e : p = (D, { cls := .type "list", data := .seq (its.push yv) n9 }) := by simpa using hp
            subst e
            exact ⟨e9, nD, hDC, notY D hDle, fun v z => by cases z⟩
          · exact J2.pin p (List.mem_append_right _ hp)
        refine ⟨m', hm, i + 1, σ6, H8, acc ++ [y], its.push yv, n9, J3.unpinned, ?_, (after J3).1, (after J3).2, by rw [List.length_append, List.length_singleton]; omega, w9⟩
        rw [Array.toList_push]
        exact rv.append (.cons r8 .nil)
  exact codeAny_compStart_list (loop _ rfl) (T.self _ 0 _ _ _ (T.keep _ _ _ st2 fun b _ o e => old b o e) (loop _ rfl))
theorem pe_comp {elt iter tg : Expr} {ifs : List Expr} {scope : Scope} {pos : Pos} {wi : TI} {g : TG} {tt : TT} {te : TE} (N : List Str) (ix : List (Option Nat)) (hc : X.calm = true) (hkind : scope.kind = .function) (hcell : ∀ y ∈ scope.names, y.2 ≠ .cell)
    (hnames : ∀ y ∈ scope.names, y.2 = .local → scope.names.lookup y.1 = some .local) (hfree : ∀ y ∈ scope.names, y.2 = .free → X.env.kindOf y.1 = some .cell ∨ X.env.kindOf y.1 = some .free)
    (hlen : ix.length = N.length) (hcap : ∀ (i j : Nat) (x : Str), ix[i]? = some (some j) → N[i]? = some x → X.N[j]? = some x ∧ scope.names.lookup x = some .free) (hi : PI X tg iter wi)
    (hb : ∀ cl C s H fp, PG (blk X N scope cl C s H fp) tg g ∧ PTs (blk X N scope cl C s H fp) ifs tt ∧ PE (blk X N scope cl C s H fp) elt te)
    (hs : ∀ x, foldedSetIterable iter X.env x = pure x := by intro _; rfl) : PE X (.ListComp elt [⟨tg, iter, ifs, 0⟩] scope pos) (tComp wi ix g tt te) := by
  intro pins s σ H Q I h
  rw [eval_ListComp]
  exact comp_run (use := none) N ix hc hkind hcell hnames hfree hlen hcap hi hb hs I h fun D C H' s4 mC I4 hn G q => ⟨mC, hn, fun h' hs' => ⟨.ref D, H', G.inv I4 hs', rfl, q⟩⟩
theorem ps_comp {i : Nat} {y : Str} {elt iter tg : Expr} {ifs : List Expr} {scope : Scope} {pos py spos : Pos} {wi : TI} {g : TG} {tt : TT} {te : TE} (N : List Str) (ix : List (Option Nat)) (hc : X.calm = true) (hkind : scope.kind = .function) (hcell : ∀ y ∈ scope.names, y.2 ≠ .cell)
    (hnames : ∀ y ∈ scope.names, y.2 = .local → scope.names.lookup y.1 = some .local) (hfree : ∀ y ∈ scope.names, y.2 = .free → X.env.kindOf y.1 = some .cell ∨ X.env.kindOf y.1 = some .free)
    (hlen : ix.length = N.length) (hcap : ∀ (i j : Nat) (x : Str), ix[i]? = some (some j) → N[i]? = some x → X.N[j]? = some x ∧ scope.names.lookup x = some .free) (hN : X.N.Nodup) (hin : X.N[i]? = some y) (hy : X.env.scope.names.lookup y = some .local) (hi : PI X tg iter wi)
    (hb : ∀ cl C s H fp, PG (blk X N scope cl C s H fp) tg g ∧ PTs (blk X N scope cl C s H fp) ifs tt ∧ PE (blk X N scope cl C s H fp) elt te)
    (hsw : swapsWith (.ListComp elt [⟨tg, iter, ifs, 0⟩] scope pos) (some (.Name y py)) spos.line X.env = pure true := by rfl)
    (hs : ∀ x, foldedSetIterable iter X.env x = pure x := by intro _; rfl) : PS X (.Assign [.Name y py] (.ListComp elt [⟨tg, iter, ifs, 0⟩] scope pos) spos) (tAsg (tComp wi ix g tt te) (gName i)) := by
  intro pins s σ H D I h
  rw [exec_Assign_Name_used _ _ _ _ hsw]
  refine wpAny_bind (wpAny_standAt (wpAny_bind ?_))
  show wpAny _ X.A (do let _ ← comprehension (.ListComp elt [⟨tg, iter, ifs, 0⟩] scope pos) scope X.env _ (newList []) false (eval iter X.env) (some (assign (.Name y py) X.env))) _ _ s
  refine wpAny_bind (thn (comp_run (use := some (assign (.Name y py) X.env)) (Q' := fun _ s' => SP X pins D .next s') (Q := fun v H' => D.nx (σ.set i (some v)) H') N ix hc hkind hcell hnames hfree hlen hcap hi hb hs I h fun Dd C H' s4 mC I4 hn G q => ?_) fun _ s' hq => wpAny_pure (wpAny_pure hq))
  show wpAny _ X.A (assign (.Name y py) X.env (.ref Dd)) _ _ _
  refine wpAny_assign_Name (store_ok2 (v := .ref Dd) I4 hN hin (.inl hy) rfl (fun s5 I5 ⟨a, sb, ha⟩ => ?_) (.inr hy))
  have hCa : C ≠ a := by
    rcases ha with z | z
    · rw [z]; exact G.l
    · exact fun e => G.c _ _ z e.symm
  exact ⟨mC, hn.sameBut sb hCa, fun h' hs' => ⟨_, H', G.inv I5 hs', q⟩⟩
end
theorem comp_list {K : PySem.W.Frag} {a : Addr} {xs : List V} {g : TG} {tt : TT} {te : TE} {σ : L2.St} {H : Hp} {Q : VK} (Pv : Nat → List V → L2.St → Hp → Prop) (hz : xs.length ≤ sizeLine) (h0 : Pv 0 [] σ H) (hl : ∀ i acc σ H, i ≤ xs.length → Pv i acc σ H → SqL K H a xs)
    (hs : ∀ i x acc σ H, xs[i]? = some x → Pv i acc σ H → g x σ H fun σ2 H2 => tt σ2 H2 fun b H3 => if b = true then te σ2 H3 fun y H4 => Pv (i + 1) (acc ++ [y]) σ2 H4 else Pv (i + 1) acc σ2 H3)
    (hacc : ∀ i acc σ H, Pv i acc σ H → acc.length ≤ i) (hd : ∀ acc σ H, Pv xs.length acc σ H → ∀ D, H D = none → Q (.ref D) (upd H D (.lst acc))) :
    ∃ W : Nat → Nat → List V → L2.St → Hp → Prop, (∃ m, W 0 m [] σ H) ∧ ∀ i m acc σ H, W i m acc σ H →
      ((Itl K a).stop i H ∧ ∀ D, H D = none → Q (.ref D) (upd H D (.lst acc))) ∨
      ((Itl K a).go i H ∧ acc.length < sizeLine ∧ ∃ N : List V → L2.St → Hp → Prop, (∀ acc' σ' H', N acc' σ' H' → ∃ m', m' < m ∧ W (i + 1) m' acc' σ' H') ∧
        ∀ x H', (Itl K a).yld i H x H' → g x σ H' fun σ2 H2 => tt σ2 H2 fun b H3 => if b = true then te σ2 H3 fun y H4 => N (acc ++ [y]) σ2 H4 else N acc σ2 H3) := by
  refine ⟨fun i m acc σ H => m = xs.length - i ∧ i ≤ xs.length ∧ Pv i acc σ H, ⟨xs.length, by simp, Nat.zero_le _, h0⟩, ?_⟩
  rintro i m acc σ H ⟨rfl, hi, p⟩
  have q := hl i acc σ H hi p
  have ha := hacc i acc σ H p
  by_cases hlt : i < xs.length
  · refine .inr ⟨⟨xs, xs[i], q, by simp [hlt]⟩, by omega, Pv (i + 1), fun acc' σ' H' p' => ⟨xs.length - (i + 1), by omega, rfl, hlt, p'⟩, fun x H' y => ?_⟩
    obtain ⟨e, y⟩ := y
    subst e
    exact hs i x acc σ _ (y xs q) p
  · have e : i = xs.length := by omega
    subst e
    exact .inl ⟨⟨xs, q, Nat.le_refl _⟩, hd acc σ H p⟩
theorem comp_range {lo : Int} {n : Nat} {g : TG} {tt : TT} {te : TE} {σ : L2.St} {H : Hp} {Q : VK} (Pv : Nat → List V → L2.St → Hp → Prop) (hz : n ≤ sizeLine) (h0 : Pv 0 [] σ H)
    (hs : ∀ i acc σ H, i < n → Pv i acc σ H → g (.int (lo + i)) σ H fun σ2 H2 => tt σ2 H2 fun b H3 => if b = true then te σ2 H3 fun y H4 => Pv (i + 1) (acc ++ [y]) σ2 H4 else Pv (i + 1) acc σ2 H3)
    (hacc : ∀ i acc σ H, Pv i acc σ H → acc.length ≤ i) (hd : ∀ acc σ H, Pv n acc σ H → ∀ D, H D = none → Q (.ref D) (upd H D (.lst acc))) :
    ∃ W : Nat → Nat → List V → L2.St → Hp → Prop, (∃ m, W 0 m [] σ H) ∧ ∀ i m acc σ H, W i m acc σ H →
      ((Itr lo n).stop i H ∧ ∀ D, H D = none → Q (.ref D) (upd H D (.lst acc))) ∨
      ((Itr lo n).go i H ∧ acc.length < sizeLine ∧ ∃ N : List V → L2.St → Hp → Prop, (∀ acc' σ' H', N acc' σ' H' → ∃ m', m' < m ∧ W (i + 1) m' acc' σ' H') ∧
        ∀ x H', (Itr lo n).yld i H x H' → g x σ H' fun σ2 H2 => tt σ2 H2 fun b H3 => if b = true then te σ2 H3 fun y H4 => N (acc ++ [y]) σ2 H4 else N acc σ2 H3) := by
  refine ⟨fun i m acc σ H => m = n - i ∧ i ≤ n ∧ Pv i acc σ H, ⟨n, by simp, Nat.zero_le _, h0⟩, ?_⟩
  rintro i m acc σ H ⟨rfl, hi, p⟩
  have ha := hacc i acc σ H p
  by_cases hlt : i < n
  · refine .inr ⟨hlt, by omega, Pv (i + 1), fun acc' σ' H' p' => ⟨n - (i + 1), by omega, rfl, hlt, p'⟩, fun x H' y => ?_⟩
    obtain ⟨e, y⟩ := y
    subst e y
    exact hs i acc σ _ hlt p
  · have e : i = n := by omega
    subst e
    exact .inl ⟨Nat.le_refl _, hd acc σ H p⟩
def capB (XN : List Str) (scope : Scope) : List Str → List (Option Nat) → Bool
  | _, [] => true
  | [], _ => true
  | _ :: r, none :: s => capB XN scope r s
  | x :: r, some j :: s => decide (XN[j]? = some x) && decide (scope.names.lookup x = some .free) && capB XN scope r s
theorem capB_ok {XN : List Str} {scope : Scope} : ∀ {N : List Str} {ix : List (Option Nat)}, capB XN scope N ix = true → ∀ (i j : Nat) (x : Str), ix[i]? = some (some j) → N[i]? = some x → XN[j]? = some x ∧ scope.names.lookup x = some .free
  | [], [], _, i, j, x, h1, _ => by simp at h1
  | _ :: _, [], _, i, j, x, h1, _ => by simp at h1
  | [], _ :: _, _, i, j, x, _, h2 => by simp at h2
  | y :: r, none :: s, h, i, j, x, h1, h2 => by
    cases i with
    | zero => simp at h1
    | succ i => exact capB_ok (N := r) (ix := s) h i j x (by simpa using h1) (by simpa using h2)
  | y :: r, some k :: s, h, i, j, x, h1, h2 => by
    have h' : (decide (XN[k]? = some y) && decide (scope.names.lookup y = some .free) && capB XN scope r s) = true := h
    rw [Bool.and_eq_true, Bool.and_eq_true, decide_eq_true_eq, decide_eq_true_eq] at h'
    cases i with
    | zero =>
      simp at h1 h2
      subst h1 h2
      exact h'.1
    | succ i => exact capB_ok h'.2 i j x (by simpa using h1) (by simpa using h2)
def compOk (XN : List Str) (sc scope : Scope) (N : List Str) (ix : List (Option Nat)) : Bool :=
  decide (scope.kind = .function) && decide (∀ y ∈ scope.names, y.2 ≠ .cell) && decide (∀ y ∈ scope.names, y.2 = .local → scope.names.lookup y.1 = some .local) &&
    decide (∀ y ∈ scope.names, y.2 = .free → sc.names.lookup y.1 = some .cell ∨ sc.names.lookup y.1 = some .free) && decide (ix.length = N.length) && capB XN scope N ix
section
variable {X : Cx}
theorem pe_compB {elt iter tg : Expr} {ifs : List Expr} {scope : Scope} {pos : Pos} {wi : TI} {g : TG} {tt : TT} {te : TE} (N : List Str) (ix : List (Option Nat)) (hc : X.calm = true) (hk : compOk X.N X.env.scope scope N ix = true) (hi : PI X tg iter wi)
    (hb : ∀ cl C s H fp, PG (blk X N scope cl C s H fp) tg g ∧ PTs (blk X N scope cl C s H fp) ifs tt ∧ PE (blk X N scope cl C s H fp) elt te)
    (hs : ∀ x, foldedSetIterable iter X.env x = pure x := by intro _; rfl) : PE X (.ListComp elt [⟨tg, iter, ifs, 0⟩] scope pos) (tComp wi ix g tt te) := by
  unfold compOk at hk
  simp only [Bool.and_eq_true, decide_eq_true_eq] at hk
  obtain ⟨⟨⟨⟨⟨h1, h2⟩, h3⟩, h4⟩, h5⟩, h6⟩ := hk
  exact pe_comp N ix hc h1 h2 h3 h4 h5 (capB_ok h6) hi hb hs
theorem ps_compB {i : Nat} {y : Str} {elt iter tg : Expr} {ifs : List Expr} {scope : Scope} {pos py spos : Pos} {wi : TI} {g : TG} {tt : TT} {te : TE} (N : List Str) (ix : List (Option Nat)) (hc : X.calm = true) (hk : compOk X.N X.env.scope scope N ix = true)
    (hN : X.N.Nodup) (hin : X.N[i]? = some y) (hy : X.env.scope.names.lookup y = some .local) (hi : PI X tg iter wi)
    (hb : ∀ cl C s H fp, PG (blk X N scope cl C s H fp) tg g ∧ PTs (blk X N scope cl C s H fp) ifs tt ∧ PE (blk X N scope cl C s H fp) elt te)
    (hsw : swapsWith (.ListComp elt [⟨tg, iter, ifs, 0⟩] scope pos) (some (.Name y py)) spos.line X.env = pure true := by rfl)
    (hs : ∀ x, foldedSetIterable iter X.env x = pure x := by intro _; rfl) : PS X (.Assign [.Name y py] (.ListComp elt [⟨tg, iter, ifs, 0⟩] scope pos) spos) (tAsg (tComp wi ix g tt te) (gName i)) := by
  unfold compOk at hk
  simp only [Bool.and_eq_true, decide_eq_true_eq] at hk
  obtain ⟨⟨⟨⟨⟨h1, h2⟩, h3⟩, h4⟩, h5⟩, h6⟩ := hk
  exact ps_comp N ix hc h1 h2 h3 h4 h5 (capB_ok h6) hN hin hy hi hb hsw hs
end
end Bw
set_option Elab.async false
set_option linter.all false
set_option maxRecDepth 100000
set_option maxHeartbeats 1000000
namespace Bw
open PySem PySem.Spec PyProof.Rows L2
section
variable {X : Cx}
def rSlS : V → Option Int → Option Int → Hp → VK → Prop := fun x lo hi H Q => ∃ u, x = .str u ∧ u.length ≤ sizeLine ∧ Q (.str (Txt.slice u lo hi)) H
end
end Bw
set_option Elab.async false
set_option linter.all false
set_option maxRecDepth 100000
set_option maxHeartbeats 1000000
namespace Bw
open PySem PySem.Spec PyProof.Rows L2
section
variable {K : PySem.W.Frag} {ta te : TE} {tr : TA} {wi : TI} {ix : List (Option Nat)} {g : TG} {tt : TT} {σ : L2.St} {H : Hp} {Q : VK} {QB : Bool → Hp → Prop}
def CompL (K : PySem.W.Frag) (a : Addr) (g : TG) (tt : TT) (te : TE) (Q : VK) (σ : L2.St) (H : Hp) : Prop := ∃ W : Nat → Nat → List V → L2.St → Hp → Prop, (∃ m, W 0 m [] σ H) ∧ ∀ i m acc σ H, W i m acc σ H →
  ((Itl K a).stop i H ∧ ∀ D, H D = none → Q (.ref D) (L2.upd H D (.lst acc))) ∨
  ((Itl K a).go i H ∧ acc.length < sizeLine ∧ ∃ N : List V → L2.St → Hp → Prop, (∀ acc' σ' H', N acc' σ' H' → ∃ m', m' < m ∧ W (i + 1) m' acc' σ' H') ∧
    ∀ x H', (Itl K a).yld i H x H' → g x σ H' fun σ2 H2 => tt σ2 H2 fun b H3 => if b = true then te σ2 H3 fun y H4 => N (acc ++ [y]) σ2 H4 else N acc σ2 H3)
def CompR (lo : Int) (n : Nat) (g : TG) (tt : TT) (te : TE) (Q : VK) (σ : L2.St) (H : Hp) : Prop := ∃ W : Nat → Nat → List V → L2.St → Hp → Prop, (∃ m, W 0 m [] σ H) ∧ ∀ i m acc σ H, W i m acc σ H →
  ((Itr lo n).stop i H ∧ ∀ D, H D = none → Q (.ref D) (L2.upd H D (.lst acc))) ∨
  ((Itr lo n).go i H ∧ acc.length < sizeLine ∧ ∃ N : List V → L2.St → Hp → Prop, (∀ acc' σ' H', N acc' σ' H' → ∃ m', m' < m ∧ W (i + 1) m' acc' σ' H') ∧
    ∀ x H', (Itr lo n).yld i H x H' → g x σ H' fun σ2 H2 => tt σ2 H2 fun b H3 => if b = true then te σ2 H3 fun y H4 => N (acc ++ [y]) σ2 H4 else N acc σ2 H3)
theorem w_compL : tComp (iList K ta) ix g tt te σ H Q = ta σ H (fun x H1 => ∃ a, x = .ref a ∧ (∃ xs, SqL K H1 a xs) ∧ CompL K a g tt te Q (pick ix σ) H1) := rfl
theorem w_comp1 : tComp (iRng1 tr) ix g tt te σ H Q = tr σ H (fun vs H1 => ∃ j : Int, vs = [.int j] ∧ -(2 ^ 62) ≤ j ∧ j < 2 ^ 62 ∧ CompR 0 j.toNat g tt te Q (pick ix σ) H1) := rfl
theorem w_comp2 : tComp (iRng2 tr) ix g tt te σ H Q = tr σ H (fun vs H1 => ∃ i j : Int, vs = [.int i, .int j] ∧ (-(2 ^ 62) ≤ i ∧ i < 2 ^ 62 ∧ -(2 ^ 62) ≤ j ∧ j < 2 ^ 62) ∧ CompR i (j - i).toNat g tt te Q (pick ix σ) H1) := rfl
theorem w_yes : tYes σ H QB = QB true H := rfl
theorem w_pick0 : pick [] σ = [] := rfl
theorem w_pickN : pick (none :: ix) σ = none :: pick ix σ := rfl
theorem w_pickS {j : Nat} : pick (some j :: ix) σ = ((σ[j]?).getD none) :: pick ix σ := rfl
theorem w_bm {T : String} {r : V → List V → Hp → VK → Prop} : tBM K T r ta tr σ H Q = ta σ H (fun x H1 => tyV K T x H1 ∧ tr σ H1 (fun xs H2 => r x xs H2 Q)) := rfl
theorem w_bm0 {T : String} {r : V → List V → Hp → VK → Prop} : tBM0 K T r ta σ H Q = ta σ H (fun x H1 => tyV K T x H1 ∧ r x [] H1 Q) := rfl
theorem w_tyS {u : Str} : tyV K "str" (.str u) H = True := by simp [tyV]
theorem w_addS {u v : Str} : (∃ i j, V.str u = .str i ∧ V.str v = .str j ∧ i.length + j.length ≤ sizeLine ∧ Q (.str (i ++ j)) H) = (u.length + v.length ≤ sizeLine ∧ Q (.str (u ++ v)) H) := by simp
theorem w_slS {u : Str} {lo hi : Option Int} : rSlS (.str u) lo hi H Q = (u.length ≤ sizeLine ∧ Q (.str (Txt.slice u lo hi)) H) := by simp [rSlS]
theorem w_blkK {X : Cx} {N : List Str} {scope : Scope} {cl : List (Str × Addr)} {C : Addr} {s : Shared} {fp : List Addr} : (blk X N scope cl C s H fp).K = X.K := rfl
theorem CompL.by {a : Addr} {xs : List V} (Pv : Nat → List V → L2.St → Hp → Prop) (hz : xs.length ≤ sizeLine) (h0 : Pv 0 [] σ H) (hl : ∀ i acc σ H, i ≤ xs.length → Pv i acc σ H → SqL K H a xs)
    (hs : ∀ i x acc σ H, xs[i]? = some x → Pv i acc σ H → g x σ H fun σ2 H2 => tt σ2 H2 fun b H3 => if b = true then te σ2 H3 fun y H4 => Pv (i + 1) (acc ++ [y]) σ2 H4 else Pv (i + 1) acc σ2 H3)
    (hacc : ∀ i acc σ H, Pv i acc σ H → acc.length ≤ i) (hd : ∀ acc σ H, Pv xs.length acc σ H → ∀ D, H D = none → Q (.ref D) (L2.upd H D (.lst acc))) : CompL K a g tt te Q σ H := comp_list Pv hz h0 hl hs hacc hd
theorem CompR.by {lo : Int} {n : Nat} (Pv : Nat → List V → L2.St → Hp → Prop) (hz : n ≤ sizeLine) (h0 : Pv 0 [] σ H)
    (hs : ∀ i acc σ H, i < n → Pv i acc σ H → g (.int (lo + i)) σ H fun σ2 H2 => tt σ2 H2 fun b H3 => if b = true then te σ2 H3 fun y H4 => Pv (i + 1) (acc ++ [y]) σ2 H4 else Pv (i + 1) acc σ2 H3)
    (hacc : ∀ i acc σ H, Pv i acc σ H → acc.length ≤ i) (hd : ∀ acc σ H, Pv n acc σ H → ∀ D, H D = none → Q (.ref D) (L2.upd H D (.lst acc))) : CompR lo n g tt te Q σ H := comp_range Pv hz h0 hs hacc hd
end
theorem gl_of {X : Cx} {x : Str} (h : X.env.kindOf x = some .globalImplicit) : Gl X x := h
def tStrs (xs : List Str) : TA := fun _ H Q => Q (xs.map V.str) H
theorem w_strs {xs : List Str} {σ : L2.St} {H : Hp} {Q : List V → Hp → Prop} : tStrs xs σ H Q = Q (xs.map V.str) H := rfl
def Well3 (H : Hp) (w : Addr) : Prop := ∃ a b c : Int, H w = some (.lst [.int a, .int b, .int c])
theorem Well3.same {H H' : Hp} {w : Addr} (W : Well3 H w) (s : Same H H') : Well3 H' w := by
  obtain ⟨a, b, c, h⟩ := W
  exact ⟨a, b, c, s _ _ h⟩
theorem Well3.ne {H : Hp} {w p : Addr} (W : Well3 H w) (h : H p = none) : p ≠ w := by
  obtain ⟨a, b, c, e⟩ := W
  exact (ne_of_none e h).symm
def goodN (u : Str) : Prop := 1 ≤ u.length ∧ u.length ≤ 8 ∧ ∀ c ∈ u.cps.toList, 97 ≤ c ∧ c ≤ 122
instance (u : Str) : Decidable (goodN u) := by unfold goodN; infer_instance
def letters : Str := "abcdefghijklmnopqrstuvwxyz"
end Bw
set_option Elab.async false
set_option linter.all false
set_option maxRecDepth 100000
set_option maxHeartbeats 1000000
namespace Bw
open PySem PySem.Spec PyProof.Rows L2
structure CalC (P : Program) (w : World) (K : PySem.W.Frag) (mg : Str → Option Value) (base : Heap) (x : Str) (C : Addr) (ps : List Str) (k : Nat) (sp : Sp) : Prop where
  ex : ∃ f fd, FnOk P w K mg base (CXF P w) k f fd ps sp ∧ Binds K fd ps [] ∧ Mk K C f ∧ mg x = some (.ref C)
structure CalM (P : Program) (w : World) (K : PySem.W.Frag) (mg : Str → Option Value) (base : Heap) (C : Addr) (m : Str) (ps : List Str) (k : Nat) (sp : Sp) : Prop where
  ex : ∃ f fd, FnOk P w K mg base (CXF P w) k f fd ps sp ∧ Binds K fd ps [] ∧ Meth K C m f ∧ Cls K C
section
variable {X : Cx} {x m : Str} {C : Addr} {ps : List Str} {k : Nat} {sp : Sp} {e o : Expr} {es : List Expr} {ta : TE} {t : TA} {p pos apos : Pos} {E : XK}
theorem pe_mak (c : CalC X.prog X.w X.K X.mg X.base x C ps k sp) (hx : Passes (CXF X.prog X.w) X E) (hr : Room (k + 1) X.A) (hg : Gl X x) (ha : PA X (e :: es) t)
    (hdb : (x == ("__debug__" : Str)) = false := by decide) (he : starEach (e :: es) X.env = (false, eval e X.env) :: starEach es X.env := by rfl) (hpl : (backTo pos (starEach es X.env)).any (·.1) = false := by rfl) :
    PE X (.Call (.Name x p) (e :: es) [] pos) (tMake C sp [] E t) := by
  obtain ⟨f, fd, F, b, M, hm⟩ := c.ex
  exact pe_make M F hr hg hm b .nil hx ha hdb he hpl
def tMethD (Mm : Addr → Sp → Prop) (m : Str) (E : XK) (ta : TE) (t : TA) : TE := fun σ H Q => ta σ H fun x H1 => ∃ a C dx fs sp, x = .ref a ∧ H1 a = some (.ins C dx fs) ∧ fs.lookup m = none ∧ Mm C sp ∧
  t σ H1 fun vs H2 => sp (x :: vs) H2 Q E
theorem w_methD {Mm : Addr → Sp → Prop} {σ : L2.St} {H : Hp} {Q : VK} : tMethD Mm m E ta t σ H Q = ta σ H (fun x H1 => ∃ a C dx fs sp, x = .ref a ∧ H1 a = some (.ins C dx fs) ∧ fs.lookup m = none ∧ Mm C sp ∧
  t σ H1 fun vs H2 => sp (x :: vs) H2 Q E) := rfl
structure MkN (K : PySem.W.Frag) (C : Addr) : Prop where
  makes : PySem.W.makesIn K C = true
  init : PySem.W.findIn K (.ref C) "__init__" = some (some (.builtin "object.__init__"))
  kp : PySem.W.keepIn K (.ref C) = true
def tMakeN (C : Addr) : TE := fun _ H Q => ∀ x dx, H x = none → H dx = none → dx ≠ x → Q (.ref x) (L2.upd (L2.upd H dx (.own x)) x (.ins C dx []))
theorem w_makeN {σ : L2.St} {H : Hp} {Q : VK} : tMakeN C σ H Q = ∀ x dx, H x = none → H dx = none → dx ≠ x → Q (.ref x) (L2.upd (L2.upd H dx (.own x)) x (.ins C dx [])) := rfl
theorem pe_makN (M : MkN X.K C) (hg : Gl X x) (hm : X.mg x = some (.ref C)) (hdb : (x == ("__debug__" : Str)) = false := by decide) : PE X (.Call (.Name x p) [] [] pos) (tMakeN C) := by
  intro pins s σ H Q I h
  refine wpAny_Call_Name_kw (ld_glob I hg hm ?_ hdb)
  refine PySem.W.callWith_K0 I.kIn M.kp ?_
  have hq := h (s.heap.objs.size + 1) s.heap.objs.size (I.hok.fresh (Nat.le_succ _)) (I.hok.fresh (Nat.le_refl _)) (Nat.ne_of_lt (Nat.lt_succ_self _))
  have I2 := Inv.made (C := C) I
  have Y := PySem.W.makes_of (M := model X.prog X.w) I.kIn M.makes
  refine wpAny_call (make_map0 I.kIn M.makes M.init (fun self => PySem.W.Looks.of_pure (PySem.W.oi_bind self)) ?_)
  obtain ⟨hh, g, d, tt, os⟩ := s
  have t1 : PySem.W.Looks (model X.prog X.w) ((hh.push PySem.W.emptyDict).push (PySem.W.instObj C hh.objs.size)) (typeOf (.ref (hh.objs.size + 1))) (.ref C) := by
    obtain ⟨mA, O, _⟩ := ins_get (a := hh.objs.size + 1) (C := C) (dx := hh.objs.size) (fs := []) I2.hok upd_same
    obtain ⟨od, J, _⟩ := O.look
    exact J.type
  have t2 : PySem.W.Looks (model X.prog X.w) ((hh.push PySem.W.emptyDict).push (PySem.W.instObj C hh.objs.size)) (isInstance (.ref (hh.objs.size + 1)) (.type "object")) true :=
    t1.andThen (Y.top.keeps fun b o e => Heap.get?_push_of_some _ (Heap.get?_push_of_some _ e))
  refine codeAny_call_builtin PySem.W.oi_plain PySem.W.entry_oi (@PySem.W.check_slot (model X.prog X.w) _ _ _ "object.__init__" "object" "__init__" (.ref (hh.objs.size + 1)) [] [] _ PySem.W.oi_kind PySem.W.oi_split t2 (PySem.W.oi_args (.ref (hh.objs.size + 1))) ?_)
  rw [PySem.W.oi_run]
  exact wpAny_pure (And.intro rfl ⟨V.ref (hh.objs.size + 1), _, I2, rfl, hq⟩)
end
def rIsiV (K : PySem.W.Frag) : List V → Hp → VK → Prop := fun xs H Q => ∃ (x : V) (c : Addr) (t : Value) (b : Bool), xs = [x, .ref c] ∧ TyOf K H x t ∧ PySem.W.kitOne K t (.ref c) = some b ∧ Q (.bl b) H
theorem call_isiV {X : Cx} : CallR X (.builtin "isinstance") (rIsiV X.K) := by
  intro pins s σ H xs us Q I r h
  obtain ⟨x, c, t, b, rfl, ty, e, q⟩ := h
  obtain ⟨u, w', rfl, rx, rc⟩ := vals2 r
  cases (show w' = Value.ref c from rc)
  exact isinst_ok I rx ty e fun tk => ⟨.bl b, H, I.tok _, rfl, q⟩
section
variable {X : Cx}
end
section
variable {K : PySem.W.Frag} {C : Addr} {sp : Sp} {dvs : List V} {E : XK} {ta tv : TE} {t : TA} {f : Str} {σ : L2.St} {H : Hp} {Q : VK} {D : Ends} {n : Nat} {ts : TGs} {v : V} {QS : L2.St → Hp → Prop} {g : TG}
theorem w_make : tMake C sp dvs E t σ H Q = t σ H (fun vs H1 => ∀ x dx, H1 x = none → H1 dx = none → dx ≠ x →
  sp (.ref x :: (vs ++ dvs)) (L2.upd (L2.upd H1 dx (.own x)) x (.ins C dx [])) (fun v H2 => v = .non ∧ Q (.ref x) H2) E) := rfl
theorem w_fld : tFld K ta f σ H Q = ta σ H (fun x H1 => ∃ a C dx fs v, x = .ref a ∧ H1 a = some (.ins C dx fs) ∧ Cls K C ∧ NoAttr K C f ∧ fs.lookup f = some v ∧ Q v H1) := rfl
theorem w_gTup : gTup K n ts v σ H QS = ∃ a xs, v = .ref a ∧ SqT K H a xs ∧ xs.length = n ∧ ts xs σ H QS := rfl
theorem w_gCons {vs : List V} : gCons g ts vs σ H QS = ∃ v r, vs = v :: r ∧ g v σ H (fun σ' H' => ts r σ' H' QS) := rfl
theorem w_sFld : sFld K ta tv f D σ H = tv σ H (fun y H1 => ta σ H1 (fun x H2 => ∃ a C dx fs, x = .ref a ∧ H2 a = some (.ins C dx fs) ∧ Cls K C ∧ NoAttr K C f ∧ fs.length < 1000 ∧
  D.nx σ (L2.upd H2 a (.ins C dx (putF f y fs))))) := rfl
theorem w_gNil {vs : List V} : gNil vs σ H QS = (vs = [] ∧ QS σ H) := rfl
end
end Bw
namespace Bw
open PySem PySem.Spec PyProof.Rows L2
section
variable {X : Cx} {x : Str} {ps : List Str} {k : Nat} {sp : Sp} {p pos : Pos}
end
theorem made_same {H : Hp} {x dx : Addr} {o o' : HO} (hx : H x = none) (hd : H dx = none) : Same H (L2.upd (L2.upd H dx o) x o') := fun b u q => by
  rw [upd_ne (ne_of_none q hx), upd_ne (ne_of_none q hd)]
  exact q
structure ClsK (K : PySem.W.Frag) (C : Addr) : Prop where
  cl : Cls K C
  ha : PySem.W.findIn K (.ref C) "__class__" = some (some (.builtin "object.__class__"))
  hn : PySem.W.specialIn K (.builtin "object.__class__") "__get__" = some (some (.builtin "getset_descriptor.__get__"))
  ht : PySem.W.takesIn K (.builtin "object.__class__") = some true
  hm : PySem.W.mroIn K C (.type "object") = some true
theorem ClsK.ty {K : PySem.W.Frag} {C : Addr} (c : ClsK K C) {H : Hp} {a dx : Addr} {fs : List (Str × V)} (e : H a = some (.ins C dx fs)) : TyOf K H (.ref a) (.ref C) := .ins e c.cl c.ha c.hn c.ht c.hm
theorem isiV_at {X : Cx} {K : PySem.W.Frag} (hK : X.K = K) : CallR X (.builtin "isinstance") (rIsiV K) := by
  subst hK
  exact call_isiV
end Bw
set_option Elab.async false
set_option linter.all false
set_option maxRecDepth 100000
set_option maxHeartbeats 1000000
namespace Bw
open PySem PySem.Spec PyProof.Rows L2
def isStar : Expr → Bool
  | .Starred _ _ => true
  | _ => false
theorem star_plain : ∀ (e : Expr) (es : List Expr) (env : Env), isStar e = false → starEach (e :: es) env = (false, eval e env) :: starEach es env := by
  intro e es env h
  cases e <;> first | rfl | (cases h)
def noStar : List Expr → Bool
  | [] => true
  | e :: r => !isStar e && noStar r
theorem plain_any {pos : Pos} {env : Env} : ∀ {es : List Expr}, noStar es = true → (backTo pos (starEach es env)).any (·.1) = false
  | [], _ => rfl
  | e :: r, h => by
    have h' : (!isStar e) = true ∧ noStar r = true := by simpa [noStar] using h
    rw [star_plain e r env (by simpa using h'.1)]
    have ih := plain_any (pos := pos) (env := env) h'.2
    have e1 : backTo pos ((false, eval e env) :: starEach r env) = (false, eval e env) :: backTo pos (starEach r env) := rfl
    rw [e1, List.any_cons, ih]
    rfl
theorem pa_c {X : Cx} {e : Expr} {es : List Expr} {te : TE} {t : TA} (ha : PE X e te) (hr : PA X es t) (hs : isStar e = false := by rfl) : PA X (e :: es) (tCons te t) := pa_cons ha hr (star_plain e es X.env hs)
structure QA (X : Cx) (es : List Expr) (t : TA) : Prop where
  h : PA X es t
theorem qa_nil {X : Cx} : QA X [] tNil := ⟨pa_nil⟩
theorem qa_c {X : Cx} {e : Expr} {es : List Expr} {te : TE} {t : TA} (ha : PE X e te) (hr : QA X es t) (hs : isStar e = false := by rfl) : QA X (e :: es) (tCons te t) := ⟨pa_c ha hr.h hs⟩
theorem pa_of {X : Cx} {es : List Expr} {t : TA} (h : QA X es t) : PA X es t := h.h
end Bw
set_option Elab.async false
set_option linter.all false
set_option maxRecDepth 100000
set_option maxHeartbeats 1000000
namespace Bw
open PySem PySem.Spec PyProof.Rows L2
def wholeV : V → Bool
  | .int _ => true
  | _ => false
def betwV (x : V) (lo hi : Int) : Bool := match x with
  | .int i => decide (lo ≤ i) && decide (i ≤ hi)
  | _ => false
def fromV (x : V) (lo : Int) : Bool := match x with
  | .int i => decide (lo ≤ i)
  | _ => false
theorem betw_of {x : V} {lo hi : Int} (h : betwV x lo hi = true) : ∃ i, x = .int i ∧ lo ≤ i ∧ i ≤ hi := by
  cases x with
  | int i =>
    simp only [betwV, Bool.and_eq_true, decide_eq_true_eq] at h
    exact ⟨i, rfl, h⟩
  | _ => exact absurd (show false = true from h) Bool.false_ne_true
theorem betw_int {i lo hi : Int} (h0 : lo ≤ i) (h1 : i ≤ hi) : betwV (.int i) lo hi = true := by
  simp only [betwV, Bool.and_eq_true, decide_eq_true_eq]
  exact ⟨h0, h1⟩
theorem okV.same {H H' : Hp} {x : V} (h : okV H x) (s : Same H H') : okV H' x := by
  cases x with
  | ref a =>
    rcases h with ⟨xs, e⟩ | ⟨xs, e⟩
    · exact .inl ⟨xs, s _ _ e⟩
    · exact .inr ⟨xs, s _ _ e⟩
  | non => trivial
  | bl _ => trivial
  | int _ => trivial
  | str _ => trivial
  | _ => exact h.elim
theorem okV.but3 {H H' : Hp} {x : V} {w : Addr} (h : okV H x) (W : Well3 H' w) (s : But w H H') : okV H' x := by
  cases x with
  | ref a =>
    by_cases ha : a = w
    · obtain ⟨b, c, d, q⟩ := W
      exact .inl ⟨_, by rw [ha]; exact q⟩
    · rcases h with ⟨xs, e⟩ | ⟨xs, e⟩
      · exact .inl ⟨xs, s _ _ ha e⟩
      · exact .inr ⟨xs, s _ _ ha e⟩
  | non => trivial
  | bl _ => trivial
  | int _ => trivial
  | str _ => trivial
  | _ => exact h.elim
theorem okV.lst {H : Hp} {p : Addr} {xs : List V} (h : H p = some (.lst xs)) : okV H (.ref p) := .inl ⟨_, h⟩
theorem okV.tup {H : Hp} {p : Addr} {xs : List V} (h : H p = some (.tup xs)) : okV H (.ref p) := .inr ⟨_, h⟩
def tCut (t u : TS) : TS := fun D σ H => ∃ M : L2.St → Hp → Prop, t { D with nx := M } σ H ∧ ∀ σ' H', M σ' H' → u D σ' H'
theorem w_cut {t u : TS} {D : Ends} {σ : L2.St} {H : Hp} : tCut t u D σ H = ∃ M : L2.St → Hp → Prop, t { D with nx := M } σ H ∧ ∀ σ' H', M σ' H' → u D σ' H' := rfl
theorem pss_cut {X : Cx} {st : Stmt} {rest : List Stmt} {t u : TS} (h1 : PS X st t) (h2 : PSs X rest u) : PSs X (st :: rest) (tCut t u) := by
  intro pins s σ H D I h
  obtain ⟨M, ha, hb⟩ := h
  refine wpAny_execs_cons (thn (h1 pins s σ H { D with nx := M } I ha) fun f s1 q => ?_)
  cases f with
  | next =>
    obtain ⟨σ', H', I', q⟩ := q
    exact h2 pins s1 σ' H' D I' (hb _ _ q)
  | ret v => exact q
  | brk => exact q
  | cont => exact q
end Bw
set_option Elab.async false
set_option linter.all false
set_option maxRecDepth 100000
set_option maxHeartbeats 1000000
namespace Bw
open PySem PySem.Spec PyProof.Rows L2
def plainS (u : Str) : Bool := u.cps.all (· < 128)
def Its (u : Str) : It := ⟨fun i _ => i < u.cps.size, fun i H x H' => H' = H ∧ ∃ c, u.cps[i]? = some c ∧ x = .str ⟨#[c]⟩, fun i _ => u.cps.size ≤ i⟩
theorem turn_str {P : Program} {w : World} {K : PySem.W.Frag} {tg : Expr} (u : Str) (t : Tok) (it : Addr) : Turn P w K tg (Its u) [it] it (fun i h => h.IsStrIter it "str_ascii_iterator" u t i) where
  mem := by simp
  obj := fun i h st b hb => by
    have e : b = it := by simpa using hb
    subst e
    obtain ⟨o, e, c, d⟩ := st
    exact ⟨o, e, fun v z => by rw [d] at z; cases z⟩
  keep := fun i h h' st k => by
    obtain ⟨o, e, c, d⟩ := st
    exact ⟨o, k it (by simp) o e, c, d⟩
  item := by
    intro X hP hw hK hc i pins s σ H E I hf st hg
    subst hP hw hK
    have hx : u.cps[i]? = some u.cps[i] := Array.getElem?_eq_getElem hg
    obtain ⟨f0, f1, f2, f3, f4, f5⟩ := hf it (by simp)
    refine wpAny_pyNext_ascii_item st hx fun h' st' sb => ?_
    have I1 : Inv X pins σ H { s with heap := h', toks := s.toks + 1 } := I.turned (t' := s.toks + 1) (fun b o hb e => (sb.2 b hb).trans e) f0 f1 f3 f4 f5
    obtain ⟨o, e, c, d⟩ := id st'
    exact ⟨_, rfl, go_of (s := { s with heap := h', toks := s.toks + 1 }) e c d (by decide) ⟨.str ⟨#[u.cps[i]]⟩, H, I1, ⟨_, rfl⟩, ⟨rfl, _, hx, rfl⟩, st', fun b hb => (hf b hb).1⟩⟩
  done := by
    intro X hP hw hK hc i pins s σ H E I hf st hg
    subst hP hw hK
    obtain ⟨f0, f1, f2, f3, f4, f5⟩ := hf it (by simp)
    exact wpAny_pyNext_ascii_end (I.ok.hd hc) st (Array.getElem?_eq_none hg) fun h' eb => ⟨rfl, I.turned (t' := s.toks) (fun b o hb e => eb b o hb e) f0 f1 f3 f4 f5⟩
  self := fun _ _ _ _ _ st h => wpAny_pyIter_striter_ascii st h
def iStr (tl : TE) : TI := fun σ H R => tl σ H fun x H1 => ∃ u, x = .str u ∧ plainS u = true ∧ R (Its u) H1
theorem pi_str {X : Cx} {tg l : Expr} {tl : TE} (hl : PE X l tl) : PI X tg l (iStr tl) := by
  intro pins s σ H R I h
  refine thn (hl pins s σ H _ I h) fun v s1 ⟨x, H1, I1, r1, q1⟩ => ?_
  obtain ⟨u, e, hp, q⟩ := q1
  subst e
  obtain ⟨t, rfl⟩ := r1
  refine wpAny_pyIter_ascii hp ?_
  refine ⟨s1.heap.objs.size, [s1.heap.objs.size], _, _, H1, rfl, I1.kept (t' := s1.toks) fun b o e => Heap.get?_push_of_some _ e, turn_str u t _, ⟨_, Heap.get?_push_size _ rfl, rfl, rfl⟩, fun b hb => ?_, q⟩
  have e : b = s1.heap.objs.size := by simpa using hb
  subst e
  exact I1.fpOk (Nat.le_refl _) (I1.hok.fresh (Nat.le_refl _))
section
variable {K : PySem.W.Frag} {ta te : TE} {ix : List (Option Nat)} {g : TG} {tt : TT} {σ : L2.St} {H : Hp} {Q : VK}
def CompS (u : Str) (g : TG) (tt : TT) (te : TE) (Q : VK) (σ : L2.St) (H : Hp) : Prop := ∃ W : Nat → Nat → List V → L2.St → Hp → Prop, (∃ m, W 0 m [] σ H) ∧ ∀ i m acc σ H, W i m acc σ H →
  ((Its u).stop i H ∧ ∀ D, H D = none → Q (.ref D) (L2.upd H D (.lst acc))) ∨
  ((Its u).go i H ∧ acc.length < sizeLine ∧ ∃ N : List V → L2.St → Hp → Prop, (∀ acc' σ' H', N acc' σ' H' → ∃ m', m' < m ∧ W (i + 1) m' acc' σ' H') ∧
    ∀ x H', (Its u).yld i H x H' → g x σ H' fun σ2 H2 => tt σ2 H2 fun b H3 => if b = true then te σ2 H3 fun y H4 => N (acc ++ [y]) σ2 H4 else N acc σ2 H3)
theorem w_compS : tComp (iStr ta) ix g tt te σ H Q = ta σ H (fun x H1 => ∃ u, x = .str u ∧ plainS u = true ∧ CompS u g tt te Q (pick ix σ) H1) := rfl
theorem CompS.by {u : Str} (Pv : Nat → List V → L2.St → Hp → Prop) (hz : u.cps.size ≤ sizeLine) (h0 : Pv 0 [] σ H)
    (hs : ∀ i c acc σ H, u.cps[i]? = some c → Pv i acc σ H → g (.str ⟨#[c]⟩) σ H fun σ2 H2 => tt σ2 H2 fun b H3 => if b = true then te σ2 H3 fun y H4 => Pv (i + 1) (acc ++ [y]) σ2 H4 else Pv (i + 1) acc σ2 H3)
    (hacc : ∀ i acc σ H, Pv i acc σ H → acc.length ≤ i) (hd : ∀ acc σ H, Pv u.cps.size acc σ H → ∀ D, H D = none → Q (.ref D) (L2.upd H D (.lst acc))) : CompS u g tt te Q σ H := by
  refine ⟨fun i m acc σ H => m = u.cps.size - i ∧ i ≤ u.cps.size ∧ Pv i acc σ H, ⟨u.cps.size, by simp, Nat.zero_le _, h0⟩, ?_⟩
  rintro i m acc σ H ⟨rfl, hi, p⟩
  have ha := hacc i acc σ H p
  by_cases hlt : i < u.cps.size
  · refine .inr ⟨hlt, by omega, Pv (i + 1), fun acc' σ' H' p' => ⟨u.cps.size - (i + 1), by omega, rfl, hlt, p'⟩, fun x H' y => ?_⟩
    obtain ⟨e, c, hc, y⟩ := y
    subst e y
    exact hs i c acc σ _ hc p
  · have e : i = u.cps.size := by omega
    subst e
    exact .inl ⟨Nat.le_refl _, hd acc σ H p⟩
end
theorem bools_at : ∀ {bs : List Bool} {its : List Value}, Vals (bs.map V.bl) its → ∀ (i : Nat) (v : Value), its[i]? = some v → ∃ b : Bool, bs[i]? = some b ∧ v = Value.bool b
  | [], _, r, i, v, h => by
    rw [List.map_nil] at r
    cases r
    simp at h
  | b :: bs, _, r, i, v, h => by
    rw [List.map_cons] at r
    cases r with
    | cons r1 r2 =>
      cases i with
      | zero =>
        simp at h
        subst h
        exact ⟨b, rfl, r1⟩
      | succ i => exact bools_at r2 i v (by simpa using h)
theorem call_all {X : Cx} (hc : X.calm = true) : CallR X (.builtin "all") (fun xs H Q => ∃ (a : Addr) (bs : List Bool), xs = [.ref a] ∧ SqL X.K H a (bs.map V.bl) ∧ Q (.bl (bs.all id)) H) := by
  intro pins s σ H xs us Q I r h
  obtain ⟨a, bs, rfl, hS, q⟩ := h
  obtain ⟨u, rfl, ru⟩ := vals1 r
  cases ru
  obtain ⟨its, rv, pl, hz⟩ := I.list hS
  have hl : s.heap.IsList a its.toArray := pl.isList
  have hlt : a < s.heap.objs.size := by obtain ⟨_, e, _⟩ := hl; exact Heap.lt_size e
  refine call_all_walk (wpAny_pyIter_list hl ?_)
  refine ⟨s.heap.objs.size, [s.heap.objs.size, a], [s.heap.objs.size], its.toArray.size, _, _, fun i => (bs[i]?).getD true, rfl, Walks.list (A := X.A.in1) (I.ok.hd hc) _ a (Nat.ne_of_lt hlt) its.toArray,
    ⟨⟨_, Heap.get?_push_size _ rfl, rfl, rfl⟩, hl.push _⟩, fun i v s' Q' E' hP hQ => ?_, fun h' tk hk => ?_⟩
  · obtain ⟨b, e, rfl⟩ := bools_at rv i v (by simpa using hP)
    simp only [e, Option.getD_some] at hQ
    exact wpAny_truthy_bool hQ
  · have hn : its.toArray.size = bs.length := by
      have := rv.length
      rw [List.length_map] at this
      simpa using this.symm
    have e : ((List.range its.toArray.size).all fun i => (bs[i]?).getD true) = bs.all id := by
      rw [hn, Bool.eq_iff_iff, List.all_eq_true, List.all_eq_true]
      constructor
      · intro z b hb
        obtain ⟨i, hi, rfl⟩ := List.getElem_of_mem hb
        have := z i (List.mem_range.mpr hi)
        simpa [List.getElem?_eq_getElem hi] using this
      · intro z i hi
        have hi' := List.mem_range.mp hi
        simp only [List.getElem?_eq_getElem hi', Option.getD_some]
        exact z _ (List.getElem_mem hi')
    rw [e]
    refine ⟨.bl _, H, I.kept (t' := tk) fun b o eb => hk b o (fun hm => by rw [List.mem_singleton.mp hm] at eb; exact Nat.lt_irrefl _ (Heap.lt_size eb)) (Heap.get?_push_of_some _ eb), rfl, q⟩
def okN (H : Hp) : V → Prop
  | .non => True
  | .bl _ => True
  | .int _ => True
  | .str u => plainS u = true ∧ u.length ≤ 1000
  | .ref a => (∃ xs, H a = some (.lst xs)) ∨ (∃ xs, H a = some (.tup xs)) ∨ ∃ kvs, H a = some (.dK kvs)
  | _ => False
def isStrV : V → Bool
  | .str _ => true
  | _ => false
theorem okN.ty {K : PySem.W.Frag} {H : Hp} {x : V} (h : okN H x) : ∃ T, TyOf K H x (.type T) ∧ PySem.W.kitOne K (.type T) (.type "str") = some (isStrV x) := by
  cases x with
  | non => exact ⟨_, .non, by kernel_rfl⟩
  | bl b => exact ⟨_, .bl b, by kernel_rfl⟩
  | int i => exact ⟨_, .int i, by kernel_rfl⟩
  | str i => exact ⟨_, .str i, by kernel_rfl⟩
  | ref a =>
    rcases h with ⟨xs, e⟩ | ⟨xs, e⟩ | ⟨xs, e⟩
    · exact ⟨_, .lst e, by kernel_rfl⟩
    · exact ⟨_, .tup e, by kernel_rfl⟩
    · exact ⟨_, .dK e, by kernel_rfl⟩
  | _ => exact h.elim
theorem call_isi_str {X : Cx} : CallR X (.builtin "isinstance") (fun xs H Q => ∃ x, xs = [x, .ty "str"] ∧ okN H x ∧ Q (.bl (isStrV x)) H) := by
  intro pins s σ H xs us Q I r h
  obtain ⟨x, rfl, ok, q⟩ := h
  obtain ⟨T, ty, e⟩ := ok.ty (K := X.K)
  exact isi_gen I r ty e q
theorem okN.same {H H' : Hp} {x : V} (h : okN H x) (s : Same H H') : okN H' x := by
  cases x with
  | ref a =>
    rcases h with ⟨xs, e⟩ | ⟨xs, e⟩ | ⟨xs, e⟩
    · exact .inl ⟨xs, s _ _ e⟩
    · exact .inr (.inl ⟨xs, s _ _ e⟩)
    · exact .inr (.inr ⟨xs, s _ _ e⟩)
  | non => trivial
  | bl _ => trivial
  | int _ => trivial
  | str _ => exact h
  | _ => exact h.elim
theorem okN.but {H H' : Hp} {x : V} {w : Addr} (h : okN H x) (W : Well3 H' w) (s : But w H H') : okN H' x := by
  cases x with
  | ref a =>
    by_cases ha : a = w
    · obtain ⟨b, c, d, q⟩ := W
      exact .inl ⟨_, by rw [ha]; exact q⟩
    · rcases h with ⟨xs, e⟩ | ⟨xs, e⟩ | ⟨xs, e⟩
      · exact .inl ⟨xs, s _ _ ha e⟩
      · exact .inr (.inl ⟨xs, s _ _ ha e⟩)
      · exact .inr (.inr ⟨xs, s _ _ ha e⟩)
  | non => trivial
  | bl _ => trivial
  | int _ => trivial
  | str _ => exact h
  | _ => exact h.elim
def nameB : V → Bool
  | .str u => decide (goodN u)
  | _ => false
theorem in_letters {c : Nat} (h : c < 128) : (!(Builtin.Str.occurrences letters ⟨#[c]⟩ 0 letters.length 1).isEmpty) = decide (97 ≤ c ∧ c ≤ 122) := by
  have q : ∀ k : Fin 128, (!(Builtin.Str.occurrences letters ⟨#[k.val]⟩ 0 letters.length 1).isEmpty) = decide (97 ≤ k.val ∧ k.val ≤ 122) := by decide +kernel
  exact q ⟨c, h⟩
def LetS (u : Str) : Prop := ∀ c ∈ u.cps.toList, 97 ≤ c ∧ c ≤ 122
theorem plain_iff {u : Str} : plainS u = true ↔ ∀ c ∈ u.cps.toList, c < 128 := by
  unfold plainS
  rw [Array.all_eq_true']
  constructor
  · intro h c hc
    have := h c (by simpa using hc)
    simpa using this
  · intro h c hc
    have := h c (by simpa using hc)
    simpa using this
theorem LetS.plain {u : Str} (h : LetS u) : plainS u = true := plain_iff.mpr fun c hc => by have := h c hc; omega
theorem app_toList (u v : Str) : (u ++ v).cps.toList = u.cps.toList ++ v.cps.toList := by
  show (u.cps ++ v.cps).toList = _
  rw [Array.toList_append]
def badC (u : Str) : Prop := ∃ c ∈ u.cps.toList, ¬ (97 ≤ c ∧ c ≤ 122)
instance (u : Str) : Decidable (badC u) := by unfold badC; infer_instance
theorem badC.no {u : Str} (h : badC u) : ¬ goodN u := fun g => by
  obtain ⟨c, hc, n⟩ := h
  exact n (g.2.2 c hc)
theorem badC.l {u : Str} (h : badC u) (v : Str) : badC (u ++ v) := by
  obtain ⟨c, hc, n⟩ := h
  exact ⟨c, by rw [app_toList]; exact List.mem_append.mpr (.inl hc), n⟩
theorem badC.r {v : Str} (h : badC v) (u : Str) : badC (u ++ v) := by
  obtain ⟨c, hc, n⟩ := h
  exact ⟨c, by rw [app_toList]; exact List.mem_append.mpr (.inr hc), n⟩
theorem name_all {u : Str} (h : plainS u = true) : (u.cps.toList.map fun c => !(Builtin.Str.occurrences letters ⟨#[c]⟩ 0 letters.length 1).isEmpty).all id = decide (∀ c ∈ u.cps.toList, 97 ≤ c ∧ c ≤ 122) := by
  rw [Bool.eq_iff_iff, List.all_eq_true, decide_eq_true_eq]
  constructor
  · intro z c hc
    have q := z _ (List.mem_map.mpr ⟨c, hc, rfl⟩)
    rw [in_letters (plain_iff.mp h c hc)] at q
    simpa using q
  · intro z b hb
    obtain ⟨c, hc, rfl⟩ := List.mem_map.mp hb
    rw [in_letters (plain_iff.mp h c hc)]
    simpa using z c hc
section
variable {X : Cx} {x : Str} {C : Addr} {ps : List Str} {k : Nat} {sp : Sp} {e : Expr} {es : List Expr} {t : TA} {p pos : Pos}
variable {K : PySem.W.Frag} {σ : L2.St} {H : Hp} {Q : VK} {D : Ends} {CB : Addr} {i : Nat} {tb : XK → TS} {ts : TS} {E : XK} {dvs : List V}
theorem w_tryB : tTryB K CB i tb ts D σ H = tb (fun cls _ H2 => PySem.W.exmOne K cls (.ref CB) = some true ∧
  ∀ x, H2 x = none → ts { nx := fun σ' H3 => D.nx (σ'.set i none) H3, rt := D.rt, bk := fun σ' H3 => D.bk (σ'.set i none) H3, ct := fun σ' H3 => D.ct (σ'.set i none) H3 } (σ.set i (some (.ref x))) (L2.upd H2 x (hoExc x cls))) D σ H := rfl
theorem w_bmake : tBMake C sp dvs t E σ H Q = t σ H (fun vs H1 => ∀ x dx, H1 x = none → H1 dx = none → dx ≠ x →
  sp (.ref x :: (vs ++ dvs)) (L2.upd (L2.upd H1 dx (.own x)) x (.ins C dx [])) (fun v H2 => v = .non ∧ Q (.ref x) H2) E) := rfl
def tNoKeys : TE := fun _ H0 Q0 => ∀ d, H0 d = none → Q0 (.ref d) (L2.upd H0 d (.dK []))
theorem w_noKeys : tNoKeys σ H Q = ∀ d, H d = none → Q (.ref d) (L2.upd H d (.dK [])) := rfl
theorem pe_noKeys : PE X (.Dict [] [] pos) tNoKeys := by
  intro pins s σ H Q I h
  have hf := I.hok.fresh (Nat.le_refl s.heap.objs.size)
  have ho : ObjOk X.prog X.w H (s.heap.push { cls := .type "dict", data := .dict #[] }) s.heap.objs.size (.dK []) := by
    refine ⟨Nat.zero_le _, ?_, [], .nil, Heap.DictOf.new s.heap⟩
    rw [beq_eq_false_iff_ne]
    have hlt := (I.mod.glob.keeps I.bk).lt
    exact fun z => absurd (Nat.lt_trans (show sysModules < mainGlobals by decide) hlt) (by rw [z]; exact Nat.lt_irrefl _)
  refine wpAny_Dict_empty ⟨.ref s.heap.objs.size, _, ?_, rfl, h _ hf⟩
  exact I.laid (o := .dK []) (t' := s.toks) (fun _ _ q => Heap.get?_push_of_some _ q) (Nat.le_refl _) ho
end
end Bw
set_option Elab.async false
set_option linter.all false
set_option maxRecDepth 100000
set_option maxHeartbeats 1000000
namespace Bw
open PySem PySem.Spec PyProof.Rows L2
structure QE (X : Cx) (e : Expr) (t : TE) : Prop where
  h : PE X e t
structure QS (X : Cx) (st : Stmt) (t : TS) : Prop where
  h : PS X st t
structure QSs (X : Cx) (sts : List Stmt) (t : TS) : Prop where
  h : PSs X sts t
section
variable {X : Cx} {e a b c : Expr} {es : List Expr} {st : Stmt} {rest sa sb : List Stmt} {te ta tb : TE} {tl : TA} {tc : TT} {t u : TS} {pos pos' : Pos} {x : Str} {i : Nat}
theorem qe_of (h : PE X e te) : QE X e te := ⟨h⟩
theorem qs_of (h : PS X st t) : QS X st t := ⟨h⟩
theorem pss_of (h : QSs X rest t) : PSs X rest t := h.h
theorem qe_lst (h : QA X es tl) : QE X (.List es pos) (tLst tl) := ⟨pe_lst h.h⟩
theorem qe_op {op : Operator} {r : R2} (ho : OpR X (binaryOp op) r) (ha : QE X a ta) (hb : QE X b tb) : QE X (.BinOp a op b pos) (tOp r ta tb) := ⟨pe_op ho ha.h hb.h⟩
theorem qe_ix {r : R2} (hr : IxR X r) (ha : QE X a ta) (hb : QE X b tb) (hs : PlainIx b) : QE X (.Subscript a b pos) (tOp r ta tb) := ⟨pe_ix hr ha.h hb.h hs⟩
theorem qs_ret (he : QE X e te) : QS X (.Return (some e) pos) (tRet te) := ⟨ps_ret he.h⟩
theorem qs_set (hN : X.N.Nodup) (hi : X.N[i]? = some x) (hx : Loc X.env.scope x) (he : QE X e te) (hs : swapsWith e (some (.Name x pos')) pos.line X.env = pure false) (hf : X.fn x = true ∨ X.env.scope.names.lookup x = some .local := by first | exact .inl rfl | exact .inr rfl | assumption) :
    QS X (.Assign [.Name x pos'] e pos) (tAsg te (gName i)) := ⟨ps_set hN hi hx he.h hs hf⟩
theorem qs_if (hc : PT X c tc) (ha : QSs X sa t) (hb : QSs X sb u) : QS X (.If c sa sb pos) (tIfS tc t u) := ⟨ps_if hc ha.h hb.h⟩
theorem qss_nil : QSs X [] tNext := ⟨pss_nil⟩
theorem qss_one (h : QS X st t) : QSs X [st] t := ⟨pss_one h.h⟩
theorem qss_cons (h1 : QS X st t) (h2 : QSs X rest u) : QSs X (st :: rest) (tSeq t u) := ⟨pss_cons h1.h h2.h⟩
theorem qss_cut (h1 : QS X st t) (h2 : QSs X rest u) : QSs X (st :: rest) (tCut t u) := ⟨pss_cut h1.h h2.h⟩
theorem qss_of (h : PSs X rest t) : QSs X rest t := ⟨h⟩
end
end Bw
set_option Elab.async false
set_option linter.all false
set_option maxRecDepth 100000
set_option maxHeartbeats 1000000
namespace Bw
open PySem PySem.Spec PyProof.Rows L2
end Bw
set_option Elab.async false
set_option linter.all false
set_option maxRecDepth 100000
set_option maxHeartbeats 1000000
namespace Bw
open PySem PySem.Spec PyProof.Rows L2
mutual
inductive RD (H : Hp) : V → PyData → Prop
  | non : RD H .non .none
  | bl (b : Bool) : RD H (.bl b) (.bool b)
  | int (i : Int) : RD H (.int i) (.int i)
  | str (x : Str) : RD H (.str x) (.str x)
  | lst {p : Addr} {xs : List V} {ds : List PyData} : H p = some (.lst xs) → RDs H xs ds → RD H (.ref p) (.list ds)
  | tup {p : Addr} {xs : List V} {ds : List PyData} : H p = some (.tup xs) → RDs H xs ds → RD H (.ref p) (.tuple ds)
inductive RDs (H : Hp) : List V → List PyData → Prop
  | nil : RDs H [] []
  | cons {v : V} {d : PyData} {vs : List V} {ds : List PyData} : RD H v d → RDs H vs ds → RDs H (v :: vs) (d :: ds)
end
section
variable {X : Cx} {pins : List (Addr × Obj)} {σ : L2.St} {H : Hp} {s : Shared}
mutual
theorem RD.reads (I : Inv X pins σ H s) : ∀ {v : V} {d : PyData}, RD H v d → ∀ {u : Value}, RelV v u → ∃ as, Reads s.heap u d as
  | _, _, .non, u, r => by cases (show u = Value.none from r); exact ⟨_, .none⟩
  | _, _, .bl b, u, r => by cases (show u = Value.bool b from r); exact ⟨_, .bool b⟩
  | _, _, .int i, u, r => by obtain ⟨t, rfl⟩ := (show ∃ t, u = Value.int i t from r); exact ⟨_, .int i t⟩
  | _, _, .str i, u, r => by obtain ⟨t, rfl⟩ := (show ∃ t, u = Value.str i t from r); exact ⟨_, .str i t⟩
  | _, _, .lst h hs, u, r => by
    cases (show u = Value.ref _ from r)
    obtain ⟨its, r1, ⟨o1, n1, p1, c1, _, d1⟩, _⟩ := I.list (SqL.of h)
    obtain ⟨as, ra⟩ := RDs.reads I hs r1
    exact ⟨_, Reads.list p1 c1 d1 (by simpa using ra)⟩
  | _, _, .tup h hs, u, r => by
    cases (show u = Value.ref _ from r)
    obtain ⟨its, r1, ⟨o1, p1, c1, n1, d1⟩, _⟩ := I.tuple (SqT.of h)
    obtain ⟨as, ra⟩ := RDs.reads I hs r1
    exact ⟨_, Reads.tuple p1 c1 d1 (by simpa using ra)⟩
theorem RDs.reads (I : Inv X pins σ H s) : ∀ {vs : List V} {ds : List PyData}, RDs H vs ds → ∀ {us : List Value}, Vals vs us → ∃ as, ReadsAll s.heap us ds as
  | _, _, .nil, _, .nil => ⟨_, .nil⟩
  | _, _, .cons h hs, _, .cons r rs => by
    obtain ⟨as, ra⟩ := RD.reads I h r
    obtain ⟨bs, rb⟩ := RDs.reads I hs rs
    exact ⟨_, .cons ra rb⟩
end
end
mutual
theorem mix_self : ∀ d : PyData, PyData.canLay0 d = true → SeqAt.noMix d d = true
  | .none, _ => by simp [SeqAt.noMix]
  | .bool _, _ => by simp [SeqAt.noMix]
  | .int _, _ => by simp [SeqAt.noMix]
  | .str _, _ => by simp [SeqAt.noMix]
  | .list xs, h => by
    simp only [SeqAt.noMix]
    exact mixs_self xs (by simpa [PyData.canLay0] using h)
  | .tuple xs, h => by
    simp only [SeqAt.noMix]
    exact mixs_self xs (by simpa [PyData.canLay0] using h)
  | .dict _, h => by simp [PyData.canLay0] at h
theorem mixs_self : ∀ ds : List PyData, PyData.canLayAll0 ds = true → SeqAt.noMixAll ds ds = true
  | [], _ => by simp [SeqAt.noMixAll]
  | d :: r, h => by
    have h' : PyData.canLay0 d = true ∧ PyData.canLayAll0 r = true := by simpa [PyData.canLayAll0] using h
    simp only [SeqAt.noMixAll, mix_self d h'.1, mixs_self r h'.2, Bool.and_self]
end
theorem eqv_self {d : PyData} (h : SeqAt.shaped d = true) : PyData.eqv d d = true := by
  have hc : PyData.canLay0 d = true := by
    have h' : (PyData.canLay0 d && decide (PyData.depth d ≤ 64)) = true := h
    rw [Bool.and_eq_true] at h'
    exact h'.1
  rw [← SeqAt.same_eq_eqv d d (mix_self d hc)]
  exact same_self d
section
variable {X : Cx}
def rEqD (b : Bool) : R2 := fun x y H Q => ∃ (d d' : PyData), RD H x d ∧ RD H y d' ∧ SeqAt.shaped d = true ∧ SeqAt.shaped d' = true ∧ Q (.bl (PyData.eqv d d' == b)) H
theorem op_eqD (hu : X.A.units + 64 < cLine) : OpR X (compareOp .Eq) (rEqD true) := by
  intro pins s σ H x y v u Q I rx ry h
  obtain ⟨d, d', h1, h2, s1, s2, q⟩ := h
  obtain ⟨as, r1⟩ := h1.reads I rx
  obtain ⟨bs, r2⟩ := h2.reads I ry
  refine eq_dataH r1 r2 s1 s2 hu ⟨.bl _, H, I, rfl, ?_⟩
  have e : (PyData.eqv d d' == true) = PyData.eqv d d' := by cases PyData.eqv d d' <;> rfl
  rw [e] at q
  exact q
theorem op_neD (hu : X.A.units + 64 < cLine) : OpR X (compareOp .NotEq) (rEqD false) := by
  intro pins s σ H x y v u Q I rx ry h
  obtain ⟨d, d', h1, h2, s1, s2, q⟩ := h
  obtain ⟨as, r1⟩ := h1.reads I rx
  obtain ⟨bs, r2⟩ := h2.reads I ry
  refine ne_dataH r1 r2 s1 s2 hu ⟨.bl _, H, I, rfl, ?_⟩
  have e : (PyData.eqv d d' == false) = !PyData.eqv d d' := by cases PyData.eqv d d' <;> rfl
  rw [e] at q
  exact q
theorem eqd {H : Hp} {x y : V} {d : PyData} {b : Bool} {Q : VK} (h1 : RD H x d) (h2 : RD H y d) (s : SeqAt.shaped d = true) (q : Q (.bl b) H) : rEqD b x y H Q := by
  refine ⟨d, d, h1, h2, s, s, ?_⟩
  rw [eqv_self s]
  cases b <;> exact q
end
theorem ixL_at {X : Cx} {K : PySem.W.Frag} (hK : X.K = K) : IxR X (rIxL K) := by
  subst hK
  exact ix_list
theorem fld_at {X : Cx} {K : PySem.W.Frag} {e : Expr} {f : Str} {ta : TE} {pos : Pos} (hK : X.K = K) (he : PE X e ta) (hb : attributeBase e f X.env (eval e X.env) = eval e X.env) : PE X (.Attribute e f pos) (tFld K ta f) := by
  subst hK
  exact pe_fld he hb
def tNev : TE := fun _ _ _ => False
theorem w_nev {σ : L2.St} {H : Hp} {Q : VK} : tNev σ H Q = False := rfl
theorem w_never {D : Ends} {σ : L2.St} {H : Hp} : tNever D σ H = False := rfl
structure CalD (P : Program) (w : World) (K : PySem.W.Frag) (mg : Str → Option Value) (base : Heap) (x : Str) (C : Addr) (ps : List Str) (k : Nat) (dvs : List V) (sp : Sp) : Prop where
  ex : ∃ f fd ds, FnOk P w K mg base (CXF P w) k f fd ps sp ∧ Binds K fd ps ds ∧ Vals dvs ds ∧ Mk K C f ∧ mg x = some (.ref C)
section
variable {X : Cx} {x m : Str} {C : Addr} {ps : List Str} {k : Nat} {sp : Sp} {e o : Expr} {es : List Expr} {ta : TE} {t : TA} {p pos apos : Pos} {E : XK} {dvs : List V}
theorem pe_makD (c : CalD X.prog X.w X.K X.mg X.base x C ps k dvs sp) (hx : Passes (CXF X.prog X.w) X E) (hr : Room (k + 1) X.A) (hg : Gl X x) (ha : PA X (e :: es) t)
    (hdb : (x == ("__debug__" : Str)) = false := by decide) (he : starEach (e :: es) X.env = (false, eval e X.env) :: starEach es X.env := by rfl) (hpl : (backTo pos (starEach es X.env)).any (·.1) = false := by rfl) :
    PE X (.Call (.Name x p) (e :: es) [] pos) (tMake C sp dvs E t) := by
  obtain ⟨f, fd, ds, F, b, hd, M, hm⟩ := c.ex
  exact pe_make M F hr hg hm b hd hx ha hdb he hpl
theorem pe_makD0 (c : CalD X.prog X.w X.K X.mg X.base x C ps k dvs sp) (hx : Passes (CXF X.prog X.w) X E) (hr : Room (k + 1) X.A) (hg : Gl X x)
    (hdb : (x == ("__debug__" : Str)) = false := by decide) : PE X (.Call (.Name x p) [] [] pos) (tMake C sp dvs E tNil) := by
  obtain ⟨f, fd, ds, F, b, hd, M, hm⟩ := c.ex
  exact pe_make0 M F hr hg hm b hd hx hdb
theorem pbe_makD (c : CalD X.prog X.w X.K X.mg X.base x C ps k dvs sp) (hnx : ∀ v s, ¬ X.xe v s) (hr : Room (k + 1) X.A) (hg : Gl X x) (ha : PA X (e :: es) t)
    (hdb : (x == ("__debug__" : Str)) = false := by decide) (he : starEach (e :: es) X.env = (false, eval e X.env) :: starEach es X.env := by rfl) (hpl : (backTo pos (starEach es X.env)).any (·.1) = false := by rfl) :
    PBE X (.Call (.Name x p) (e :: es) [] pos) (tBMake C sp dvs t) := by
  obtain ⟨f, fd, ds, F, b, hd, M, hm⟩ := c.ex
  exact pbe_make hnx M F hr hg hm b hd ha hdb he hpl
end
structure FunA (K : PySem.W.Frag) (x qual : Str) (st : Stmt) (f : Addr) (fd : FuncData) : Prop where
  ex : ∃ (oc : Value) (od : Option Addr) (dV kV doc pm : Value) (an : Option Addr) (cdv ct : Value) (osl : Array (Option Value)),
    fd = PySem.W.fnOf x qual (defArgs st) (defBody st) (defScope st) dV kV doc pm an cdv ct ∧ K.lookup f = some ⟨oc, od, .func fd, osl⟩ ∧ PySem.W.codeIn K cdv qual = true
section
variable {P : Program} {w : World} {K : PySem.W.Frag} {mg : Str → Option Value} {base : Heap} {N : List Str} {f : Addr}
theorem FunA.okX {x qual : Str} {st : Stmt} {fd : FuncData} {ps : List Str} {k : Nat} {sp : Sp} (F : FunA K x qual st f fd) (S : FnScope N ps (defScope st)) (len : ∀ vs H Q E, sp vs H Q E → vs.length = ps.length)
    (hbody : ∀ (cdv : Value) (A : Around) (outer : List Env) (s : Shared) (H : Hp) (vs : List V) (Q : VK) (E : XK), Room k (A.deeper (envOfC qual (defScope st) s.heap.objs.size f cdv)) → sp vs H Q E →
      ∃ t, PSs (cxX P w K mg base N qual (defScope st) f cdv A outer s H E) (defBody st) t ∧ t { nx := fun _ H' => Q .non H', rt := Q } (L2.start N vs) H) : FnOk P w K mg base (CXF P w) (k + 1) f fd ps sp := by
  obtain ⟨oc, od, dV, kV, doc, pm, an, cdv, ct, osl, rfl, lk, hcd⟩ := F.ex
  exact fn_of lk hcd S len fun A outer s H vs Q E hr hsp => hbody cdv A outer s H vs Q E hr hsp
theorem FunA.ok {x qual : Str} {st : Stmt} {fd : FuncData} {ps : List Str} {k : Nat} {sp : Sp} (F : FunA K x qual st f fd) (S : FnScope N ps (defScope st)) (len : ∀ vs H Q E, sp vs H Q E → vs.length = ps.length)
    (hbody : ∀ (cdv : Value) (A : Around) (outer : List Env) (s : Shared) (H : Hp) (vs : List V) (Q : VK) (E : XK), Room k (A.deeper (envOfC qual (defScope st) s.heap.objs.size f cdv)) → sp vs H Q E →
      ∃ t, PSs (cxOf CX0 P w K mg base N qual (defScope st) f cdv A outer s H E).nox (defBody st) t ∧ t { nx := fun _ H' => Q .non H', rt := Q } (L2.start N vs) H) : FnOk P w K mg base CX0 (k + 1) f fd ps sp := by
  obtain ⟨oc, od, dV, kV, doc, pm, an, cdv, ct, osl, rfl, lk, hcd⟩ := F.ex
  refine fn_of lk hcd S len fun A outer s H vs Q E hr hsp => ?_
  obtain ⟨t, h, q⟩ := hbody cdv A outer s H vs Q E hr hsp
  exact ⟨t, h.nox, q⟩
theorem funA_mk {x qual : Str} {st : Stmt} {oc : Value} {od an : Option Addr} {osl : Array (Option Value)} {dV kV doc pm cdv ct : Value} (l : K.lookup f = some ⟨oc, od, .func (PySem.W.fnOf x qual (defArgs st) (defBody st) (defScope st) dV kV doc pm an cdv ct), osl⟩)
    (c : PySem.W.codeIn K cdv qual = true) : FunA K x qual st f (PySem.W.fnOf x qual (defArgs st) (defBody st) (defScope st) dV kV doc pm an cdv ct) := ⟨⟨oc, od, dV, kV, doc, pm, an, cdv, ct, osl, rfl, l, c⟩⟩
theorem bindsD {fd : FuncData} {ps : List Str} {ds : List Value} (n : Nat) (hn : n + ds.length = ps.length) (h : ∀ (s : Shared) (us : List Value), K.In s.heap → us.length = n → BindsTo s fd ⟨us, []⟩ (ps.zip (us ++ ds))) : Binds K fd ps ds := fun s us X hl => h s us X (by
  rw [List.length_append] at hl
  omega)
end
end Bw
set_option Elab.async false
set_option linter.all false
set_option maxRecDepth 100000
namespace Bw
open PySem PySem.Spec PyProof.Rows L2
def below (s e t : Int) : Int := (t - s) / 1440 * ((e - s) % 1440) + (if (e - s) % 1440 < (t - s) % 1440 then (e - s) % 1440 else (t - s) % 1440)
end Bw
set_option Elab.async false
set_option linter.all false
set_option maxRecDepth 100000
set_option maxHeartbeats 1000000
namespace Bw
open PySem PySem.Spec PyProof.Rows L2
theorem rds_ints {H : Hp} : ∀ ns : List Int, RDs H (ns.map V.int) (ns.map PyData.int)
  | [] => .nil
  | n :: r => .cons (.int n) (rds_ints r)
theorem lay_ints : ∀ ns : List Int, PyData.canLayAll0 (ns.map PyData.int) = true ∧ PyData.depthAll (ns.map PyData.int) = 0
  | [] => ⟨by simp [PyData.canLayAll0], by simp [PyData.depthAll]⟩
  | n :: r => by
    obtain ⟨a, b⟩ := lay_ints r
    exact ⟨by simp [PyData.canLayAll0, PyData.canLay0, a], by simp [PyData.depthAll, PyData.depth, b]⟩
theorem shaped_of {ds : List PyData} {n : Nat} (hn : n ≤ 60) (h : PyData.canLayAll0 ds = true ∧ PyData.depthAll ds = n) : SeqAt.shaped (.list ds) = true ∧ SeqAt.shaped (.tuple ds) = true := by
  have h1 := h.1
  have h2 := h.2
  constructor
  · show (PyData.canLay0 (.list ds) && decide (PyData.depth (.list ds) ≤ 64)) = true
    rw [Bool.and_eq_true]
    exact ⟨by simp only [PyData.canLay0]; exact h1, decide_eq_true (by simp only [PyData.depth]; omega)⟩
  · show (PyData.canLay0 (.tuple ds) && decide (PyData.depth (.tuple ds) ≤ 64)) = true
    rw [Bool.and_eq_true]
    exact ⟨by simp only [PyData.canLay0]; exact h1, decide_eq_true (by simp only [PyData.depth]; omega)⟩
end Bw
set_option Elab.async false
set_option linter.all false
set_option maxRecDepth 100000
set_option maxHeartbeats 1000000
namespace Bw
open PySem PySem.Spec PyProof.Rows L2
end Bw
set_option Elab.async false
set_option linter.all false
set_option maxRecDepth 100000
set_option maxHeartbeats 1000000
namespace Bw
open PySem PySem.Spec PyProof.Rows L2
def metS (l : List Str) : List Str := l.foldl (fun a x => if x ∈ a then a else a ++ [x]) []
theorem metS_snoc (l : List Str) (x : Str) : metS (l ++ [x]) = if x ∈ metS l then metS l else metS l ++ [x] := by
  unfold metS; rw [List.foldl_append]; rfl
theorem metS_take {l : List Str} {i : Nat} (h : i < l.length) : metS (l.take (i + 1)) = if l.getD i Str.empty ∈ metS (l.take i) then metS (l.take i) else metS (l.take i) ++ [l.getD i Str.empty] := by
  rw [← metS_snoc, List.take_succ, List.getElem?_eq_getElem h]
  simp [List.getD, List.getElem?_eq_getElem h]
theorem snoc_ind {p : List Str → Prop} (h0 : p []) (h1 : ∀ l x, p l → p (l ++ [x])) (l : List Str) : p l := by
  have q : ∀ m : List Str, p m.reverse := fun m => by
    induction m with
    | nil => exact h0
    | cons a m ih => rw [List.reverse_cons]; exact h1 _ _ ih
  have := q l.reverse
  rwa [List.reverse_reverse] at this
theorem mem_metS (x : Str) (l : List Str) : x ∈ metS l ↔ x ∈ l := by
  refine snoc_ind (p := fun l => x ∈ metS l ↔ x ∈ l) (by simp [metS]) (fun l y ih => ?_) l
  · show x ∈ metS (l ++ [y]) ↔ x ∈ l ++ [y]
    rw [metS_snoc]
    split
    · rename_i h
      rw [ih]
      constructor
      · intro z; exact List.mem_append_left _ z
      · intro z
        rcases List.mem_append.mp z with z | z
        · exact z
        · have e : x = y := by simpa using z
          subst e
          exact ih.mp h
    · simp [ih]
theorem metS_le (l : List Str) : (metS l).length ≤ l.length := by
  refine snoc_ind (p := fun l => (metS l).length ≤ l.length) (by simp [metS]) (fun l y ih => ?_) l
  · show (metS (l ++ [y])).length ≤ (l ++ [y]).length
    rw [metS_snoc]
    split <;> simp <;> omega
theorem metS_all (l : List Str) : (metS l).length = l.length ↔ l.Nodup := by
  refine snoc_ind (p := fun l => (metS l).length = l.length ↔ l.Nodup) (by simp [metS]) (fun l y ih => ?_) l
  · show (metS (l ++ [y])).length = (l ++ [y]).length ↔ (l ++ [y]).Nodup
    have h := metS_le l
    rw [metS_snoc]
    by_cases m : y ∈ metS l
    · rw [if_pos m, List.length_append, List.length_singleton]
      constructor
      · intro z; omega
      · intro z
        have := (mem_metS y l).mp m
        rw [List.nodup_append] at z
        exact absurd rfl (z.2.2 y this y (List.mem_singleton.mpr rfl))
    · rw [if_neg m, List.length_append, List.length_append, List.length_singleton]
      have n : y ∉ l := fun z => m ((mem_metS y l).mpr z)
      constructor
      · intro z
        rw [List.nodup_append]
        refine ⟨ih.mp (by omega), by simp, fun a ha b hb e => ?_⟩
        have : b = y := by simpa using hb
        subst this; subst e; exact n ha
      · intro z
        rw [List.nodup_append] at z
        have := ih.mpr z.1
        omega
abbrev memS (l : List Str) : Str → Bool := fun k => decide (k ∈ metS l)
section
variable {prog : Program} {w : World} {A : Around} {R : Result → Shared → Prop} {I : Addr} {fp wr : List Addr} {G : Array GenState → Array GenState → Prop} {P : Nat → Value → Prop} {St : Nat → Shared → Prop}
theorem setLoopS {l : List Str} (W : WalksS prog w A.in1 I fp wr G l.length P St) (S : Addr) (hS0 : S ∉ fp) (hv : ∀ i v, P i v → ∃ t, v = .str (l.getD i Str.empty) t) (hb : l.length + 1 < scanBound) : ∀ (k i : Nat) (s : Shared) (q : ∀ s', Moved (S :: wr) G s s' → s'.heap.SetOf (strKind prog w) S (memS l) (metS l).length → R (.ok (.ret .none)) s'),
      l.length - i = k → i ≤ l.length → St i s → s.heap.SetOf (strKind prog w) S (memS (l.take i)) (metS (l.take i)).length →
      codeAny (model prog w) A (.builtin "set.update.loop" ⟨[.ref S, .ref I], []⟩) R s := by
  have nw : S ∉ wr := fun h => hS0 (W.sub _ h)
  have up : ∀ b ∈ wr, b ∈ S :: wr := fun b hb => List.mem_cons_of_mem _ hb
  have move : ∀ {s s' : Shared} {T : Str → Bool} {n : Nat}, Moved wr G s s' → s.heap.SetOf (strKind prog w) S T n → s'.heap.SetOf (strKind prog w) S T n := fun hm z => by
    obtain ⟨o, es, ep, t, ho, z⟩ := z
    exact ⟨o, es, ep, t, hm.heap S _ nw ho, z⟩
  intro k
  induction k with
  | zero =>
    intro i s q hk hi hst z
    have e : i = l.length := by omega
    subst e
    rw [List.take_length] at z
    refine codeAny_builtin PyProof.Rows.F.entry_set_update_loop ?_
    rw [Around.under_plainId PyProof.Rows.F.plain_set_update_loop _]; show wpAny _ A.in1 (pyNext (.ref I) >>= _) _ _ s
    refine wpAny_bind (W.done s _ _ hst fun s' hm => ?_)
    show wpAny _ A.in1 (ret Value.none) _ _ s'; exact wpAny_pure (q s' (hm.mono up) (move hm z))
  | succ k ih =>
    intro i s q hk hi hst z
    have lt : i < l.length := by omega
    refine codeAny_builtin PyProof.Rows.F.entry_set_update_loop ?_
    rw [Around.under_plainId PyProof.Rows.F.plain_set_update_loop _]; show wpAny _ A.in1 (pyNext (.ref I) >>= _) _ _ s
    refine wpAny_bind (W.item i s _ _ lt hst fun v s' hP hst' hm => ?_)
    obtain ⟨t, rfl⟩ := hv i v hP
    have z' := move hm z
    show wpAny _ A.in1 (holding [Value.str (l.getD i Str.empty) t] (setAdd S (.str (l.getD i Str.empty) t)) >>= _) _ _ s'
    refine wpAny_bind (wpAny_holding ?_); unfold setAdd
    refine wpAny_holding (wpAny_bind ((strKind prog w).pyHash (k := l.getD i Str.empty) (strKind_is _ _ _ _) ?_))
    have room : (metS (l.take i)).length + 1 < scanBound := by
      have h1 := metS_le (l.take i)
      have h2 : (l.take i).length ≤ l.length := by rw [List.length_take]; omega
      omega
    refine wpAny_setAddHashed_of (knd := strKind prog w) (s := { s' with toks := s'.toks + 1 }) (strKind_is _ _ _ _) rfl z' room fun h' sb z2 => ?_
    have z3 : h'.SetOf (strKind prog w) S (memS (l.take (i + 1))) (metS (l.take (i + 1))).length := by
      refine SetOf_congr z2 (fun k' => ?_) ?_
      · show (decide (k' ∈ metS (l.take i)) || decide (k' = l.getD i Str.empty)) = decide (k' ∈ metS (l.take (i + 1)))
        rw [metS_take lt]
        generalize l.getD i Str.empty = y
        split
        · rename_i m
          by_cases e : k' = y
          · subst e; simp [m]
          · simp [e]
        · by_cases e : k' = y
          · subst e; simp
          · simp [e]
      · rw [metS_take lt]
        generalize l.getD i Str.empty = y
        by_cases m : y ∈ metS (l.take i)
        · rw [if_pos m, if_pos (by simpa using m)]
        · rw [if_neg m, if_neg (by simpa using m), List.length_append]; rfl
    refine wpAny_pure ⟨plainId_quiet PyProof.Rows.F.plain_set_update_loop _, ih (i + 1) _ (fun s'' hm'' z4 => ?_) (by omega) lt (W.frame _ s' _ _ hst' (Nat.le_succ _) fun b hb o e => ?_) z3⟩
    · refine q s'' (Moved.trans W.gtrans ((hm.mono up).then_heap (Nat.le_succ _) fun b o hb e => ?_) hm'') z4
      rw [sb.2 b (fun h : b = S => hb (by rw [h]; exact List.mem_cons_self))]; exact e
    · rw [sb.2 b (fun h : b = S => hS0 (by rw [← h]; exact hb))]; exact e
end
abbrev freshSet (led : Bool) : Obj := { cls := .type "set", dict := none, data := .set #[] 0 (.fresh 0 0 led) }
theorem hasS {its : List Value} {l : List Str} (h : Vals (l.map V.str) its) (i : Nat) (v : Value) (e : its[i]? = some v) : ∃ t, v = .str (l.getD i Str.empty) t := by
  induction l generalizing its i with
  | nil => cases h; simp at e
  | cons x l ih =>
    cases h with
    | cons r1 r2 =>
      cases i with
      | zero =>
        obtain ⟨t, rfl⟩ := r1
        have : v = .str x t := by simpa using e.symm
        exact ⟨t, by rw [this]; rfl⟩
      | succ i => exact ih r2 i (by simpa using e)
section
variable {prog : Program} {w : World} {A : Around} {E : Value → Shared → Prop} {s : Shared}
set_option maxHeartbeats 4000000 in
theorem callSetS {a : Addr} {its : List Value} {l : List Str} {Q : Value → Shared → Prop} (hh : A.handled = none) (hl : s.heap.IsList a its.toArray) (hv : Vals (l.map V.str) its) (hb : l.length + 1 < scanBound)
    (q : ∀ (h' : Heap) (tk : Nat), h'.SetOf (strKind prog w) s.heap.objs.size (memS l) (metS l).length → (∀ b o, s.heap.get? b = some o → h'.get? b = some o) → Q (.ref s.heap.objs.size) { s with heap := h', toks := tk }) :
    wpAny (model prog w) A (call (.type "set") [.ref a]) Q E s := by
  have hn : its.toArray.size = l.length := by have := hv.length; rw [List.length_map] at this; simpa using this.symm
  obtain ⟨c, tl, hmro⟩ := PySem.F.called_set.mro
  have hmade := PySem.F.called_set.made; have hsub := PySem.F.called_set.sub
  refine wpAny_call (codeAny_of_tree ?_); show wpAny _ _ (callAny (.type "set") _) _ _ _
  refine wpAny_pure ⟨Code.quiet_builtin _ (by decide +kernel), codeAny_builtin PySem.F.entry_type_call ?_⟩
  rw [Around.under_plain (weight_type_call_type "set" [.ref a] []) rfl]
  have h1 := PySem.F.called_set.notType; have h2 := PySem.F.called_set.canCreate
  have hct := PySem.F.typeCall_set_1 (.ref a)
  repeat (any_goals (first | assumption | wp_step))
  refine codeAny_mono (PySem.code_set_new_1 (.ref a) (E := E) (Q₁ := fun obj s₁ => ∃ led : Bool, obj = .ref s.heap.objs.size ∧ s₁ = { s with heap := s.heap.push (freshSet led) }) fun led => ⟨led, rfl, rfl⟩) fun r s₁ hr => ?_
  match r, hr with
  | .error e, hr => exact hr
  | .ok (.ret obj), hr =>
    obtain ⟨led, rfl, rfl⟩ := hr
    have hS : (s.heap.push (freshSet led)).get? s.heap.objs.size = some (freshSet led) := Heap.get?_push_size _ rfl
    have hT : Shared.TypeIs { s with heap := s.heap.push (freshSet led) } (.ref s.heap.objs.size) "set" := ⟨_, hS, rfl⟩
    have hli := PySem.F.called_set.init.lookup; have hbi := PySem.F.called_set.init.bind (.ref s.heap.objs.size)
    repeat (any_goals (first | assumption | wp_step))
    refine codeAny_mono (codeAny_call_builtin (R := wants (fun r s₂ => r = .none ∧ ∃ h' tk, s₂ = { s with heap := h', toks := tk } ∧ h'.SetOf (strKind prog w) s.heap.objs.size (memS l) (metS l).length ∧
        (∀ b o, s.heap.get? b = some o → h'.get? b = some o)) E) PySem.F.called_set.init.plain PySem.F.entry_set_init (PySem.check_set_init_1 hT ?_)) fun r₂ s₂ hr₂ => ?_
    · obtain ⟨⟨oc, od, odt, osl⟩, hol, hcl, nl, hdl⟩ := hl
      simp only at hcl hdl; subst hcl; subst hdl
      have hol' : (s.heap.push (freshSet led)).get? a = some { cls := .type "list", dict := od, data := .seq its.toArray nl, slots := osl } := Heap.get?_push_of_some _ hol
      have n1 := PySem.F.sub_list_set; have n2 := PySem.F.sub_list_frozenset
      have n3 : (Value.type "list" == Value.type "dict") = false := by decide
      have hl1 : (s.heap.push (freshSet led)).IsList a its.toArray := ⟨_, hol', rfl, nl, rfl⟩
      unfold Builtin.«set.__init__» noKeywords Builtin.Frozenset.updateFrom
      generalize hPI : pyIter = PI
      wp_walk
      subst hPI
      refine wpAny_pyIter_list hl1 (wpAny_bind (wpAny_runValue ?_))
      have lt : a < s.heap.objs.size := Heap.lt_size hol
      have hh3 : A.in1.in1.in1.handled = none := by simp [hh]
      have ne1 : a ≠ (s.heap.push (freshSet led)).objs.size := by rw [Heap.size_push]; exact Nat.ne_of_lt (Nat.lt_succ_of_lt lt)
      have ne2 : s.heap.objs.size ∉ [(s.heap.push (freshSet led)).objs.size, a] := by
        rw [Heap.size_push]; intro z
        rcases List.mem_cons.mp z with z | z
        · exact absurd z (Nat.ne_of_lt (Nat.lt_succ_self _))
        · exact absurd (List.mem_singleton.mp z) (Nat.ne_of_gt lt)
      have W := (Walks.list (prog := prog) (w := w) hh3 _ a ne1 its.toArray).toS
      rw [hn] at W
      refine setLoopS W s.heap.objs.size ne2 (fun i v hv' => hasS hv i v (by simpa using hv')) hb (l.length - 0) 0 _ (fun s' hm z => ?_) (by omega) (Nat.zero_le _) ⟨⟨_, Heap.get?_push_size _ rfl, rfl, rfl⟩, hl1.push _⟩ ?_
      · obtain ⟨h', g', d', tk', os'⟩ := s'
        have eg : g' = s.gens := hm.gens
        have ed : d' = s.drawn := hm.drawn
        have eo : os' = s.os := hm.os
        subst eg; subst ed; subst eo
        show wpAny _ _ _ _ _ _
        refine wpAny_pure ?_
        show wpAny _ _ (ret Value.none) _ _ _
        refine wpAny_pure ⟨rfl, h', tk', rfl, z, fun b o e => ?_⟩
        have bl := Heap.lt_size e
        refine hm.heap b o (fun y => ?_) (Heap.get?_push_of_some _ (Heap.get?_push_of_some _ e))
        rcases List.mem_cons.mp y with y | y
        · exact absurd y (Nat.ne_of_lt bl)
        · have := List.mem_singleton.mp y; rw [Heap.size_push] at this; exact absurd this (Nat.ne_of_lt (Nat.lt_succ_of_lt bl))
      · have hg : ((s.heap.push (freshSet led)).push { cls := .type "list_iterator", data := .fields #[.ref a, .int 0 0] }).get? s.heap.objs.size = some (freshSet led) := Heap.get?_push_of_some _ hS
        exact SetOf_congr ((setObjOf_fresh (knd := strKind prog w) led).setOf hg (by unfold scanBound; omega)) (fun k => by simp [memS, metS]) rfl
    · match r₂, hr₂ with
      | .error e, hr₂ => exact hr₂
      | .ok (.ret r), hr₂ =>
        obtain ⟨rfl, h', tk, rfl, z, kp⟩ := hr₂
        repeat (any_goals (first | assumption | wp_step))
        exact q _ _ z kp
end
def hoSet (P : Program) (w : World) (a : Addr) (l : List Str) : HO := .ext fun h => h.SetOf (strKind P w) a (memS l) (metS l).length
theorem set_ext {P : Program} {w : World} {H : Hp} {h : Heap} {a : Addr} {l : List Str} (z : h.SetOf (strKind P w) a (memS l) (metS l).length) : ObjOk P w H h a (hoSet P w a l) := by
  refine ⟨z, ?_, fun h1 h2 z1 k => ?_⟩
  · obtain ⟨o, _, _, _, e, _⟩ := z; exact ⟨o, e⟩
  · obtain ⟨o, es, ep, t, e, z1⟩ := z1; exact ⟨o, es, ep, t, k o e, z1⟩
theorem call_setS {X : Cx} (hc : X.calm = true) : CallR X (.type "set") (fun xs H Q => ∃ (a : Addr) (l : List Str), xs = [.ref a] ∧ SqL X.K H a (l.map V.str) ∧ l.length ≤ 1000 ∧ ∀ p, H p = none → Q (.ref p) (upd H p (hoSet X.prog X.w p l))) := by
  intro pins s σ H xs us Q I r h
  obtain ⟨a, l, rfl, hS, hz, q⟩ := h
  obtain ⟨u, rfl, ru⟩ := vals1 r
  cases ru
  obtain ⟨its, rv, pl, _⟩ := I.list hS
  refine callSetS (I.ok.hd hc) pl.isList rv (by unfold scanBound; omega) fun h' tk z kp => ?_
  exact ⟨.ref s.heap.objs.size, _, I.laid (t' := tk) kp (Nat.le_refl _) (set_ext z), rfl, q _ (I.hok.fresh (Nat.le_refl _))⟩
theorem call_lenS {X : Cx} : CallR X (.builtin "len") (fun xs H Q => ∃ (a : Addr) (l : List Str), xs = [.ref a] ∧ H a = some (hoSet X.prog X.w a l) ∧ Q (.int (metS l).length) H) := by
  intro pins s σ H xs us Q I r h
  obtain ⟨a, l, rfl, e, q⟩ := h
  obtain ⟨u, rfl, ru⟩ := vals1 r
  cases ru
  obtain ⟨⟨o, es, ep, t, ho, hex, hd, _, _, hb, hf, hn⟩, _⟩ := I.hok a _ e
  rw [← hn] at q
  exact call_len_set ho hex hd hf (by unfold scanBound at hb; omega) ⟨.int es.size, H, I.tok _, ⟨_, rfl⟩, q⟩
end Bw
set_option Elab.async false
set_option linter.all false
set_option maxRecDepth 100000
set_option maxHeartbeats 1000000
namespace Bw
open PySem PySem.Spec PyProof.Rows L2
theorem TyOf.same {K : PySem.W.Frag} {H H' : Hp} {x : V} {t : Value} (h : TyOf K H x t) (s : Same H H') : TyOf K H' x t := by
  cases h with
  | non => exact .non
  | bl x => exact .bl x
  | int i => exact .int i
  | str x => exact .str x
  | flt x => exact .flt x
  | lst e => exact .lst (s _ _ e)
  | frz e => exact .frz (s _ _ e)
  | tup e => exact .tup (s _ _ e)
  | dK e => exact .dK (s _ _ e)
  | dT e => exact .dT (s _ _ e)
  | ins e cl ha hn ht hm => exact .ins (s _ _ e) cl ha hn ht hm
theorem TyOf.but3 {K : PySem.W.Frag} {H H' : Hp} {w : Addr} {x : V} {t : Value} (h : TyOf K H x t) (W0 : Well3 H w) (W : Well3 H' w) (s : But w H H') : TyOf K H' x t := by
  have ne : ∀ {b : Addr} {o : HO}, H b = some o → (∀ xs, o ≠ .lst xs) → b ≠ w := fun e n z => by
    obtain ⟨a, b, c, q⟩ := W0
    rw [z, q] at e
    exact n _ (Option.some.inj e).symm
  cases h with
  | non => exact .non
  | bl x => exact .bl x
  | int i => exact .int i
  | str x => exact .str x
  | flt x => exact .flt x
  | @lst p xs e =>
    by_cases z : p = w
    · obtain ⟨a, b, c, q⟩ := W
      rw [z]
      exact .lst q
    · exact .lst (s _ _ z e)
  | frz e => exact .frz (s _ _ (ne e (by intro xs z; cases z)) e)
  | tup e => exact .tup (s _ _ (ne e (by intro xs z; cases z)) e)
  | dK e => exact .dK (s _ _ (ne e (by intro xs z; cases z)) e)
  | dT e => exact .dT (s _ _ (ne e (by intro xs z; cases z)) e)
  | ins e cl ha hn ht hm => exact .ins (s _ _ (ne e (by intro xs z; cases z)) e) cl ha hn ht hm
def rIsiG (K : PySem.W.Frag) (T : String) : List V → Hp → VK → Prop := fun xs H Q => ∃ (x : V) (t : Value) (b : Bool), xs = [x, .ty T] ∧ TyOf K H x t ∧ PySem.W.kitOne K t (.type T) = some b ∧ Q (.bl b) H
theorem isiG_at {X : Cx} {K : PySem.W.Frag} {T : String} (hK : X.K = K) : CallR X (.builtin "isinstance") (rIsiG K T) := by
  subst hK
  intro pins s σ H xs us Q I r h
  obtain ⟨x, t, b, rfl, ty, e, q⟩ := h
  obtain ⟨u, w', rfl, rx, rc⟩ := vals2 r
  cases (show w' = Value.type T from rc)
  exact isinst_ok I rx ty e fun tk => ⟨.bl b, H, I.tok _, rfl, q⟩
end Bw
set_option Elab.async false
set_option linter.all false
set_option maxRecDepth 100000
set_option maxHeartbeats 1000000
namespace Bw
open PySem PySem.Spec PyProof.Rows L2
section
variable {X : Cx}
def tBIf (c : TT) (t u : XK → TS) : XK → TS := fun E D σ H => c σ H fun b H1 => if b = true then t E D σ H1 else u E D σ H1
theorem w_bIf {c : TT} {t u : XK → TS} {E : XK} {D : Ends} {σ : L2.St} {H : Hp} : tBIf c t u E D σ H = c σ H (fun b H1 => if b = true then t E D σ H1 else u E D σ H1) := rfl
end
end Bw
set_option Elab.async false
set_option linter.all false
set_option maxRecDepth 100000
set_option maxHeartbeats 1000000
namespace Bw
open PySem PySem.Spec PyProof.Rows L2
section
variable {X : Cx} {CX : CXT} {k : Nat} {f C : Addr} {fd : FuncData} {ps ks : List Str} {sp : Sp} {E : XK} {x : Str} {p pos : Pos} {e : Expr} {es : List Expr} {kws : List Keyword} {t tk : TA}
  {g : List Value → List Value → List Value} {gV : List V → List V → List V}
def tMakeK (C : Addr) (sp : Sp) (gV : List V → List V → List V) (E : XK) (t tk : TA) : TE := fun σ H Q => t σ H fun vs H1 => tk σ H1 fun zs H2 => ∀ x dx, H2 x = none → H2 dx = none → dx ≠ x →
  sp (gV (.ref x :: vs) zs) (L2.upd (L2.upd H2 dx (.own x)) x (.ins C dx [])) (fun v H3 => v = .non ∧ Q (.ref x) H3) E
theorem w_makeK {σ : L2.St} {H : Hp} {Q : VK} : tMakeK C sp gV E t tk σ H Q = t σ H (fun vs H1 => tk σ H1 fun zs H2 => ∀ x dx, H2 x = none → H2 dx = none → dx ≠ x →
  sp (gV (.ref x :: vs) zs) (L2.upd (L2.upd H2 dx (.own x)) x (.ins C dx [])) (fun v H3 => v = .non ∧ Q (.ref x) H3) E) := rfl
theorem run_makek {pins : List (Addr × Obj)} {σ : L2.St} {H : Hp} {s : Shared} {Q : VK} {us ws : List Value} {vs zs : List V} (M : Mk X.K C f) (F : FnOk X.prog X.w X.K X.mg X.base CX k f fd ps sp) (hr : Room (k + 1) X.A)
    (hb : KBinds X.K fd ps ks g gV) (hx : Passes CX X E) (I : Inv X pins σ H s) (r : Vals vs us) (rz : Vals zs ws)
    (h : ∀ x dx, H x = none → H dx = none → dx ≠ x → sp (gV (.ref x :: vs) zs) (L2.upd (L2.upd H dx (.own x)) x (.ins C dx [])) (fun v H2 => v = .non ∧ Q (.ref x) H2) E) :
    wpAny (model X.prog X.w) X.A (call (.ref C) us (ks.zip ws)) (EP X pins σ Q) X.xe s := by
  have hq := h (s.heap.objs.size + 1) s.heap.objs.size (I.hok.fresh (Nat.le_succ _)) (I.hok.fresh (Nat.le_refl _)) (Nat.ne_of_lt (Nat.lt_succ_self _))
  have I2 := Inv.made (C := C) I
  have r2 : Vals (gV (V.ref (s.heap.objs.size + 1) :: vs) zs) (g (Value.ref (s.heap.objs.size + 1) :: us) ws) := hb.rel (.cons rfl r) rz
  have hl : (g (Value.ref (s.heap.objs.size + 1) :: us) ws).length = ps.length := by rw [← r2.length]; exact F.len _ _ _ _ hq
  refine wpAny_call (make_map (f := f) I.kIn M.makes M.init (beq_iff_eq.mp M.fn) (codeAny_mono (F.run _ X.stack _ _ ⟨Value.ref (s.heap.objs.size + 1) :: us, ks.zip ws⟩ (g (Value.ref (s.heap.objs.size + 1) :: us) ws) _ _ E (hr.make C us (ks.zip ws))
    (I2.env0.make C us (ks.zip ws)) (hb.to _ (Value.ref (s.heap.objs.size + 1) :: us) ws I2.kIn hl) r2 hq) fun r s' hq' => ?_))
  cases r with
  | error e => exact hx pins σ _ _ e s' I2 hq'
  | ok fl =>
    cases fl with
    | ret u =>
      obtain ⟨v, H', I3, rv, ev, q3⟩ := I2.after hq'
      subst ev
      exact ⟨rv, ⟨V.ref (s.heap.objs.size + 1), H', I3, rfl, q3⟩⟩
    | next => exact False.elim hq'
    | brk => exact False.elim hq'
    | cont => exact False.elim hq'
end
structure CalK (P : Program) (w : World) (K : PySem.W.Frag) (mg : Str → Option Value) (base : Heap) (x : Str) (C : Addr) (ps ks : List Str) (k : Nat) (gV : List V → List V → List V) (sp : Sp) : Prop where
  ex : ∃ f fd g, FnOk P w K mg base (CXF P w) k f fd ps sp ∧ KBinds K fd ps ks g gV ∧ Mk K C f ∧ mg x = some (.ref C)
section
variable {X : Cx} {x : Str} {C : Addr} {ps ks : List Str} {k : Nat} {sp : Sp} {e : Expr} {es : List Expr} {t tk : TA} {p pos : Pos} {E : XK} {kws : List Keyword} {gV : List V → List V → List V}
theorem pe_makK (c : CalK X.prog X.w X.K X.mg X.base x C ps ks k gV sp) (hx : Passes (CXF X.prog X.w) X E) (hr : Room (k + 1) X.A) (hg : Gl X x) (ha : PA X (e :: es) t) (hkw : PK X kws tk)
    (hks : (backToKw pos (keywordEach kws X.env)).filterMap (·.1) = ks := by rfl) (hall : (backToKw pos (keywordEach kws X.env)).all (·.1.isSome) = true := by rfl)
    (hdb : (x == ("__debug__" : Str)) = false := by decide) (he : starEach (e :: es) X.env = (false, eval e X.env) :: starEach es X.env := by rfl)
    (hpl : ((backTo pos (starEach (e :: es) X.env)).any (·.1) || (backToKw pos (keywordEach kws X.env)).any (·.1.isNone)) = false := by rfl) :
    PE X (.Call (.Name x p) (e :: es) kws pos) (tMakeK C sp gV E t tk) := by
  obtain ⟨f, fd, g, F, hb, M, hm⟩ := c.ex
  intro pins s σ H Q I h
  refine wpAny_Call_Name_kw (ld_glob I hg hm ?_ hdb)
  refine PySem.W.callWith_KW (h₀ := X.base) I.ok.mod.kin M.kp hall (thn (ha pos pins s σ H _ I h) fun us s1 ⟨vs, H1, I1, r, q⟩ => ?_) hpl he
  refine thn (hkw pos pins s1 σ H1 _ I1 q) fun ws s2 ⟨zs, H2, I2, rz, q2⟩ => ⟨I2.kIn, ?_⟩
  rw [hks]
  exact run_makek M F hr hb hx I2 r rz q2
theorem pe_makK0 (c : CalK X.prog X.w X.K X.mg X.base x C ps ks k gV sp) (hx : Passes (CXF X.prog X.w) X E) (hr : Room (k + 1) X.A) (hg : Gl X x) (hkw : PK X kws tk)
    (hks : (backToKw pos (keywordEach kws X.env)).filterMap (·.1) = ks := by rfl) (hall : (backToKw pos (keywordEach kws X.env)).all (·.1.isSome) = true := by rfl)
    (hdb : (x == ("__debug__" : Str)) = false := by decide)
    (hpl : ((backTo pos (starEach [] X.env)).any (·.1) || (backToKw pos (keywordEach kws X.env)).any (·.1.isNone)) = false := by rfl) :
    PE X (.Call (.Name x p) [] kws pos) (tMakeK C sp gV E tNil tk) := by
  obtain ⟨f, fd, g, F, hb, M, hm⟩ := c.ex
  intro pins s σ H Q I h
  refine wpAny_Call_Name_kw (ld_glob I hg hm ?_ hdb)
  refine PySem.W.callWith_KW0 (h₀ := X.base) I.ok.mod.kin M.kp hall (thn (hkw pos pins s σ H _ I h) fun ws s2 ⟨zs, H2, I2, rz, q2⟩ => ⟨I2.kIn, ?_⟩) hpl
  rw [hks]
  exact run_makek (us := []) M F hr hb hx I2 .nil rz q2
def rIsiX (K : PySem.W.Frag) : List V → Hp → VK → Prop := fun xs H Q => ∃ (x : Addr) (c : V) (cv : Value) (b : Bool) (C : Addr), xs = [.ref x, c] ∧ RelV c cv ∧ ExcK K C ∧ H x = some (hoExc x (.ref C)) ∧ PySem.W.kitOne K (.ref C) cv = some b ∧ Q (.bl b) H
theorem isiX_at {K : PySem.W.Frag} (hK : X.K = K) : CallR X (.builtin "isinstance") (rIsiX K) := by
  subst hK
  intro pins s σ H xs us Q I r h
  obtain ⟨x, c, cv, b, C, e1, e2, F, e3, e4, q⟩ := h
  exact call_isiE F pins s σ H xs us Q I r ⟨x, c, cv, b, e1, e2, e3, e4, q⟩
def rIsiXT (K : PySem.W.Frag) : List V → Hp → VK → Prop := fun xs H Q => ∃ (x tp : Addr) (cs : List Addr) (b : Bool) (C : Addr), xs = [.ref x, .ref tp] ∧ ExcK K C ∧ H x = some (hoExc x (.ref C)) ∧ H tp = some (.tup (cs.map V.ref)) ∧ PySem.W.kitAny K (.ref C) (cs.map Value.ref) = some b ∧ Q (.bl b) H
theorem isiXT_at {K : PySem.W.Frag} (hK : X.K = K) : CallR X (.builtin "isinstance") (rIsiXT K) := by
  subst hK
  intro pins s σ H xs us Q I r h
  obtain ⟨x, tp, cs, b, C, e1, F, e2, e3, e4, q⟩ := h
  exact call_isiT F pins s σ H xs us Q I r ⟨x, tp, cs, b, e1, e2, e3, e4, q⟩
end
end Bw
set_option Elab.async false
set_option linter.all false
set_option maxRecDepth 100000
set_option maxHeartbeats 8000000
namespace Bw
open PySem L2
local macro_rules | `(tactic| walk_at "w0") => `(tactic| try simp only [w_seq, w_next, w_ifS, w_ret, w_retN, w_drop, w_asg, w_gName, w_gSub, w_var, w_c, w_op, w_un, w_rU, w_rI0, w_rI, w_test, w_b, w_and, w_or, w_not, w_andV, w_orV, w_notV, w_if, w_cons, w_nil, w_tup, w_lst, w_call, w_cB, w_eq, w_ne, w_isN, w_notN, w_chain, w_sl, w_part, w_noPart, w_forL, w_for1, w_for2, w_K, w_for3, w_isnotB, w_raise, w_try, w_KX, w_cut, w_compL, w_comp1, w_comp2, w_yes, w_pick0, w_pickN, w_pickS, w_bm, w_bm0, w_tyS, w_addS, w_slS, w_blkK, w_strs, w_methD, w_makeN, w_make, w_fld, w_gTup, w_gCons, w_gNil, w_sFld, w_compS, w_tryB, w_bmake, w_noKeys, w_bIf, w_makeK, w_nev, w_never, Option.getD_some,  exists_const, false_or, or_false, exists_false, w_s1, w_s2, w_s3, w_s4, w_s5, L2.start, List.map_cons, List.map_nil, List.length_cons, List.length_nil, List.replicate, List.replicate_zero, List.replicate_succ, Nat.reduceAdd, Nat.reduceSub, Nat.reduceLeDiff, List.cons_append, List.nil_append, List.append_nil, List.set_cons_zero, List.set_cons_succ, List.getElem?_cons_zero, List.getElem?_cons_succ, Option.some.injEq, V.int.injEq, V.bl.injEq, V.ref.injEq, V.str.injEq, V.ty.injEq, List.cons.injEq, and_true, true_and, exists_eq_left, exists_eq_left', exists_and_left, exists_eq, exists_eq', and_self, decide_eq_true_eq, Bool.not_eq_true', decide_eq_false_iff_not, Bool.true_eq_false, Bool.false_eq_true, if_true, if_false, ite_true, ite_false, false_and, and_false, and_assoc, reduceCtorEq])
local macro_rules | `(tactic| exists $[$es:term],*) => `(tactic| try simp only [$[$es:term],*, w_seq, w_next, w_ifS, w_ret, w_retN, w_drop, w_asg, w_gName, w_gSub, w_var, w_c, w_op, w_un, w_rU, w_rI0, w_rI, w_test, w_b, w_and, w_or, w_not, w_andV, w_orV, w_notV, w_if, w_cons, w_nil, w_tup, w_lst, w_call, w_cB, w_eq, w_ne, w_isN, w_notN, w_chain, w_sl, w_part, w_noPart, w_forL, w_for1, w_for2, w_K, w_for3, w_isnotB, w_raise, w_try, w_KX, w_cut, w_compL, w_comp1, w_comp2, w_yes, w_pick0, w_pickN, w_pickS, w_bm, w_bm0, w_tyS, w_addS, w_slS, w_blkK, w_strs, w_methD, w_makeN, w_make, w_fld, w_gTup, w_gCons, w_gNil, w_sFld, w_compS, w_tryB, w_bmake, w_noKeys, w_bIf, w_makeK, w_nev, w_never, Option.getD_some,  exists_const, false_or, or_false, exists_false, w_s1, w_s2, w_s3, w_s4, w_s5, L2.start, List.map_cons, List.map_nil, List.length_cons, List.length_nil, List.replicate, List.replicate_zero, List.replicate_succ, Nat.reduceAdd, Nat.reduceSub, Nat.reduceLeDiff, List.cons_append, List.nil_append, List.append_nil, List.set_cons_zero, List.set_cons_succ, List.getElem?_cons_zero, List.getElem?_cons_succ, Option.some.injEq, V.int.injEq, V.bl.injEq, V.ref.injEq, V.str.injEq, V.ty.injEq, List.cons.injEq, and_true, true_and, exists_eq_left, exists_eq_left', exists_and_left, exists_eq, exists_eq', and_self, decide_eq_true_eq, Bool.not_eq_true', decide_eq_false_iff_not, Bool.true_eq_false, Bool.false_eq_true, if_true, if_false, ite_true, ite_false, false_and, and_false, and_assoc, reduceCtorEq])
def top (i : Nat) : Stmt := PySem.Challenge.pw_bellsaway_k13_wishes_made.main.body.getD i (.Pass ⟨0, 0, 0, 0⟩)
abbrev s_is_whole : Stmt := top 9
theorem sc_is_whole : FnScope ["thing"] ["thing"] (defScope s_is_whole) := ⟨rfl, rfl, rfl, by decide +kernel, rfl, by decide +kernel, by decide +kernel⟩
abbrev s_is_whole_between : Stmt := top 10
theorem sc_is_whole_between : FnScope ["thing", "least", "most"] ["thing", "least", "most"] (defScope s_is_whole_between) := ⟨rfl, rfl, rfl, by decide +kernel, rfl, by decide +kernel, by decide +kernel⟩
abbrev s_is_whole_from : Stmt := top 11
theorem sc_is_whole_from : FnScope ["thing", "least"] ["thing", "least"] (defScope s_is_whole_from) := ⟨rfl, rfl, rfl, by decide +kernel, rfl, by decide +kernel, by decide +kernel⟩
abbrev s_is_minute_of_day : Stmt := top 15
theorem sc_is_minute_of_day : FnScope ["thing"] ["thing"] (defScope s_is_minute_of_day) := ⟨rfl, rfl, rfl, by decide +kernel, rfl, by decide +kernel, by decide +kernel⟩
abbrev s_is_quiet_hours : Stmt := top 16
theorem sc_is_quiet_hours : FnScope ["thing"] ["thing"] (defScope s_is_quiet_hours) := ⟨rfl, rfl, rfl, by decide +kernel, rfl, by decide +kernel, by decide +kernel⟩
abbrev s_check_zone : Stmt := top 17
theorem sc_check_zone : FnScope ["zone"] ["zone"] (defScope s_check_zone) := ⟨rfl, rfl, rfl, by decide +kernel, rfl, by decide +kernel, by decide +kernel⟩
abbrev s_check_quiet : Stmt := top 18
theorem sc_check_quiet : FnScope ["quiet"] ["quiet"] (defScope s_check_quiet) := ⟨rfl, rfl, rfl, by decide +kernel, rfl, by decide +kernel, by decide +kernel⟩
abbrev s_check_minute_of_hour : Stmt := top 19
theorem sc_check_minute_of_hour : FnScope ["minute"] ["minute"] (defScope s_check_minute_of_hour) := ⟨rfl, rfl, rfl, by decide +kernel, rfl, by decide +kernel, by decide +kernel⟩
abbrev s_is_name : Stmt := top 23
theorem sc_is_name : FnScope ["thing"] ["thing"] (defScope s_is_name) := ⟨rfl, rfl, rfl, by decide +kernel, rfl, by decide +kernel, by decide +kernel⟩
abbrev s_are_unlike_names : Stmt := top 25
theorem sc_are_unlike_names : FnScope ["thing"] ["thing"] (defScope s_are_unlike_names) := ⟨rfl, rfl, rfl, by decide +kernel, rfl, by decide +kernel, by decide +kernel⟩
abbrev s_Hour___init__ : Stmt := inClass (top 31) 0
theorem sc_Hour___init__ : FnScope ["self", "minute"] ["self", "minute"] (defScope s_Hour___init__) := ⟨rfl, rfl, rfl, by decide +kernel, rfl, by decide +kernel, by decide +kernel⟩
abbrev s_Line___init__ : Stmt := inClass (top 35) 0
theorem sc_Line___init__ : FnScope ["self", "fit", "way", "roads", "sure", "raised"] ["self", "fit", "way", "roads", "sure", "raised"] (defScope s_Line___init__) := ⟨rfl, rfl, rfl, by decide +kernel, rfl, by decide +kernel, by decide +kernel⟩
abbrev s_check_by_way : Stmt := top 36
theorem sc_check_by_way : FnScope ["way", "roads", "sure", "raised"] ["way", "roads", "sure", "raised"] (defScope s_check_by_way) := ⟨rfl, rfl, rfl, by decide +kernel, rfl, by decide +kernel, by decide +kernel⟩
abbrev s_Wishes___init__ : Stmt := inClass (top 37) 0
theorem sc_Wishes___init__ : FnScope ["self", "zone", "quiet", "wake", "lines"] ["self", "zone", "quiet", "wake", "lines"] (defScope s_Wishes___init__) := ⟨rfl, rfl, rfl, by decide +kernel, rfl, by decide +kernel, by decide +kernel⟩
abbrev s_check_wake : Stmt := top 38
theorem sc_check_wake : FnScope ["wake", "quiet"] ["wake", "quiet"] (defScope s_check_wake) := ⟨rfl, rfl, rfl, by decide +kernel, rfl, by decide +kernel, by decide +kernel⟩
abbrev s_check_lines : Stmt := top 39
theorem sc_check_lines : FnScope ["lines"] ["lines"] (defScope s_check_lines) := ⟨rfl, rfl, rfl, by decide +kernel, rfl, by decide +kernel, by decide +kernel⟩
abbrev s_law_begin : Stmt := top 42
theorem sc_law_begin : FnScope ["_law_cell"] ["_law_cell"] (defScope s_law_begin) := ⟨rfl, rfl, rfl, by decide +kernel, rfl, by decide +kernel, by decide +kernel⟩
abbrev s_law_next : Stmt := top 43
theorem sc_law_next : FnScope ["_law_state", "_law_base", "_law_found", "_law_number"] ["_law_state", "_law_base"] (defScope s_law_next) := ⟨rfl, rfl, rfl, by decide +kernel, rfl, by decide +kernel, by decide +kernel⟩
abbrev s_law_quiet : Stmt := top 44
theorem sc_law_quiet : FnScope ["_law_state", "_law_start"] ["_law_state"] (defScope s_law_quiet) := ⟨rfl, rfl, rfl, by decide +kernel, rfl, by decide +kernel, by decide +kernel⟩
abbrev s_law_refused : Stmt := top 45
theorem sc_law_refused : FnScope ["_law_zone", "_law_hours", "_law_heavy", "_law_lots", "_law_found", "e"] ["_law_zone", "_law_hours", "_law_heavy", "_law_lots"] (defScope s_law_refused) := ⟨rfl, rfl, rfl, by decide +kernel, rfl, by decide +kernel, by decide +kernel⟩
abbrev s_law_no_zones : Stmt := top 46
theorem sc_law_no_zones : FnScope ["_law_zone"] ["_law_zone"] (defScope s_law_no_zones) := ⟨rfl, rfl, rfl, by decide +kernel, rfl, by decide +kernel, by decide +kernel⟩
abbrev s_law_no_quiet : Stmt := top 47
theorem sc_law_no_quiet : FnScope ["_law_hours", "_law_some"] ["_law_hours"] (defScope s_law_no_quiet) := ⟨rfl, rfl, rfl, by decide +kernel, rfl, by decide +kernel, by decide +kernel⟩
abbrev s_law_no_wakes : Stmt := top 48
theorem sc_law_no_wakes : FnScope ["_law_heavy"] ["_law_heavy"] (defScope s_law_no_wakes) := ⟨rfl, rfl, rfl, by decide +kernel, rfl, by decide +kernel, by decide +kernel⟩
abbrev s_law_no_lines : Stmt := top 49
theorem sc_law_no_lines : FnScope ["_law_lots", "_law_some"] ["_law_lots"] (defScope s_law_no_lines) := ⟨rfl, rfl, rfl, by decide +kernel, rfl, by decide +kernel, by decide +kernel⟩
abbrev s_law_minutes : Stmt := top 50
theorem sc_law_minutes : FnScope ["_law_found"] ["_law_found"] (defScope s_law_minutes) := ⟨rfl, rfl, rfl, by decide +kernel, rfl, by decide +kernel, by decide +kernel⟩
abbrev s_law_right : Stmt := top 51
theorem sc_law_right : FnScope ["_law_wishes", "_law_zone", "_law_hours", "_law_heavy", "_law_minutes_here"] ["_law_wishes", "_law_zone", "_law_hours", "_law_heavy", "_law_minutes_here"] (defScope s_law_right) := ⟨rfl, rfl, rfl, by decide +kernel, rfl, by decide +kernel, by decide +kernel⟩
abbrev s_law_odd_right : Stmt := top 52
theorem sc_law_odd_right : FnScope ["_law_state", "_law_zone", "_law_hours", "_law_heavy", "_law_lots", "_law_bad_zone", "_law_bad_quiet", "_law_bad_wake", "_law_bad_lines", "_law_found"] ["_law_state", "_law_zone", "_law_hours", "_law_heavy", "_law_lots"] (defScope s_law_odd_right) := ⟨rfl, rfl, rfl, by decide +kernel, rfl, by decide +kernel, by decide +kernel⟩
abbrev s_law : Stmt := top 53
theorem sc_law : FnScope ["_law_script", "_law_cell", "_law_state", "_law_zone", "_law_hours", "_law_heavy", "_law_minutes_here", "_law_lots", "_law_handed", "_law_wishes"] ["_law_script"] (defScope s_law) := ⟨rfl, rfl, rfl, by decide +kernel, rfl, by decide +kernel, by decide +kernel⟩
structure Ad where
  BellError : Addr
  NoClock : Addr
  NoFit : Addr
  NoWish : Addr
  NoRow : Addr
  NoText : Addr
  Fit : Addr
  Any : Addr
  Way : Addr
  Hour : Addr
  Never : Addr
  Raised : Addr
  Line : Addr
  Wishes : Addr
  t0 : Tok
  t1 : Tok
  t2 : Tok
  t3 : Tok
structure Bt (K : PySem.W.Frag) (mg : Str → Option Value) (a : Ad) : Prop where
  len : mg "len" = none
  int : mg "int" = none
  bool : mg "bool" = none
  str : mg "str" = none
  tuple : mg "tuple" = none
  list : mg "list" = none
  all : mg "all" = none
  isinstance : mg "isinstance" = none
  range : mg "range" = none
  set : mg "set" = none
  ValueError : mg "ValueError" = none
  MINUTES_OF_HOUR : mg "MINUTES_OF_HOUR" = some (.int 60 a.t0)
  MINUTES_OF_DAY : mg "MINUTES_OF_DAY" = some (.int 1440 a.t1)
  LETTERS : mg "LETTERS" = some (.str "abcdefghijklmnopqrstuvwxyz" a.t2)
  MOST_LETTERS : mg "MOST_LETTERS" = some (.int 8 a.t3)
  BellError : mg "BellError" = some (.ref a.BellError)
  NoClock : mg "NoClock" = some (.ref a.NoClock)
  NoFit : mg "NoFit" = some (.ref a.NoFit)
  NoWish : mg "NoWish" = some (.ref a.NoWish)
  NoRow : mg "NoRow" = some (.ref a.NoRow)
  NoText : mg "NoText" = some (.ref a.NoText)
  Fit : mg "Fit" = some (.ref a.Fit)
  Any : mg "Any" = some (.ref a.Any)
  Way : mg "Way" = some (.ref a.Way)
  Hour : mg "Hour" = some (.ref a.Hour)
  Never : mg "Never" = some (.ref a.Never)
  Raised : mg "Raised" = some (.ref a.Raised)
  Line : mg "Line" = some (.ref a.Line)
  Wishes : mg "Wishes" = some (.ref a.Wishes)
  exc_NoClock : PySem.W.excIn K a.NoClock vbm "ValueError.__new__" = true
  excK_NoClock : ExcK K a.NoClock
  exc_NoWish : PySem.W.excIn K a.NoWish vbm "ValueError.__new__" = true
  excK_NoWish : ExcK K a.NoWish
  exm_NoClock : PySem.W.exmOne K (.ref a.NoClock) (.ref a.BellError) = some true
  any_NoClock : PySem.W.kitAny K (.ref a.NoClock) ([.ref a.NoFit, .ref a.NoRow, .ref a.NoText] : List Value) = some false
  isV_NoClock : PySem.W.kitOne K (.ref a.NoClock) (.type "ValueError") = some true
  is_NoClock_NoClock : PySem.W.kitOne K (.ref a.NoClock) (.ref a.NoClock) = some true
  is_NoClock_NoWish : PySem.W.kitOne K (.ref a.NoClock) (.ref a.NoWish) = some false
  exm_NoWish : PySem.W.exmOne K (.ref a.NoWish) (.ref a.BellError) = some true
  any_NoWish : PySem.W.kitAny K (.ref a.NoWish) ([.ref a.NoFit, .ref a.NoRow, .ref a.NoText] : List Value) = some false
  isV_NoWish : PySem.W.kitOne K (.ref a.NoWish) (.type "ValueError") = some true
  is_NoWish_NoClock : PySem.W.kitOne K (.ref a.NoWish) (.ref a.NoClock) = some false
  is_NoWish_NoWish : PySem.W.kitOne K (.ref a.NoWish) (.ref a.NoWish) = some true
  ck_Any : ClsK K a.Any
  ck_Hour : ClsK K a.Hour
  na_Hour_minute : NoAttr K a.Hour "minute"
  ck_Line : ClsK K a.Line
  na_Line_fit : NoAttr K a.Line "fit"
  na_Line_way : NoAttr K a.Line "way"
  na_Line_roads : NoAttr K a.Line "roads"
  na_Line_sure : NoAttr K a.Line "sure"
  na_Line_raised : NoAttr K a.Line "raised"
  ck_Wishes : ClsK K a.Wishes
  na_Wishes_zone : NoAttr K a.Wishes "zone"
  na_Wishes_quiet : NoAttr K a.Wishes "quiet"
  na_Wishes_wake : NoAttr K a.Wishes "wake"
  na_Wishes_lines : NoAttr K a.Wishes "lines"
  is_Any_Fit : PySem.W.kitOne K (.ref a.Any) (.ref a.Fit) = some true
  is_Hour_Way : PySem.W.kitOne K (.ref a.Hour) (.ref a.Way) = some true
  is_Hour_Never : PySem.W.kitOne K (.ref a.Hour) (.ref a.Never) = some false
  is_Line_Line : PySem.W.kitOne K (.ref a.Line) (.ref a.Line) = some true
  is_Any_Line : PySem.W.kitOne K (.ref a.Any) (.ref a.Line) = some false
  is_Hour_Line : PySem.W.kitOne K (.ref a.Hour) (.ref a.Line) = some false
  is_Wishes_Wishes : PySem.W.kitOne K (.ref a.Wishes) (.ref a.Wishes) = some true
  is_Line_list : PySem.W.kitOne K (.ref a.Line) (.type "list") = some false
  noLine_NoneType : PySem.W.kitOne K (.type "NoneType") (.ref a.Line) = some false
  noLine_bool : PySem.W.kitOne K (.type "bool") (.ref a.Line) = some false
  noLine_int : PySem.W.kitOne K (.type "int") (.ref a.Line) = some false
  noLine_str : PySem.W.kitOne K (.type "str") (.ref a.Line) = some false
  noLine_list : PySem.W.kitOne K (.type "list") (.ref a.Line) = some false
  noLine_tuple : PySem.W.kitOne K (.type "tuple") (.ref a.Line) = some false
  noLine_dict : PySem.W.kitOne K (.type "dict") (.ref a.Line) = some false
  mk_Any : MkN K a.Any
def okI (K : PySem.W.Frag) (H : Hp) (x : V) : Prop := ∃ t, TyOf K H x t ∧ PySem.W.kitOne K t (.type "int") = some (isIntV x) ∧ PySem.W.kitOne K t (.type "bool") = some (isBoolV x)
def okK (K : PySem.W.Frag) (c : Value) (H : Hp) (x : V) (b : Bool) : Prop := ∃ t, TyOf K H x t ∧ PySem.W.kitOne K t c = some b
abbrev noL (K : PySem.W.Frag) (H : Hp) (x : V) : Prop := ∃ t, TyOf K H x t ∧ PySem.W.kitOne K t (.type "list") = some false
theorem okI.same {K : PySem.W.Frag} {H H' : Hp} {x : V} (h : okI K H x) (s : Same H H') : okI K H' x := let ⟨t, y, r⟩ := h; ⟨t, TyOf.same y s, r⟩
theorem okK.same {K : PySem.W.Frag} {c : Value} {H H' : Hp} {x : V} {b : Bool} (h : okK K c H x b) (s : Same H H') : okK K c H' x b := let ⟨t, y, r⟩ := h; ⟨t, TyOf.same y s, r⟩
theorem okI.but3 {K : PySem.W.Frag} {H H' : Hp} {w : Addr} {x : V} (h : okI K H x) (W0 : Well3 H w) (W : Well3 H' w) (s : But w H H') : okI K H' x := let ⟨t, y, r⟩ := h; ⟨t, TyOf.but3 y W0 W s, r⟩
theorem okK.but3 {K : PySem.W.Frag} {c : Value} {H H' : Hp} {w : Addr} {x : V} {b : Bool} (h : okK K c H x b) (W0 : Well3 H w) (W : Well3 H' w) (s : But w H H') : okK K c H' x b := let ⟨t, y, r⟩ := h; ⟨t, TyOf.but3 y W0 W s, r⟩
def strV : V → Str
  | .str u => u
  | _ => Str.empty
def namesB (xs : List V) : Bool := xs.all nameB && decide ((xs.map strV).Nodup)
theorem nameB_str {x : V} (h : nameB x = true) : x = .str (strV x) := by cases x <;> first | rfl | cases h
theorem all_str : ∀ {xs : List V}, xs.all nameB = true → xs = (xs.map strV).map V.str
  | [], _ => rfl
  | x :: xs, h => by
    simp only [List.all_cons, Bool.and_eq_true] at h
    rw [List.map_cons, List.map_cons, ← nameB_str h.1, ← all_str h.2]
def NmIs (K : PySem.W.Frag) (H : Hp) (x : V) (b : Bool) : Prop := (∃ p xs, x = .ref p ∧ H p = some (.lst xs) ∧ xs.length ≤ 100 ∧ (∀ y ∈ xs, okN H y) ∧ b = namesB xs) ∨ (b = false ∧ noL K H x)
def isNonV : V → Bool
  | .non => true
  | _ => false
theorem isNonV_eq {x : V} : isNonV x = decide (x = .non) := by
  cases x <;> first | rfl | (symm; apply decide_eq_false; intro z; cases z)
theorem putF_new {k : Str} {v : V} : ∀ {fs : List (Str × V)}, (∀ q ∈ fs, q.1 ≠ k) → putF k v fs = fs ++ [(k, v)]
  | [], _ => rfl
  | (k0, v0) :: fs, h => by
    show (if k0 = k then _ else _ : List (Str × V)) = _
    rw [if_neg (h (k0, v0) List.mem_cons_self), putF_new fun q hq => h q (List.mem_cons_of_mem _ hq)]
    rfl
def lFs (f y r s z : V) : List (Str × V) := [("fit", f), ("way", y), ("roads", r), ("sure", s), ("raised", z)]
def wFs (z q k l : V) : List (Str × V) := [("zone", z), ("quiet", q), ("wake", k), ("lines", l)]
def qtB : List V → Bool
  | [x, y] => betwV x 0 1439 && betwV y 0 1439 && !decide (x = y)
  | _ => false
def QK (K : PySem.W.Frag) (H : Hp) (q : V) (b : Bool) : Prop := (q = .non ∧ b = true) ∨ (∃ p xs, q = .ref p ∧ H p = some (.tup xs) ∧ (∀ y ∈ xs, okI K H y) ∧ b = qtB xs) ∨ (q ≠ .non ∧ b = false ∧ okK K (.type "tuple") H q false)
inductive LB (K : PySem.W.Frag) (a : Ad) (H : Hp) : List V → List Bool → Prop
  | nil : LB K a H [] []
  | cons {y : V} {c : Bool} {ys : List V} {cs : List Bool} (h : okK K (.ref a.Line) H y c) (r : LB K a H ys cs) : LB K a H (y :: ys) (c :: cs)
theorem LB.same {K : PySem.W.Frag} {a : Ad} {H H' : Hp} {xs : List V} {bs : List Bool} (h : LB K a H xs bs) (S : Same H H') : LB K a H' xs bs := by
  induction h with
  | nil => exact .nil
  | cons h _ ih => exact .cons (h.same S) ih
theorem LB.but3 {K : PySem.W.Frag} {a : Ad} {H H' : Hp} {w : Addr} {xs : List V} {bs : List Bool} (h : LB K a H xs bs) (W0 : Well3 H w) (W : Well3 H' w) (S : But w H H') : LB K a H' xs bs := by
  induction h with
  | nil => exact .nil
  | cons h _ ih => exact .cons (h.but3 W0 W S) ih
theorem LB.app {K : PySem.W.Frag} {a : Ad} {H : Hp} {xs ys : List V} {bs cs : List Bool} (h : LB K a H xs bs) (k : LB K a H ys cs) : LB K a H (xs ++ ys) (bs ++ cs) := by
  induction h with
  | nil => exact k
  | cons h _ ih => exact .cons h ih
theorem LB.len {K : PySem.W.Frag} {a : Ad} {H : Hp} {xs : List V} {bs : List Bool} (h : LB K a H xs bs) : bs.length = xs.length := by
  induction h with
  | nil => rfl
  | cons _ _ ih => rw [List.length_cons, List.length_cons, ih]
theorem LB.get {K : PySem.W.Frag} {a : Ad} {H : Hp} {xs : List V} {bs : List Bool} (h : LB K a H xs bs) : ∀ {i : Nat} {y : V}, xs[i]? = some y → ∃ c, bs[i]? = some c ∧ okK K (.ref a.Line) H y c := by
  induction h with
  | nil => intro i y e; simp at e
  | cons h _ ih =>
    intro i y e
    cases i with
    | zero => cases e; exact ⟨_, rfl, h⟩
    | succ i => exact ih e
def LnK (K : PySem.W.Frag) (a : Ad) (H : Hp) (l : V) (b : Bool) : Prop := (l = .non ∧ b = true) ∨ (∃ (p : Addr) (xs : List V) (bs : List Bool), l = .ref p ∧ H p = some (.lst xs) ∧ xs.length ≤ 100 ∧ LB K a H xs bs ∧ b = bs.all id) ∨ (l ≠ .non ∧ b = false ∧ okK K (.type "list") H l false)
theorem QK.same {K : PySem.W.Frag} {H H' : Hp} {q : V} {b : Bool} (h : QK K H q b) (S : Same H H') : QK K H' q b := by
  rcases h with h | ⟨p, xs, e, hp, hy, hb⟩ | ⟨n, e, k⟩
  · exact .inl h
  · exact .inr (.inl ⟨p, xs, e, S _ _ hp, fun y m => (hy y m).same S, hb⟩)
  · exact .inr (.inr ⟨n, e, k.same S⟩)
theorem LnK.same {K : PySem.W.Frag} {a : Ad} {H H' : Hp} {q : V} {b : Bool} (h : LnK K a H q b) (S : Same H H') : LnK K a H' q b := by
  rcases h with h | ⟨p, xs, cs, e, hp, hl, hy, hb⟩ | ⟨n, e, k⟩
  · exact .inl h
  · exact .inr (.inl ⟨p, xs, cs, e, S _ _ hp, hl, hy.same S, hb⟩)
  · exact .inr (.inr ⟨n, e, k.same S⟩)
theorem Well3.neT {H : Hp} {w p : Addr} {xs : List V} (W : Well3 H w) (h : H p = some (.tup xs)) : p ≠ w := by
  obtain ⟨a, b, c, e⟩ := W
  intro z
  rw [z, e] at h
  cases h
theorem Well3.neI {H : Hp} {w p C dx : Addr} {fs : List (Str × V)} (W : Well3 H w) (h : H p = some (.ins C dx fs)) : p ≠ w := by
  obtain ⟨a, b, c, e⟩ := W
  intro z
  rw [z, e] at h
  cases h
theorem QK.but3 {K : PySem.W.Frag} {H H' : Hp} {w : Addr} {q : V} {b : Bool} (h : QK K H q b) (W0 : Well3 H w) (W : Well3 H' w) (S : But w H H') : QK K H' q b := by
  rcases h with h | ⟨p, xs, e, hp, hy, hb⟩ | ⟨n, e, k⟩
  · exact .inl h
  · exact .inr (.inl ⟨p, xs, e, S _ _ (W0.neT hp) hp, fun y m => (hy y m).but3 W0 W S, hb⟩)
  · exact .inr (.inr ⟨n, e, k.but3 W0 W S⟩)
theorem LnK.but3 {K : PySem.W.Frag} {a : Ad} {H H' : Hp} {w : Addr} {q : V} {b : Bool} (h : LnK K a H q b) (nq : q ≠ .ref w) (W0 : Well3 H w) (W : Well3 H' w) (S : But w H H') : LnK K a H' q b := by
  rcases h with h | ⟨p, xs, cs, e, hp, hl, hy, hb⟩ | ⟨n, e, k⟩
  · exact .inl h
  · exact .inr (.inl ⟨p, xs, cs, e, S _ _ (fun z => nq (by rw [e, z])) hp, hl, hy.but3 W0 W S, hb⟩)
  · exact .inr (.inr ⟨n, e, k.but3 W0 W S⟩)
def wkB (k q : V) : Bool := isNonV k || (!isNonV q && fromV k 0)
def zqB (z : V) (bq : Bool) : Bool := betwV z (-1439) 1439 && bq
def LnA (a : Ad) (H : Hp) (v : V) (m : Int) : Prop := ∃ p dl fp yp lr dy, v = .ref p ∧ H p = some (.ins a.Line dl (lFs (.ref fp) (.ref yp) (.ref lr) (.bl false) .non)) ∧ H yp = some (.ins a.Hour dy [("minute", .int m)])
theorem LnA.same {a : Ad} {H H' : Hp} {v : V} {m : Int} (h : LnA a H v m) (S : Same H H') : LnA a H' v m := by
  obtain ⟨p, dl, fp, yp, lr, dy, e, h1, h2⟩ := h
  exact ⟨p, dl, fp, yp, lr, dy, e, S _ _ h1, S _ _ h2⟩
theorem LnA.but3 {a : Ad} {H H' : Hp} {w : Addr} {v : V} {m : Int} (h : LnA a H v m) (W : Well3 H w) (S : But w H H') : LnA a H' v m := by
  obtain ⟨p, dl, fp, yp, lr, dy, e, h1, h2⟩ := h
  exact ⟨p, dl, fp, yp, lr, dy, e, S _ _ (W.neI h1) h1, S _ _ (W.neI h2) h2⟩
def Lns (a : Ad) (H : Hp) (ps : List V) (ms : List Int) : Prop := ps.length = ms.length ∧ ∀ (i : Nat) (v : V) (m : Int), ps[i]? = some v → ms[i]? = some m → LnA a H v m
theorem Lns.same {a : Ad} {H H' : Hp} {ps : List V} {ms : List Int} (h : Lns a H ps ms) (S : Same H H') : Lns a H' ps ms := ⟨h.1, fun i v m e1 e2 => (h.2 i v m e1 e2).same S⟩
theorem Lns.but3 {a : Ad} {H H' : Hp} {w : Addr} {ps : List V} {ms : List Int} (h : Lns a H ps ms) (W : Well3 H w) (S : But w H H') : Lns a H' ps ms := ⟨h.1, fun i v m e1 e2 => (h.2 i v m e1 e2).but3 W S⟩
theorem Lns.mem {a : Ad} {H : Hp} {ps : List V} {ms : List Int} (h : Lns a H ps ms) {v : V} (hv : v ∈ ps) : ∃ m, LnA a H v m := by
  obtain ⟨i, hi, rfl⟩ := List.mem_iff_getElem.mp hv
  have hj : i < ms.length := by rw [← h.1]; exact hi
  exact ⟨_, h.2 i _ _ (List.getElem?_eq_getElem hi) (List.getElem?_eq_getElem hj)⟩
theorem Lns.nil {a : Ad} {H : Hp} : Lns a H [] [] := ⟨rfl, fun i v m e => by simp at e⟩
theorem Lns.snoc {a : Ad} {H : Hp} {ps : List V} {ms : List Int} {v : V} {m : Int} (h : Lns a H ps ms) (k : LnA a H v m) : Lns a H (ps ++ [v]) (ms ++ [m]) := by
  refine ⟨by rw [List.length_append, List.length_append, h.1]; rfl, fun i v' m' e1 e2 => ?_⟩
  by_cases hi : i < ps.length
  · rw [List.getElem?_append_left hi] at e1
    rw [List.getElem?_append_left (by rw [← h.1]; exact hi)] at e2
    exact h.2 i v' m' e1 e2
  · rw [List.getElem?_append_right (by omega)] at e1
    rw [List.getElem?_append_right (by rw [← h.1]; omega)] at e2
    rw [← h.1] at e2
    cases hj : i - ps.length with
    | zero =>
      rw [hj] at e1 e2
      cases e1
      cases e2
      exact k
    | succ n =>
      rw [hj] at e1
      simp at e1
def LnX (H : Hp) (l : V) (xs : List V) : Prop := (l = .non ∧ xs = []) ∨ ∃ lp, l = .ref lp ∧ H lp = some (.lst xs)
structure WK (K : PySem.W.Frag) (a : Ad) (H : Hp) (z q k l : V) (bq bl : Bool) : Prop where
  z : okI K H z
  q : QK K H q bq
  k : okI K H k
  l : LnK K a H l bl
theorem WK.same {K : PySem.W.Frag} {a : Ad} {H H' : Hp} {z q k l : V} {bq bl : Bool} (h : WK K a H z q k l bq bl) (S : Same H H') : WK K a H' z q k l bq bl := ⟨h.z.same S, h.q.same S, h.k.same S, h.l.same S⟩
def gV1 : List V → List V → List V
  | [s, z], [l] => [s, z, .non, .non, l]
  | _, _ => []
def gV2 : List V → List V → List V
  | [s], [q, k] => [s, .int 0, q, k, .non]
  | _, _ => []
def gW1 : List Value → List Value → List Value
  | [s, z], [l] => [s, z, .none, .none, l]
  | _, _ => []
def gW2 (t : Tok) : List Value → List Value → List Value
  | [s], [q, k] => [s, .int 0 t, q, k, .none]
  | _, _ => []
theorem kb1 {K : PySem.W.Frag} {fd : FuncData} (h : ∀ (s : Shared) (x y z : Value), K.In s.heap → BindsTo s fd ⟨[x, y], [("lines", z)]⟩ ((["self", "zone", "quiet", "wake", "lines"] : List Str).zip [x, y, .none, .none, z])) :
    KBinds K fd ["self", "zone", "quiet", "wake", "lines"] ["lines"] gW1 gV1 where
  to := fun s us ws X hl => by
    rcases us with _ | ⟨x, _ | ⟨y, _ | ⟨c, us⟩⟩⟩ <;> rcases ws with _ | ⟨d, _ | ⟨e, ws⟩⟩ <;> first | exact h s _ _ _ X | cases hl
  rel := fun r rz => by
    cases r with
    | nil => exact .nil
    | cons r1 r =>
      cases r with
      | nil => cases rz <;> exact .nil
      | cons r2 r =>
        cases r with
        | cons _ _ => cases rz <;> exact .nil
        | nil =>
          cases rz with
          | nil => exact .nil
          | cons r3 rz =>
            cases rz with
            | nil => exact .cons r1 (.cons r2 (.cons rfl (.cons rfl (.cons r3 .nil))))
            | cons _ _ => exact .nil
theorem kb2 {K : PySem.W.Frag} {fd : FuncData} {t : Tok} (h : ∀ (s : Shared) (x y z : Value), K.In s.heap → BindsTo s fd ⟨[x], [("quiet", y), ("wake", z)]⟩ ((["self", "zone", "quiet", "wake", "lines"] : List Str).zip [x, .int 0 t, y, z, .none])) :
    KBinds K fd ["self", "zone", "quiet", "wake", "lines"] ["quiet", "wake"] (gW2 t) gV2 where
  to := fun s us ws X hl => by
    rcases us with _ | ⟨x, _ | ⟨c, us⟩⟩ <;> rcases ws with _ | ⟨d, _ | ⟨e, _ | ⟨g, ws⟩⟩⟩ <;> first | exact h s _ _ _ X | cases hl
  rel := fun r rz => by
    cases r with
    | nil => exact .nil
    | cons r1 r =>
      cases r with
      | cons _ _ => cases rz <;> exact .nil
      | nil =>
        cases rz with
        | nil => exact .nil
        | cons r2 rz =>
          cases rz with
          | nil => exact .nil
          | cons r3 rz =>
            cases rz with
            | nil => exact .cons r1 (.cons ⟨t, rfl⟩ (.cons r2 (.cons r3 (.cons rfl .nil))))
            | cons _ _ => exact .nil
def sp_is_whole (K : PySem.W.Frag) (a : Ad) : Sp := fun vs H Q E => ∃ x, vs = [x] ∧ okI K H x ∧ Q (.bl (wholeV x)) H
def sp_is_whole_between (K : PySem.W.Frag) (a : Ad) : Sp := fun vs H Q E => ∃ x lo hi, vs = [x, .int lo, .int hi] ∧ okI K H x ∧ Q (.bl (betwV x lo hi)) H
def sp_is_whole_from (K : PySem.W.Frag) (a : Ad) : Sp := fun vs H Q E => ∃ x lo, vs = [x, .int lo] ∧ okI K H x ∧ Q (.bl (fromV x lo)) H
def sp_is_minute_of_day (K : PySem.W.Frag) (a : Ad) : Sp := fun vs H Q E => ∃ x, vs = [x] ∧ okI K H x ∧ Q (.bl (betwV x 0 1439)) H
def sp_is_quiet_hours (K : PySem.W.Frag) (a : Ad) : Sp := fun vs H Q E => ∃ (x : V) (b : Bool), vs = [x] ∧ QK K H x b ∧ Q (.bl b) H
def sp_check_zone (K : PySem.W.Frag) (a : Ad) : Sp := fun vs H Q E => ∃ x : V, vs = [x] ∧ okI K H x ∧ ((betwV x (-1439) 1439 = true ∧ Q .non H) ∨ (betwV x (-1439) 1439 = false ∧ E (.ref a.NoClock) none H))
def sp_check_quiet (K : PySem.W.Frag) (a : Ad) : Sp := fun vs H Q E => ∃ (x : V) (b : Bool), vs = [x] ∧ QK K H x b ∧ ((b = true ∧ Q .non H) ∨ (b = false ∧ E (.ref a.NoClock) none H))
def sp_check_minute_of_hour (K : PySem.W.Frag) (a : Ad) : Sp := fun vs H Q E => ∃ i : Int, vs = [.int i] ∧ 0 ≤ i ∧ i ≤ 59 ∧ Q .non H
def sp_is_name (K : PySem.W.Frag) (a : Ad) : Sp := fun vs H Q E => ∃ x, vs = [x] ∧ okN H x ∧ ∀ H', Same H H' → Q (.bl (nameB x)) H'
def sp_are_unlike_names (K : PySem.W.Frag) (a : Ad) : Sp := fun vs H Q E => ∃ (x : V) (b : Bool), vs = [x] ∧ NmIs K H x b ∧ ∀ H', Same H H' → Q (.bl b) H'
def sp_Hour___init__ (K : PySem.W.Frag) (a : Ad) : Sp := fun vs H Q E => ∃ (p dx : Addr) (i : Int), vs = [.ref p, .int i] ∧ H p = some (.ins a.Hour dx []) ∧ 0 ≤ i ∧ i ≤ 59 ∧ Q .non (upd H p (.ins a.Hour dx [("minute", .int i)]))
def sp_Line___init__ (K : PySem.W.Frag) (a : Ad) : Sp := fun vs H Q E => ∃ (p dx fp yp rp df dy : Addr) (ff fy : List (Str × V)), vs = [.ref p, .ref fp, .ref yp, .ref rp, .bl false, .non] ∧ H p = some (.ins a.Line dx []) ∧ H fp = some (.ins a.Any df ff) ∧ H yp = some (.ins a.Hour dy fy) ∧ H rp = some (.lst [.str "mail"]) ∧ ∀ l H', But p H H' → H' p = some (.ins a.Line dx (lFs (.ref fp) (.ref yp) (.ref l) (.bl false) .non)) → Q .non H'
def sp_check_by_way (K : PySem.W.Frag) (a : Ad) : Sp := fun vs H Q E => ∃ (yp rp dy : Addr) (fy : List (Str × V)), vs = [.ref yp, .ref rp, .bl false, .non] ∧ H yp = some (.ins a.Hour dy fy) ∧ H rp = some (.lst [.str "mail"]) ∧ Q .non H
def sp_Wishes___init__ (K : PySem.W.Frag) (a : Ad) : Sp := fun vs H Q E => ∃ (p dx : Addr) (z q k l : V) (bq bl : Bool), vs = [.ref p, z, q, k, l] ∧ H p = some (.ins a.Wishes dx []) ∧ WK K a H z q k l bq bl ∧ ((zqB z bq = false ∧ ∀ H', Same H H' → E (.ref a.NoClock) none H') ∨ (zqB z bq = true ∧ (wkB k q && bl) = false ∧ ∀ H', Same H H' → E (.ref a.NoWish) none H') ∨ (zqB z bq = true ∧ (wkB k q && bl) = true ∧ ∃ xs, LnX H l xs ∧ ∀ l' H', But p H H' → H l' = none → H' l' = some (.lst xs) → H' p = some (.ins a.Wishes dx (wFs z q k (.ref l'))) → Q .non H'))
def sp_check_wake (K : PySem.W.Frag) (a : Ad) : Sp := fun vs H Q E => ∃ k q : V, vs = [k, q] ∧ okI K H k ∧ ((wkB k q = true ∧ Q .non H) ∨ (wkB k q = false ∧ E (.ref a.NoWish) none H))
def sp_check_lines (K : PySem.W.Frag) (a : Ad) : Sp := fun vs H Q E => ∃ (l : V) (b : Bool), vs = [l] ∧ LnK K a H l b ∧ ((b = true ∧ ∀ H', Same H H' → Q .non H') ∨ (b = false ∧ ∀ H', Same H H' → E (.ref a.NoWish) none H'))
def sp_law_begin (K : PySem.W.Frag) (a : Ad) : Sp := fun vs H Q E => ∃ c : Int, vs = [.int c] ∧ ∀ p a b c, H p = none → Q (.ref p) (upd H p (.lst [.int a, .int b, .int c]))
def sp_law_next (K : PySem.W.Frag) (a : Ad) : Sp := fun vs H Q E => ∃ (w : Addr) (m : Int), vs = [.ref w, .int m] ∧ Well3 H w ∧ 0 < m ∧ m < 2 ^ 62 ∧ ∀ (r : Int) (H' : Hp), 0 ≤ r → r < m → Well3 H' w → But w H H' → Q (.int r) H'
def sp_law_quiet (K : PySem.W.Frag) (a : Ad) : Sp := fun vs H Q E => ∃ (w : Addr), vs = [.ref w] ∧ Well3 H w ∧ ∀ (p : Addr) (s e : Int) (H' : Hp), 0 ≤ s → s ≤ 1439 → 0 ≤ e → e ≤ 1439 → s ≠ e → Well3 H' w → But w H H' → H p = none → H' p = some (.tup [.int s, .int e]) → Q (.ref p) H'
def sp_law_refused (K : PySem.W.Frag) (a : Ad) : Sp := fun vs H Q E => ∃ (z q k l : V) (bq bl : Bool), vs = [z, q, k, l] ∧ WK K a H z q k l bq bl ∧ ((zqB z bq = false ∧ ∀ H', Same H H' → Q (.str "clock") H') ∨ (zqB z bq = true ∧ (wkB k q && bl) = false ∧ ∀ H', Same H H' → Q (.str "wish") H'))
def sp_law_no_zones (K : PySem.W.Frag) (a : Ad) : Sp := fun vs H Q E => ∃ (z : Int), vs = [.int z] ∧ -1439 ≤ z ∧ z ≤ 1439 ∧ ∀ (p : Addr) (xs : List V) (H' : Hp), Same H H' → H p = none → H' p = some (.lst xs) → xs.length = 8 → (∀ x ∈ xs, okI K H' x ∧ betwV x (-1439) 1439 = false) → Q (.ref p) H'
def sp_law_no_quiet (K : PySem.W.Frag) (a : Ad) : Sp := fun vs H Q E => ∃ (hp : Addr) (s e : Int), vs = [.ref hp] ∧ H hp = some (.tup [.int s, .int e]) ∧ 0 ≤ s ∧ s ≤ 1439 ∧ 0 ≤ e ∧ e ≤ 1439 ∧ ∀ (p : Addr) (xs : List V) (H' : Hp), Same H H' → H p = none → H' p = some (.lst xs) → xs.length = 14 → (∀ x ∈ xs, QK K H' x false) → Q (.ref p) H'
def sp_law_no_wakes (K : PySem.W.Frag) (a : Ad) : Sp := fun vs H Q E => ∃ (n : Int), vs = [.int n] ∧ 0 ≤ n ∧ n < 1000000 ∧ ∀ (p : Addr) (xs : List V) (H' : Hp), Same H H' → H p = none → H' p = some (.lst xs) → xs.length = 7 → (∀ x ∈ xs, okI K H' x ∧ isNonV x = false ∧ fromV x 0 = false) → Q (.ref p) H'
def sp_law_no_lines (K : PySem.W.Frag) (a : Ad) : Sp := fun vs H Q E => ∃ (lp : Addr) (ps : List V) (ms : List Int), vs = [.ref lp] ∧ H lp = some (.lst ps) ∧ ps.length ≤ 10 ∧ Lns a H ps ms ∧ ∀ (p : Addr) (xs : List V) (H' : Hp), Same H H' → H p = none → H' p = some (.lst xs) → xs.length = 13 → (∀ x ∈ xs, LnK K a H' x false ∧ ∀ r, x = .ref r → H r = none) → Q (.ref p) H'
def sp_law_minutes (K : PySem.W.Frag) (a : Ad) : Sp := fun vs H Q E => ∃ (lp : Addr) (ps : List V) (ms : List Int), vs = [.ref lp] ∧ H lp = some (.lst ps) ∧ ps.length ≤ 10 ∧ Lns a H ps ms ∧ ∀ (p : Addr) (H' : Hp), Same H H' → H' p = some (.lst (ms.map V.int)) → Q (.ref p) H'
def sp_law_right (K : PySem.W.Frag) (a : Ad) : Sp := fun vs H Q E => ∃ (wp dx lp mp : Addr) (z : Int) (q k : V) (ps : List V) (ms : List Int), vs = [.ref wp, .int z, q, k, .ref mp] ∧ H wp = some (.ins a.Wishes dx (wFs (.int z) q k (.ref lp))) ∧ H lp = some (.lst ps) ∧ ps.length ≤ 10 ∧ Lns a H ps ms ∧ H mp = some (.lst (ms.map V.int)) ∧ (q = .non ∨ ∃ hp s e, q = .ref hp ∧ H hp = some (.tup [.int s, .int e])) ∧ (k = .non ∨ ∃ n, k = .int n) ∧ ∀ H', Same H H' → Q (.bl true) H'
def sp_law_odd_right (K : PySem.W.Frag) (a : Ad) : Sp := fun vs H Q E => ∃ (w hp lp : Addr) (z n s e : Int) (ps : List V) (ms : List Int), vs = [.ref w, .int z, .ref hp, .int n, .ref lp] ∧ Well3 H w ∧ -1439 ≤ z ∧ z ≤ 1439 ∧ 0 ≤ n ∧ n < 1000000 ∧ H hp = some (.tup [.int s, .int e]) ∧ 0 ≤ s ∧ s ≤ 1439 ∧ 0 ≤ e ∧ e ≤ 1439 ∧ s ≠ e ∧ H lp = some (.lst ps) ∧ lp ≠ w ∧ ps.length ≤ 10 ∧ Lns a H ps ms ∧ ∀ H', Well3 H' w → But w H H' → Q (.bl true) H'
def spL (K : PySem.W.Frag) : Sp := fun vs H Q _ => ∃ (a : Addr) (ns : List Int), vs = [.ref a] ∧ SqL K H a (ns.map V.int) ∧ ns.length ≤ 63 ∧ ∀ H', Q (.bl true) H'
abbrev sp_law (K : PySem.W.Frag) (_ : Ad) : Sp := spL K
section
variable {P : Program} {w : World} {K : PySem.W.Frag} {mg : Str → Option Value} {base : Heap} {f : Addr} {fd : FuncData} {a : Ad}
theorem drw3 {H : Hp} {w : Addr} {m : Int} {Q : VK} {E : XK} (W : Well3 H w) (h0 : 0 < m) (h1 : m < 2 ^ 62) (q : ∀ (r : Int) (H' : Hp), 0 ≤ r → r < m → Well3 H' w → But w H H' → Q (.int r) H') : sp_law_next K a [.ref w, .int m] H Q E := ⟨w, m, rfl, W, h0, h1, q⟩
theorem ok_is_whole (B : Bt K mg a)  (F : Fun K "is_whole" "is_whole" s_is_whole f fd) : FnOk P w K mg base CX0 1 f fd ["thing"] (sp_is_whole K a) := by
  refine F.ok sc_is_whole (fun vs H Q E h => ?_) (fun cdv A outer s H vs Q E hr h => ?_)
  · obtain ⟨x, rfl, _⟩ := h
    rfl
  obtain ⟨x, rfl, ⟨t, ty, ki, kb⟩, q⟩ := h
  refine ⟨_, (pss_of (qss_one (qs_ret (qe_of (pe_and (pe_callB (isiG_at (K := K) (T := "int") rfl) rfl B.isinstance PyProof.Rows.boot_isinstance (pa_of (qa_c (pv 0) (qa_c (pe_bltn (v := .ty "int") rfl B.int PyProof.Rows.boot_int rfl) qa_nil))) (he := star_plain _ _ _ rfl) (hpl := plain_any rfl)) (pe_one (pe_not (pe_callB (isiG_at (K := K) (T := "bool") rfl) rfl B.isinstance PyProof.Rows.boot_isinstance (pa_of (qa_c (pv 0) (qa_c (pe_bltn (v := .ty "bool") rfl B.bool PyProof.Rows.boot_bool rfl) qa_nil))) (he := star_plain _ _ _ rfl) (hpl := plain_any rfl))))))))), ?_⟩
  walk_at "w0"
  refine ⟨x, t, _, rfl, ty, ki, ?_⟩
  walk_at "w0"
  cases x <;> try simp only [isIntV, wholeV, w_seq, w_next, w_ifS, w_ret, w_retN, w_drop, w_asg, w_gName, w_gSub, w_var, w_c, w_op, w_un, w_rU, w_rI0, w_rI, w_test, w_b, w_and, w_or, w_not, w_andV, w_orV, w_notV, w_if, w_cons, w_nil, w_tup, w_lst, w_call, w_cB, w_eq, w_ne, w_isN, w_notN, w_chain, w_sl, w_part, w_noPart, w_forL, w_for1, w_for2, w_K, w_for3, w_isnotB, w_raise, w_try, w_KX, w_cut, w_compL, w_comp1, w_comp2, w_yes, w_pick0, w_pickN, w_pickS, w_bm, w_bm0, w_tyS, w_addS, w_slS, w_blkK, w_strs, w_methD, w_makeN, w_make, w_fld, w_gTup, w_gCons, w_gNil, w_sFld, w_compS, w_tryB, w_bmake, w_noKeys, w_bIf, w_makeK, w_nev, w_never, Option.getD_some,  exists_const, false_or, or_false, exists_false, w_s1, w_s2, w_s3, w_s4, w_s5, L2.start, List.map_cons, List.map_nil, List.length_cons, List.length_nil, List.replicate, List.replicate_zero, List.replicate_succ, Nat.reduceAdd, Nat.reduceSub, Nat.reduceLeDiff, List.cons_append, List.nil_append, List.append_nil, List.set_cons_zero, List.set_cons_succ, List.getElem?_cons_zero, List.getElem?_cons_succ, Option.some.injEq, V.int.injEq, V.bl.injEq, V.ref.injEq, V.str.injEq, V.ty.injEq, List.cons.injEq, and_true, true_and, exists_eq_left, exists_eq_left', exists_and_left, exists_eq, exists_eq', and_self, decide_eq_true_eq, Bool.not_eq_true', decide_eq_false_iff_not, Bool.true_eq_false, Bool.false_eq_true, if_true, if_false, ite_true, ite_false, false_and, and_false, and_assoc, reduceCtorEq] at * <;> first | exact q | exact ⟨_, t, _, rfl, ty, kb, q⟩ | (refine ⟨_, t, _, rfl, ty, kb, ?_⟩; simpa [isBoolV] using q)
theorem ok_is_whole_from (B : Bt K mg a) (C_is_whole : CalX P w K mg base "is_whole" ["thing"] 1 (sp_is_whole K a)) (F : Fun K "is_whole_from" "is_whole_from" s_is_whole_from f fd) : FnOk P w K mg base CX0 2 f fd ["thing", "least"] (sp_is_whole_from K a) := by
  refine F.ok sc_is_whole_from (fun vs H Q E h => ?_) (fun cdv A outer s H vs Q E hr h => ?_)
  · obtain ⟨x, lo, rfl, _⟩ := h
    rfl
  obtain ⟨x, lo, rfl, ox, q⟩ := h
  refine ⟨_, (pss_of (qss_one (qs_ret (qe_of (pe_and (pe_calN C_is_whole (hr.mono (by decide)) rfl (pa_of (qa_c (pv 0) qa_nil)) (he := star_plain _ _ _ rfl) (hpl := plain_any rfl)) (pe_one (pe_cmpR op_le (pv 1) (pv 0) (nomark _)))))))), ?_⟩
  walk_at "w0"
  refine ⟨x, rfl, ox, ?_⟩
  cases x <;> simp_all [wholeV, fromV]
theorem ok_is_whole_between (B : Bt K mg a) (C_is_whole : CalX P w K mg base "is_whole" ["thing"] 1 (sp_is_whole K a)) (F : Fun K "is_whole_between" "is_whole_between" s_is_whole_between f fd) : FnOk P w K mg base CX0 2 f fd ["thing", "least", "most"] (sp_is_whole_between K a) := by
  refine F.ok sc_is_whole_between (fun vs H Q E h => ?_) (fun cdv A outer s H vs Q E hr h => ?_)
  · obtain ⟨x, lo, hi, rfl, _⟩ := h
    rfl
  obtain ⟨x, lo, hi, rfl, ox, q⟩ := h
  refine ⟨_, (pss_of (qss_one (qs_ret (qe_of (pe_and (pe_calN C_is_whole (hr.mono (by decide)) rfl (pa_of (qa_c (pv 0) qa_nil)) (he := star_plain _ _ _ rfl) (hpl := plain_any rfl)) (pe_and (pe_cmpR op_le (pv 1) (pv 0) (nomark _)) (pe_one (pe_cmpR op_le (pv 0) (pv 2) (nomark _))))))))), ?_⟩
  walk_at "w0"
  refine ⟨x, rfl, ox, ?_⟩
  cases x <;> simp_all [wholeV, betwV]
  split <;> simp_all
theorem ok_is_minute_of_day (B : Bt K mg a) (C_is_whole_between : CalX P w K mg base "is_whole_between" ["thing", "least", "most"] 2 (sp_is_whole_between K a)) (F : Fun K "is_minute_of_day" "is_minute_of_day" s_is_minute_of_day f fd) : FnOk P w K mg base CX0 3 f fd ["thing"] (sp_is_minute_of_day K a) := by
  refine F.ok sc_is_minute_of_day (fun vs H Q E h => ?_) (fun cdv A outer s H vs Q E hr h => ?_)
  · obtain ⟨x, rfl, _⟩ := h
    rfl
  obtain ⟨x, rfl, ox, q⟩ := h
  refine ⟨_, (pss_of (qss_one (qs_ret (qe_of (pe_calN C_is_whole_between (hr.mono (by decide)) rfl (pa_of (qa_c (pv 0) (qa_c pe_int (qa_c (pe_op op_sub (pe_glob (v := .int 1440) rfl B.MINUTES_OF_DAY ⟨_, rfl⟩) pe_int) qa_nil)))) (he := star_plain _ _ _ rfl) (hpl := plain_any rfl)))))), ?_⟩
  walk_at "w0"
  exact ⟨x, 0, 1440 - 1, rfl, ox, q⟩
theorem ok_check_minute_of_hour (B : Bt K mg a) (C_is_whole_between : CalX P w K mg base "is_whole_between" ["thing", "least", "most"] 2 (sp_is_whole_between K a)) (F : Fun K "check_minute_of_hour" "check_minute_of_hour" s_check_minute_of_hour f fd) : FnOk P w K mg base CX0 3 f fd ["minute"] (sp_check_minute_of_hour K a) := by
  refine F.ok sc_check_minute_of_hour (fun vs H Q E h => ?_) (fun cdv A outer s H vs Q E hr h => ?_)
  · obtain ⟨i, rfl, _⟩ := h
    rfl
  obtain ⟨i, rfl, i0, i1, q⟩ := h
  refine ⟨_, (pss_of (qss_one (qs_if (pt_not (pt_val (pe_calN C_is_whole_between (hr.mono (by decide)) rfl (pa_of (qa_c (pv 0) (qa_c pe_int (qa_c (pe_op op_sub (pe_glob (v := .int 60) rfl B.MINUTES_OF_HOUR ⟨_, rfl⟩) pe_int) qa_nil)))) (he := star_plain _ _ _ rfl) (hpl := plain_any rfl)))) (qss_of pss_never) qss_nil))), ?_⟩
  have e : betwV (.int i) 0 (60 - 1) = true := by simp only [betwV, Bool.and_eq_true, decide_eq_true_eq]; omega
  walk_at "w0"
  refine ⟨_, _, _, rfl, ⟨_, .int i, by kernel_rfl, by kernel_rfl⟩, ?_⟩
  exists e
  exact q
theorem ok_is_name (B : Bt K mg a)  (F : Fun K "is_name" "is_name" s_is_name f fd) : FnOk P w K mg base CX0 1 f fd ["thing"] (sp_is_name K a) := by
  refine F.ok sc_is_name (fun vs H Q E h => ?_) (fun cdv A outer s H vs Q E hr h => ?_)
  · obtain ⟨x, rfl, _⟩ := h
    rfl
  obtain ⟨x, rfl, ox, q⟩ := h
  refine ⟨_, (pss_of (qss_cons (qs_if (L2.PW.pt (pw_or (pt_not (pt_val (pe_callB call_isi_str rfl B.isinstance PyProof.Rows.boot_isinstance (pa_of (qa_c (pv 0) (qa_c (pe_bltn (v := .ty "str") rfl B.str PyProof.Rows.boot_str rfl) qa_nil))) (he := star_plain _ _ _ rfl) (hpl := plain_any rfl)))) (pw_or (pt_cmpR op_lt (pe_callB call_len_str rfl B.len PySem.boot_len (pa_of (qa_c (pv 0) qa_nil))) pe_int (nomark _)) (pw_or1 (pt_cmpR op_gt (pe_callB call_len_str rfl B.len PySem.boot_len (pa_of (qa_c (pv 0) qa_nil))) (pe_glob (v := .int 8) rfl B.MOST_LETTERS ⟨_, rfl⟩) (nomark _)))))) (qss_one (qs_ret (qe_of pe_bl))) qss_nil) (qss_one (qs_ret (qe_of (pe_callB (call_all rfl) rfl B.all PyProof.Rows.boot_all (pa_of (qa_c (pe_compB ["sign"] [none] rfl (by kernel_rfl) (pi_str (pv 0)) (fun cl C s H fp => ⟨(pg_name (i := 0) (by decide : List.Nodup (["sign"] : List Str)) rfl (Or.inl (by kernel_rfl)) (Or.inr (by kernel_rfl))), pts_nil, (pe_cmpR op_in_str (pv 0 (hv := Or.inl (by kernel_rfl))) (pe_glob (v := .str "abcdefghijklmnopqrstuvwxyz") (gl_of (by kernel_rfl)) B.LETTERS ⟨_, rfl⟩) (by with_unfolding_all rfl))⟩)) qa_nil)) (he := star_plain _ _ _ rfl) (hpl := plain_any rfl))))))), ?_⟩
  cases x with
  | str u =>
    obtain ⟨hp, hl⟩ := id ox
    exists isStrV
    refine ⟨ox, sz8 hl, ?_⟩
    by_cases h1 : ((u.length : Nat) : Int) < 1
    · rw [if_pos h1]
      have e : nameB (.str u) = false := decide_eq_false fun g => by have := g.1; omega
      rw [e] at q
      exact q _ fun _ _ z => z
    rw [if_neg h1]
    refine ⟨sz8 hl, ?_⟩
    by_cases h2 : (8 : Int) < ((u.length : Nat) : Int)
    · rw [if_pos h2]
      have e : nameB (.str u) = false := decide_eq_false fun g => by have := g.2.1; omega
      rw [e] at q
      exact q _ fun _ _ z => z
    rw [if_neg h2]
    refine ⟨hp, ?_⟩
    refine CompS.by (fun i acc σ H' => acc = (u.cps.toList.take i).map (fun c => V.bl (!(Builtin.Str.occurrences letters ⟨#[c]⟩ 0 letters.length 1).isEmpty)) ∧ (∃ v, σ = [v]) ∧ H' = H) (sz8 hl) ⟨rfl, ⟨_, rfl⟩, rfl⟩ ?_ ?_ ?_
    · rintro i c acc σ H' hc ⟨rfl, ⟨v, rfl⟩, rfl⟩
      have hc' : u.cps.toList[i]? = some c := by simpa using hc
      have ea : (u.cps.toList.take i).map (fun c => V.bl (!(Builtin.Str.occurrences letters ⟨#[c]⟩ 0 letters.length 1).isEmpty)) ++ [V.bl (!(Builtin.Str.occurrences letters ⟨#[c]⟩ 0 letters.length 1).isEmpty)] = (u.cps.toList.take (i + 1)).map (fun c => V.bl (!(Builtin.Str.occurrences letters ⟨#[c]⟩ 0 letters.length 1).isEmpty)) := by
        rw [List.take_succ, hc', List.map_append]
        rfl
      walk_at "w0"
      first | exact ea | exact ⟨ea, ⟨_, rfl⟩, rfl⟩
    · rintro i acc σ H' ⟨rfl, _, _⟩
      rw [List.length_map, List.length_take]
      omega
    · rintro acc σ H' ⟨rfl, ⟨v, rfl⟩, rfl⟩ D hD
      have e : (u.cps.toList.take u.cps.size).map (fun c => V.bl (!(Builtin.Str.occurrences letters ⟨#[c]⟩ 0 letters.length 1).isEmpty)) = (u.cps.toList.map fun c => !(Builtin.Str.occurrences letters ⟨#[c]⟩ 0 letters.length 1).isEmpty).map V.bl := by
        rw [List.take_of_length_le (by simp), List.map_map]
        rfl
      rw [e]
      refine ⟨D, rfl, _, SqL.of upd_same, ?_⟩
      have e2 : nameB (.str u) = decide (∀ c ∈ u.cps.toList, 97 ≤ c ∧ c ≤ 122) := by
        rw [Bool.eq_iff_iff]
        refine ⟨fun g => ?_, fun g => ?_⟩
        · have g' : goodN u := of_decide_eq_true g
          exact decide_eq_true g'.2.2
        · exact decide_eq_true (p := goodN u) ⟨by omega, by omega, of_decide_eq_true g⟩
      rw [name_all hp, ← e2]
      exact q _ (same_new hD _)
  | non =>
    exists isStrV
    exact ⟨ox, q _ fun _ _ z => z⟩
  | bl b =>
    exists isStrV
    exact ⟨ox, q _ fun _ _ z => z⟩
  | int b =>
    exists isStrV
    exact ⟨ox, q _ fun _ _ z => z⟩
  | ref b =>
    exists isStrV
    exact ⟨ox, q _ fun _ _ z => z⟩
  | _ => exact ox.elim
theorem ok_law_begin (B : Bt K mg a)  (F : Fun K "_law_begin" "_law_begin" s_law_begin f fd) : FnOk P w K mg base CX0 1 f fd ["_law_cell"] (sp_law_begin K a) := by
  refine F.ok sc_law_begin (fun vs H Q E h => ?_) (fun cdv A outer s H vs Q E hr h => ?_)
  · obtain ⟨c, rfl, _⟩ := h
    rfl
  obtain ⟨c, rfl, q⟩ := h
  refine ⟨_, (pss_of (qss_one (qs_ret (qe_lst (qa_c (pe_op op_mul (pe_op op_fdivL (pv 0) pe_int) (pe_op op_sub pe_int (pe_op op_mod (pv 0) pe_int))) (qa_c (pe_op op_mod (pv 0) pe_int) (qa_c pe_int qa_nil))))))), ?_⟩
  walk_at "w0"
  exact ⟨⟨by decide, by decide⟩, by decide, .inr ⟨by omega, by omega⟩, by decide, by decide, fun p hp => q p _ _ _ hp⟩
theorem ok_law_next (B : Bt K mg a)  (F : Fun K "_law_next" "_law_next" s_law_next f fd) : FnOk P w K mg base CX0 1 f fd ["_law_state", "_law_base"] (sp_law_next K a) := by
  refine F.ok sc_law_next (fun vs H Q E h => ?_) (fun cdv A outer s H vs Q E hr h => ?_)
  · obtain ⟨wl, m, rfl, _⟩ := h
    rfl
  obtain ⟨wl, m, rfl, ⟨a, b, c, hw⟩, m0, m1, q⟩ := h
  refine ⟨_, (pss_of (qss_cons (qs_if (pt_cmpR op_gt (pe_ix ix_list (pv 0) pe_int (fun _ _ => rfl)) pe_int (nomark _)) (qss_cons (qs_set (i := 2) sc_law_next.nd rfl (Or.inl rfl) (qe_of (pe_op op_mod (pe_ix ix_list (pv 0) pe_int (fun _ _ => rfl)) (pv 1))) (by kernel_rfl)) (qss_cons (qs_of (ps_asg (pe_op op_fdivL (pe_ix ix_list (pv 0) pe_int (fun _ _ => rfl)) (pv 1)) (pg_sub (pv 0) pe_int set_list))) (qss_one (qs_ret (qe_of (pv 2)))))) qss_nil) (qss_cons (qs_of (ps_asg (pe_op op_add (pe_ix ix_list (pv 0) pe_int (fun _ _ => rfl)) pe_int) (pg_sub (pv 0) pe_int set_list))) (qss_cons (qs_set (i := 3) sc_law_next.nd rfl (Or.inl rfl) (qe_of (pe_op op_mod (pe_op op_mul (pe_op op_add (pe_op op_add (pe_ix ix_list (pv 0) pe_int (fun _ _ => rfl)) (pe_op op_mul pe_int (pe_ix ix_list (pv 0) pe_int (fun _ _ => rfl)))) pe_int) pe_int) pe_int)) (by kernel_rfl)) (qss_cons (qs_set (i := 3) sc_law_next.nd rfl (Or.inl rfl) (qe_of (pe_op op_mod (pe_op op_mul (pv 3) (pe_op op_add (pe_op op_fdivL (pv 3) pe_int) pe_int)) pe_int)) (by kernel_rfl)) (qss_cons (qs_set (i := 3) sc_law_next.nd rfl (Or.inl rfl) (qe_of (pe_op op_mod (pe_op op_mul (pv 3) (pe_op op_add (pe_op op_fdivL (pv 3) pe_int) pe_int)) pe_int)) (by kernel_rfl)) (qss_one (qs_ret (qe_of (pe_op op_mod (pe_op op_fdivL (pv 3) pe_int) (pv 1))))))))))), ?_⟩
  have em : ∀ x k : Int, 0 < k → 0 ≤ x % k ∧ x % k < k := fun x k h => ⟨Int.emod_nonneg _ (by omega), Int.emod_lt_of_pos _ h⟩
  walk_at "w0"
  refine ixl (SqL.of hw) (v := .int a) rfl ?_
  walk_at "w0"
  split
  · refine ixl (SqL.of hw) (v := .int a) rfl ?_
    walk_at "w0"
    refine ⟨m0, ?_⟩
    refine ixl (SqL.of hw) (v := .int a) rfl ?_
    walk_at "w0"
    refine ⟨⟨m0, m1⟩, ?_⟩
    refine setl hw (j := 0) rfl ?_
    exact q _ _ (em a m m0).1 (em a m m0).2 ⟨_, _, _, upd_same⟩ (But.upd _)
  · refine ixl (SqL.of hw) (v := .int c) rfl ?_
    walk_at "w0"
    refine setl hw (j := 2) rfl ?_
    refine ixl (SqL.of upd_same) (v := .int b) rfl ?_
    refine ixl (SqL.of upd_same) (v := .int (c + 1)) rfl ?_
    walk_at "w0"
    generalize hn1 : (b + 7919 * (c + 1) + 1) * 48271 % 2147483647 = n1
    have b1 : 0 ≤ n1 ∧ n1 < 2147483647 := hn1 ▸ em _ _ (by decide)
    generalize hn2 : n1 * (n1 / 1009 + 69621) % 2147483647 = n2
    have b2 : 0 ≤ n2 ∧ n2 < 2147483647 := hn2 ▸ em _ _ (by decide)
    refine ⟨.inl ⟨by decide, by decide⟩, .inr ⟨by decide, by decide⟩, by decide, ⟨by decide, by decide⟩, .inl ⟨by omega, by omega⟩, by decide, ⟨by decide, by decide⟩, .inl ⟨by omega, by omega⟩, by decide, ⟨by decide, by decide⟩, m0, ?_⟩
    exact q _ _ (em _ m m0).1 (em _ m m0).2 ⟨_, _, _, upd_same⟩ (But.upd _)
theorem ok_Hour___init__ (B : Bt K mg a) (C_check_minute_of_hour : CalX P w K mg base "check_minute_of_hour" ["minute"] 3 (sp_check_minute_of_hour K a)) (F : Fun K "__init__" "Hour.__init__" s_Hour___init__ f fd) : FnOk P w K mg base CX0 4 f fd ["self", "minute"] (sp_Hour___init__ K a) := by
  refine F.ok sc_Hour___init__ (fun vs H Q E h => ?_) (fun cdv A outer s H vs Q E hr h => ?_)
  · obtain ⟨p, dx, i, rfl, _⟩ := h
    rfl
  obtain ⟨p, dx, i, rfl, hp, i0, i1, q⟩ := h
  refine ⟨_, (pss_of (qss_cons (qs_of (ps_expr (pe_calN C_check_minute_of_hour (hr.mono (by decide)) rfl (pa_of (qa_c (pv 1) qa_nil)) (he := star_plain _ _ _ rfl) (hpl := plain_any rfl)))) (qss_one (qs_of (ps_fld (pv 0) (pv 1) rfl))))), ?_⟩
  walk_at "w0"
  refine ⟨i, rfl, i0, i1, ?_⟩
  walk_at "w0"
  exact ⟨_, _, _, hp, B.ck_Hour.cl, B.na_Hour_minute, by decide, q⟩
theorem ok_are_unlike_names (B : Bt K mg a) (C_is_name : CalX P w K mg base "is_name" ["thing"] 1 (sp_is_name K a)) (F : Fun K "are_unlike_names" "are_unlike_names" s_are_unlike_names f fd) : FnOk P w K mg base CX0 2 f fd ["thing"] (sp_are_unlike_names K a) := by
  refine F.ok sc_are_unlike_names (fun vs H Q E h => ?_) (fun cdv A outer s H vs Q E hr h => ?_)
  · obtain ⟨x, b, rfl, _⟩ := h
    rfl
  obtain ⟨x, b, rfl, hx, q⟩ := h
  refine ⟨_, (pss_of (qss_cons (qs_if (L2.PW.pt (pw_or (pt_not (pt_val (pe_callB (isiG_at (K := K) (T := "list") rfl) rfl B.isinstance PyProof.Rows.boot_isinstance (pa_of (qa_c (pv 0) (qa_c (pe_bltn (v := .ty "list") rfl B.list PyProof.Rows.boot_list rfl) qa_nil))) (he := star_plain _ _ _ rfl) (hpl := plain_any rfl)))) (pw_or1 (pt_not (pt_val (pe_callB (call_all rfl) rfl B.all PyProof.Rows.boot_all (pa_of (qa_c (pe_compB ["name"] [none] rfl (by kernel_rfl) (pi_list (pv 0)) (fun cl C s H fp => ⟨(pg_name (i := 0) (by decide : List.Nodup (["name"] : List Str)) rfl (Or.inl (by kernel_rfl)) (Or.inr (by kernel_rfl))), pts_nil, (pe_calN C_is_name (hr.mono (by decide)) (gl_of (by kernel_rfl)) (pa_of (qa_c (pv 0 (hv := Or.inl (by kernel_rfl))) qa_nil)) (he := star_plain _ _ _ rfl) (hpl := plain_any rfl))⟩)) qa_nil)) (he := star_plain _ _ _ rfl) (hpl := plain_any rfl))))))) (qss_one (qs_ret (qe_of pe_bl))) qss_nil) (qss_one (qs_ret (qe_of (pe_cmpR op_eq (pe_callB call_lenS rfl B.len PySem.boot_len (pa_of (qa_c (pe_callTy (call_setS rfl) rfl B.set PyProof.Rows.boot_set (pa_of (qa_c (pv 0) qa_nil))) qa_nil))) (pe_callB call_len_seq rfl B.len PySem.boot_len (pa_of (qa_c (pv 0) qa_nil))) (nomark _))))))), ?_⟩
  walk_at "w0"
  rcases hx with ⟨p, xs, rfl, hp, hl, hn, rfl⟩ | ⟨rfl, t, ty, e⟩
  · refine ⟨_, _, true, rfl, .lst hp, by kernel_rfl, ?_⟩
    exists Bool.not_true
    refine ⟨⟨xs, SqL.of hp⟩, ?_⟩
    refine CompL.by (xs := xs) (fun i acc σ H' => acc = ((xs.take i).map nameB).map V.bl ∧ (∃ v, σ = [v]) ∧ Same H H') (sz8 (by omega)) ⟨rfl, ⟨_, rfl⟩, fun _ _ z => z⟩ (fun i acc σ H' _ h => SqL.of (h.2.2 _ _ hp)) ?_ ?_ ?_
    · rintro i y acc σ H' hy ⟨rfl, ⟨v, rfl⟩, S1⟩
      have ea : ((xs.take i).map nameB).map V.bl ++ [V.bl (nameB y)] = ((xs.take (i + 1)).map nameB).map V.bl := by
        rw [List.take_succ, hy, List.map_append, List.map_append]
        rfl
      walk_at "w0"
      refine ⟨y, rfl, (hn y (List.mem_of_getElem? hy)).same S1, fun H2 S2 => ?_⟩
      first | exact ⟨ea, ⟨_, rfl⟩, S1.trans S2⟩ | exact ⟨ea, S1.trans S2⟩
    · rintro i acc σ H' ⟨rfl, _, _⟩
      rw [List.length_map, List.length_map, List.length_take]
      omega
    · rintro acc σ H' ⟨rfl, ⟨v, rfl⟩, S1⟩ D hD
      rw [List.take_length]
      have S2 := S1.trans (same_new hD (.lst ((xs.map nameB).map V.bl)))
      refine ⟨D, rfl, _, SqL.of upd_same, ?_⟩
      have eall : (xs.map nameB).all id = xs.all nameB := by rw [List.all_map]; rfl
      rw [eall]
      generalize upd H' D (.lst ((xs.map nameB).map V.bl)) = H2 at *
      by_cases ha : xs.all nameB = true
      · exists ha, Bool.not_true
        have es := all_str ha
        have hz : (xs.map strV).length = xs.length := List.length_map ..
        refine ⟨xs.map strV, by rw [← es]; exact SqL.of (S2 _ _ hp), by omega, fun p3 h3 => ?_⟩
        have S3 := same_new h3 (hoSet P w p3 (xs.map strV))
        refine ⟨xs.map strV, upd_same, ?_⟩
        walk_at "w0"
        refine ⟨xs, .inl (SqL.of (S3 _ _ (S2 _ _ hp))), ?_⟩
        walk_at "w0"
        have hq := q _ (S2.trans S3)
        have ed : namesB xs = decide ((((metS (xs.map strV)).length : Nat) : Int) = ((xs.length : Nat) : Int)) := by
          unfold namesB
          rw [ha, Bool.true_and]
          have := metS_all (xs.map strV)
          rw [hz] at this
          by_cases c : (xs.map strV).Nodup
          · rw [decide_eq_true c, decide_eq_true (by have := this.mpr c; omega)]
          · rw [decide_eq_false c, decide_eq_false (fun z => c (this.mp (by omega)))]
        rw [ed] at hq
        exact hq
      · have ha' := Bool.eq_false_iff.mpr ha
        exists ha', Bool.not_false
        have hq := q _ S2
        unfold namesB at hq
        rw [ha', Bool.false_and] at hq
        exact hq
  · refine ⟨x, t, false, rfl, ty, e, ?_⟩
    exists Bool.not_false
    exact q _ fun _ _ z => z
theorem ok_is_quiet_hours (B : Bt K mg a) (C_is_minute_of_day : CalX P w K mg base "is_minute_of_day" ["thing"] 3 (sp_is_minute_of_day K a)) (F : Fun K "is_quiet_hours" "is_quiet_hours" s_is_quiet_hours f fd) : FnOk P w K mg base CX0 4 f fd ["thing"] (sp_is_quiet_hours K a) := by
  refine F.ok sc_is_quiet_hours (fun vs H Q E h => ?_) (fun cdv A outer s H vs Q E hr h => ?_)
  · obtain ⟨x, b, rfl, _⟩ := h
    rfl
  obtain ⟨x, b, rfl, hx, q⟩ := h
  refine ⟨_, (pss_of (qss_cons (qs_if (pt_cmp (pc_isN (pv 0))) (qss_one (qs_ret (qe_of pe_bl))) qss_nil) (qss_cons (qs_if (L2.PW.pt (pw_or (pt_not (pt_val (pe_callB (isiG_at (K := K) (T := "tuple") rfl) rfl B.isinstance PyProof.Rows.boot_isinstance (pa_of (qa_c (pv 0) (qa_c (pe_bltn (v := .ty "tuple") rfl B.tuple PyProof.Rows.boot_tuple rfl) qa_nil))) (he := star_plain _ _ _ rfl) (hpl := plain_any rfl)))) (pw_or1 (pt_cmpR op_ne (pe_callB call_len_seq rfl B.len PySem.boot_len (pa_of (qa_c (pv 0) qa_nil))) pe_int (nomark _))))) (qss_one (qs_ret (qe_of pe_bl))) qss_nil) (qss_one (qs_ret (qe_of (pe_and (pe_calN C_is_minute_of_day (hr.mono (by decide)) rfl (pa_of (qa_c (pe_ix ix_tup (pv 0) pe_int (fun _ _ => rfl)) qa_nil)) (he := star_plain _ _ _ rfl) (hpl := plain_any rfl)) (pe_and (pe_calN C_is_minute_of_day (hr.mono (by decide)) rfl (pa_of (qa_c (pe_ix ix_tup (pv 0) pe_int (fun _ _ => rfl)) qa_nil)) (he := star_plain _ _ _ rfl) (hpl := plain_any rfl)) (pe_one (pe_cmpR op_ne (pe_ix ix_tup (pv 0) pe_int (fun _ _ => rfl)) (pe_ix ix_tup (pv 0) pe_int (fun _ _ => rfl)) (nomark _))))))))))), ?_⟩
  walk_at "w0"
  rcases hx with ⟨rfl, rfl⟩ | ⟨p, xs, rfl, hp, hy, rfl⟩ | ⟨nn, rfl, t, ty, e⟩
  · exists decide_true
    exact q
  · walk_at "w0"
    refine ⟨_, _, true, rfl, .tup hp, by kernel_rfl, ?_⟩
    exists Bool.not_true
    refine ⟨_, .inr (SqT.of hp), ?_⟩
    by_cases l2 : xs.length = 2
    · obtain ⟨x, y, rfl⟩ : ∃ x y, xs = [x, y] := by
        match xs, l2 with
        | [x, y], _ => exact ⟨x, y, rfl⟩
      have ox := hy x (by simp)
      have oy := hy y (by simp)
      rw [if_neg (by simp)]
      refine ixt (SqT.of hp) (v := x) rfl ?_
      walk_at "w0"
      refine ⟨x, rfl, ox, ?_⟩
      simp only [qtB] at q
      cases hb : betwV x 0 1439 with
      | false =>
        rw [hb, Bool.false_and, Bool.false_and] at q
        walk_at "w0"
        exact q
      | true =>
      rw [hb, Bool.true_and] at q
      walk_at "w0"
      refine ixt (SqT.of hp) (v := y) rfl ?_
      walk_at "w0"
      refine ⟨y, rfl, oy, ?_⟩
      cases hc : betwV y 0 1439 with
      | false =>
        rw [hc, Bool.false_and] at q
        walk_at "w0"
        exact q
      | true =>
      rw [hc, Bool.true_and] at q
      walk_at "w0"
      refine ixt (SqT.of hp) (v := x) rfl ?_
      walk_at "w0"
      refine ixt (SqT.of hp) (v := y) rfl ?_
      walk_at "w0"
      obtain ⟨i, rfl, _⟩ := betw_of hb
      obtain ⟨j, rfl, _⟩ := betw_of hc
      walk_at "w0"
      try simp only [V.int.injEq] at q
      exact q
    · rw [if_pos (by first | omega | (simp; omega) | (intro z; omega))]
      have qf : qtB xs = false := by
        unfold qtB
        split
        · exact absurd rfl l2
        · rfl
      rw [qf] at q
      exact q
  · have hn : decide (x = .non) = false := decide_eq_false nn
    exists hn, nn
    refine ⟨x, t, false, rfl, ty, e, ?_⟩
    exists Bool.not_false
    exact q
theorem ok_check_zone (B : Bt K mg a) (C_is_whole_between : CalX P w K mg base "is_whole_between" ["thing", "least", "most"] 2 (sp_is_whole_between K a)) (F : Fun K "check_zone" "check_zone" s_check_zone f fd) : FnOk P w K mg base (CXF P w) 3 f fd ["zone"] (sp_check_zone K a) := by
  refine Fun.okX F sc_check_zone (fun vs H Q E h => ?_) (fun cdv A outer s H vs Q E hr h => ?_)
  · obtain ⟨x, rfl, _⟩ := h
    rfl
  obtain ⟨x, rfl, ox, h⟩ := h
  refine ⟨_, (pss_of (qss_one (qs_if (pt_not (pt_val (pe_calX C_is_whole_between (hr.mono (by decide)) rfl (pa_of (qa_c (pv 0) (qa_c (pe_op op_sub pe_int (pe_glob (v := .int 1440) rfl B.MINUTES_OF_DAY ⟨_, rfl⟩)) (qa_c (pe_op op_sub (pe_glob (v := .int 1440) rfl B.MINUTES_OF_DAY ⟨_, rfl⟩) pe_int) qa_nil)))) (he := star_plain _ _ _ rfl) (hpl := plain_any rfl)))) (qss_of (pss_one (ps_raise (R := fun H9 => E (.ref a.NoClock) none H9) rfl rfl B.NoClock B.exc_NoClock (fun _ _ _ _ _ _ _ I hx hE => raiseX I hx hE)))) qss_nil))), ?_⟩
  walk_at "w0"
  refine ⟨_, _, _, rfl, ox, ?_⟩
  rcases h with ⟨b, q⟩ | ⟨b, q⟩
  · have e : betwV x (1 - 1440) (1440 - 1) = true := b
    exists e, Bool.not_true
    exact q
  · have e : betwV x (1 - 1440) (1440 - 1) = false := b
    exists e, Bool.not_false
    exact q
theorem ok_check_quiet (B : Bt K mg a) (C_is_quiet_hours : CalX P w K mg base "is_quiet_hours" ["thing"] 4 (sp_is_quiet_hours K a)) (F : Fun K "check_quiet" "check_quiet" s_check_quiet f fd) : FnOk P w K mg base (CXF P w) 5 f fd ["quiet"] (sp_check_quiet K a) := by
  refine Fun.okX F sc_check_quiet (fun vs H Q E h => ?_) (fun cdv A outer s H vs Q E hr h => ?_)
  · obtain ⟨x, b, rfl, _⟩ := h
    rfl
  obtain ⟨x, b, rfl, hx, h⟩ := h
  refine ⟨_, (pss_of (qss_one (qs_if (pt_not (pt_val (pe_calX C_is_quiet_hours (hr.mono (by decide)) rfl (pa_of (qa_c (pv 0) qa_nil)) (he := star_plain _ _ _ rfl) (hpl := plain_any rfl)))) (qss_of (pss_one (ps_raise (R := fun H9 => E (.ref a.NoClock) none H9) rfl rfl B.NoClock B.exc_NoClock (fun _ _ _ _ _ _ _ I hx hE => raiseX I hx hE)))) qss_nil))), ?_⟩
  walk_at "w0"
  refine ⟨_, _, rfl, hx, ?_⟩
  rcases h with ⟨rfl, q⟩ | ⟨rfl, q⟩
  · exists Bool.not_true
    exact q
  · exists Bool.not_false
    exact q
theorem ok_check_wake (B : Bt K mg a) (C_is_whole_from : CalX P w K mg base "is_whole_from" ["thing", "least"] 2 (sp_is_whole_from K a)) (F : Fun K "check_wake" "check_wake" s_check_wake f fd) : FnOk P w K mg base (CXF P w) 3 f fd ["wake", "quiet"] (sp_check_wake K a) := by
  refine Fun.okX F sc_check_wake (fun vs H Q E h => ?_) (fun cdv A outer s H vs Q E hr h => ?_)
  · obtain ⟨k, qq, rfl, _⟩ := h
    rfl
  obtain ⟨k, qq, rfl, ok, h⟩ := h
  refine ⟨_, (pss_of (qss_cons (qs_if (pt_cmp (pc_isN (pv 0))) (qss_one (qs_of ps_retN)) qss_nil) (qss_one (qs_if (L2.PW.pt (pw_or (pt_cmp (pc_isN (pv 1))) (pw_or1 (pt_not (pt_val (pe_calX C_is_whole_from (hr.mono (by decide)) rfl (pa_of (qa_c (pv 0) (qa_c pe_int qa_nil))) (he := star_plain _ _ _ rfl) (hpl := plain_any rfl))))))) (qss_of (pss_one (ps_raise (R := fun H9 => E (.ref a.NoWish) none H9) rfl rfl B.NoWish B.exc_NoWish (fun _ _ _ _ _ _ _ I hx hE => raiseX I hx hE)))) qss_nil)))), ?_⟩
  walk_at "w0"
  by_cases hk : k = .non
  · subst hk
    exists decide_true
    rcases h with ⟨b, q⟩ | ⟨b, q⟩
    · exact q
    · cases b
  · have nk : isNonV k = false := by rw [isNonV_eq, decide_eq_false hk]
    rw [if_neg hk]
    by_cases hq : qq = .non
    · subst hq
      exists decide_true
      rcases h with ⟨b, q⟩ | ⟨b, q⟩
      · rw [wkB, nk] at b; cases b
      · exact q
    · have nq : isNonV qq = false := by rw [isNonV_eq, decide_eq_false hq]
      rw [if_neg hq]
      refine ⟨_, _, rfl, ok, ?_⟩
      rw [wkB, nk, nq] at h
      cases hf : fromV k 0 with
      | true =>
        rw [hf] at h
        exists Bool.not_true
        rcases h with ⟨b, q⟩ | ⟨b, q⟩
        · exact q
        · cases b
      | false =>
        rw [hf] at h
        exists Bool.not_false
        rcases h with ⟨b, q⟩ | ⟨b, q⟩
        · cases b
        · exact q
theorem ok_check_lines (B : Bt K mg a)  (F : Fun K "check_lines" "check_lines" s_check_lines f fd) : FnOk P w K mg base (CXF P w) 1 f fd ["lines"] (sp_check_lines K a) := by
  refine Fun.okX F sc_check_lines (fun vs H Q E h => ?_) (fun cdv A outer s H vs Q E hr h => ?_)
  · obtain ⟨x, b, rfl, _⟩ := h
    rfl
  obtain ⟨x, b, rfl, hx, h⟩ := h
  refine ⟨_, (pss_of (qss_cons (qs_if (pt_cmp (pc_isN (pv 0))) (qss_one (qs_of ps_retN)) qss_nil) (qss_one (qs_if (L2.PW.pt (pw_or (pt_not (pt_val (pe_callB (isiG_at (K := K) (T := "list") rfl) rfl B.isinstance PyProof.Rows.boot_isinstance (pa_of (qa_c (pv 0) (qa_c (pe_bltn (v := .ty "list") rfl B.list PyProof.Rows.boot_list rfl) qa_nil))) (he := star_plain _ _ _ rfl) (hpl := plain_any rfl)))) (pw_or1 (pt_not (pt_val (pe_callB (call_all rfl) rfl B.all PyProof.Rows.boot_all (pa_of (qa_c (pe_compB ["line"] [none] rfl (by kernel_rfl) (pi_list (pv 0)) (fun cl C s H fp => ⟨(pg_name (i := 0) (by decide : List.Nodup (["line"] : List Str)) rfl (Or.inl (by kernel_rfl)) (Or.inr (by kernel_rfl))), pts_nil, (pe_callB (isiV_at (K := K) rfl) (gl_of (by kernel_rfl)) B.isinstance PyProof.Rows.boot_isinstance (pa_of (qa_c (pv 0 (hv := Or.inl (by kernel_rfl))) (qa_c (pe_glob (v := .ref _) (gl_of (by kernel_rfl)) B.Line rfl) qa_nil))) (he := star_plain _ _ _ rfl) (hpl := plain_any rfl))⟩)) qa_nil)) (he := star_plain _ _ _ rfl) (hpl := plain_any rfl))))))) (qss_of (pss_one (ps_raise (R := fun H9 => E (.ref a.NoWish) none H9) rfl rfl B.NoWish B.exc_NoWish (fun _ _ _ _ _ _ _ I hx hE => raiseX I hx hE)))) qss_nil)))), ?_⟩
  have hT : b = true → ∀ H', Same H H' → Q .non H' := fun e => by
    rcases h with ⟨_, q⟩ | ⟨b, q⟩
    · exact q
    · rw [e] at b; cases b
  have hF : b = false → ∀ H', Same H H' → E (.ref a.NoWish) none H' := fun e => by
    rcases h with ⟨b, q⟩ | ⟨_, q⟩
    · rw [e] at b; cases b
    · exact q
  clear h
  walk_at "w0"
  rcases hx with ⟨rfl, rfl⟩ | ⟨p, xs, cs, rfl, hp, hl, hy, rfl⟩ | ⟨nn, rfl, t, ty, e⟩
  · exists decide_true
    exact hT rfl _ (fun _ _ z => z)
  · walk_at "w0"
    refine ⟨_, _, true, rfl, .lst hp, by kernel_rfl, ?_⟩
    exists Bool.not_true
    refine ⟨⟨xs, SqL.of hp⟩, ?_⟩
    refine CompL.by (xs := xs) (fun i acc σ H' => acc = (cs.take i).map V.bl ∧ (∃ v, σ = [v]) ∧ H' = H) (sz8 (by omega)) ⟨rfl, ⟨_, rfl⟩, rfl⟩ (fun i acc σ H' _ h => by rw [h.2.2]; exact SqL.of hp) ?_ ?_ ?_
    · rintro i y acc σ H' hy2 ⟨rfl, ⟨v, rfl⟩, rfl⟩
      obtain ⟨c, hc, t, ty, e⟩ := hy.get hy2
      have ea : (cs.take i).map V.bl ++ [V.bl c] = (cs.take (i + 1)).map V.bl := by
        rw [List.take_succ, hc, List.map_append]
        rfl
      walk_at "w0"
      refine ⟨y, _, t, _, rfl, ty, e, ?_⟩
      first | exact ⟨ea, ⟨_, rfl⟩, rfl⟩ | exact ea | exact ⟨ea, rfl⟩
    · rintro i acc σ H' ⟨rfl, _, _⟩
      rw [List.length_map, List.length_take]
      omega
    · rintro acc σ H' ⟨rfl, ⟨v, rfl⟩, rfl⟩ D hD
      rw [← hy.len, List.take_length]
      have S2 := same_new hD (.lst (cs.map V.bl))
      refine ⟨D, rfl, _, SqL.of upd_same, ?_⟩
      generalize upd H' D (.lst (cs.map V.bl)) = H2 at *
      by_cases ha : cs.all id = true
      · exists ha, Bool.not_true
        exact hT ha _ S2
      · have ha' := Bool.eq_false_iff.mpr ha
        exists ha', Bool.not_false
        exact hF ha' _ S2
  · have hn : decide (x = .non) = false := decide_eq_false nn
    exists hn, nn
    refine ⟨x, t, false, rfl, ty, e, ?_⟩
    exists Bool.not_false
    exact hF rfl _ (fun _ _ z => z)
theorem lfs (f y r s z : V) : putF ("fit" : Str) f [] = ([("fit", f)] : List (Str × V)) ∧ putF ("way" : Str) y ([("fit", f)] : List (Str × V)) = ([("fit", f), ("way", y)] : List (Str × V)) ∧ putF ("roads" : Str) r ([("fit", f), ("way", y)] : List (Str × V)) = ([("fit", f), ("way", y), ("roads", r)] : List (Str × V)) ∧ putF ("sure" : Str) s ([("fit", f), ("way", y), ("roads", r)] : List (Str × V)) = ([("fit", f), ("way", y), ("roads", r), ("sure", s)] : List (Str × V)) ∧ putF ("raised" : Str) z ([("fit", f), ("way", y), ("roads", r), ("sure", s)] : List (Str × V)) = lFs f y r s z := by
  refine ⟨rfl, putF_new fun q hq => ?_, putF_new fun q hq => ?_, putF_new fun q hq => ?_, putF_new fun q hq => ?_⟩
  · simp only [List.mem_cons, List.not_mem_nil, or_false] at hq
    rcases hq with rfl <;> (dsimp only; decide)
  · simp only [List.mem_cons, List.not_mem_nil, or_false] at hq
    rcases hq with rfl | rfl <;> (dsimp only; decide)
  · simp only [List.mem_cons, List.not_mem_nil, or_false] at hq
    rcases hq with rfl | rfl | rfl <;> (dsimp only; decide)
  · simp only [List.mem_cons, List.not_mem_nil, or_false] at hq
    rcases hq with rfl | rfl | rfl | rfl <;> (dsimp only; decide)
theorem wfs (z q k l : V) : putF ("zone" : Str) z [] = ([("zone", z)] : List (Str × V)) ∧ putF ("quiet" : Str) q ([("zone", z)] : List (Str × V)) = ([("zone", z), ("quiet", q)] : List (Str × V)) ∧ putF ("wake" : Str) k ([("zone", z), ("quiet", q)] : List (Str × V)) = ([("zone", z), ("quiet", q), ("wake", k)] : List (Str × V)) ∧ putF ("lines" : Str) l ([("zone", z), ("quiet", q), ("wake", k)] : List (Str × V)) = wFs z q k l := by
  refine ⟨rfl, putF_new fun q hq => ?_, putF_new fun q hq => ?_, putF_new fun q hq => ?_⟩
  · simp only [List.mem_cons, List.not_mem_nil, or_false] at hq
    rcases hq with rfl <;> (dsimp only; decide)
  · simp only [List.mem_cons, List.not_mem_nil, or_false] at hq
    rcases hq with rfl | rfl <;> (dsimp only; decide)
  · simp only [List.mem_cons, List.not_mem_nil, or_false] at hq
    rcases hq with rfl | rfl | rfl <;> (dsimp only; decide)
theorem ok_check_by_way (B : Bt K mg a)  (F : Fun K "check_by_way" "check_by_way" s_check_by_way f fd) : FnOk P w K mg base CX0 1 f fd ["way", "roads", "sure", "raised"] (sp_check_by_way K a) := by
  refine F.ok sc_check_by_way (fun vs H Q E h => ?_) (fun cdv A outer s H vs Q E hr h => ?_)
  · obtain ⟨yp, rp, dy, fy, rfl, _⟩ := h
    rfl
  obtain ⟨yp, rp, dy, fy, rfl, hy, hr1, q⟩ := h
  refine ⟨_, (pss_of (qss_one (qs_if (pt_not (pt_val (pe_callB (isiV_at (K := K) rfl) rfl B.isinstance PyProof.Rows.boot_isinstance (pa_of (qa_c (pv 0) (qa_c (pe_glob (v := .ref _) rfl B.Never rfl) qa_nil))) (he := star_plain _ _ _ rfl) (hpl := plain_any rfl)))) (qss_one (qs_if (pt_cmpR op_eq (pe_callB call_len_seq rfl B.len PySem.boot_len (pa_of (qa_c (pv 1) qa_nil))) pe_int (nomark _)) (qss_of pss_never) qss_nil)) (qss_of pss_never)))), ?_⟩
  walk_at "w0"
  refine ⟨_, _, _, false, rfl, B.ck_Hour.ty hy, B.is_Hour_Never, ?_⟩
  exists Bool.not_false
  refine ⟨_, .inl (SqL.of hr1), ?_⟩
  exists List.length_cons, List.length_nil
  first | exact q | (rw [if_neg (by decide)]; exact q)
theorem ok_Line___init__ (B : Bt K mg a) (C_check_by_way : CalX P w K mg base "check_by_way" ["way", "roads", "sure", "raised"] 1 (sp_check_by_way K a)) (C_are_unlike_names : CalX P w K mg base "are_unlike_names" ["thing"] 2 (sp_are_unlike_names K a)) (F : FunA K "__init__" "Line.__init__" s_Line___init__ f fd) : FnOk P w K mg base CX0 3 f fd ["self", "fit", "way", "roads", "sure", "raised"] (sp_Line___init__ K a) := by
  refine FunA.ok F sc_Line___init__ (fun vs H Q E h => ?_) (fun cdv A outer s H vs Q E hr h => ?_)
  · obtain ⟨p, dx, fp, yp, rp, df, dy, ff, fy, rfl, _⟩ := h
    rfl
  obtain ⟨p, dx, fp, yp, rp, df, dy, ff, fy, rfl, hp, hf, hy, hr1, q⟩ := h
  refine ⟨_, (pss_of (qss_cons (qs_if (pt_not (pt_val (pe_callB (isiV_at (K := K) rfl) rfl B.isinstance PyProof.Rows.boot_isinstance (pa_of (qa_c (pv 1) (qa_c (pe_glob (v := .ref _) rfl B.Fit rfl) qa_nil))) (he := star_plain _ _ _ rfl) (hpl := plain_any rfl)))) (qss_of pss_never) qss_nil) (qss_cons (qs_if (pt_not (pt_val (pe_callB (isiV_at (K := K) rfl) rfl B.isinstance PyProof.Rows.boot_isinstance (pa_of (qa_c (pv 2) (qa_c (pe_glob (v := .ref _) rfl B.Way rfl) qa_nil))) (he := star_plain _ _ _ rfl) (hpl := plain_any rfl)))) (qss_of pss_never) qss_nil) (qss_cons (qs_if (pt_not (pt_val (pe_calN C_are_unlike_names (hr.mono (by decide)) rfl (pa_of (qa_c (pv 3) qa_nil)) (he := star_plain _ _ _ rfl) (hpl := plain_any rfl)))) (qss_of pss_never) qss_nil) (qss_cons (qs_if (pt_not (pt_val (pe_callB (isiG_at (K := K) (T := "bool") rfl) rfl B.isinstance PyProof.Rows.boot_isinstance (pa_of (qa_c (pv 4) (qa_c (pe_bltn (v := .ty "bool") rfl B.bool PyProof.Rows.boot_bool rfl) qa_nil))) (he := star_plain _ _ _ rfl) (hpl := plain_any rfl)))) (qss_of pss_never) qss_nil) (qss_cons (qs_if (L2.PW.pt (pw_and (pt_cmp (pc_notN (pv 5))) (pw_and1 (pt_not (pt_val (pe_callB (isiV_at (K := K) rfl) rfl B.isinstance PyProof.Rows.boot_isinstance (pa_of (qa_c (pv 5) (qa_c (pe_glob (v := .ref _) rfl B.Raised rfl) qa_nil))) (he := star_plain _ _ _ rfl) (hpl := plain_any rfl))))))) (qss_of pss_never) qss_nil) (qss_cons (qs_of (ps_expr (pe_calN C_check_by_way (hr.mono (by decide)) rfl (pa_of (qa_c (pv 2) (qa_c (pv 3) (qa_c (pv 4) (qa_c (pv 5) qa_nil))))) (he := star_plain _ _ _ rfl) (hpl := plain_any rfl)))) (qss_cons (qs_of (ps_fld (pv 0) (pv 1) rfl)) (qss_cons (qs_of (ps_fld (pv 0) (pv 2) rfl)) (qss_cons (qs_of (ps_fld (pv 0) (pe_callTy call_list_of rfl B.list PyProof.Rows.boot_list (pa_of (qa_c (pv 3) qa_nil))) rfl)) (qss_cons (qs_of (ps_fld (pv 0) (pv 4) rfl)) (qss_one (qs_of (ps_fld (pv 0) (pv 5) rfl)))))))))))))), ?_⟩
  walk_at "w0"
  refine ⟨_, _, _, true, rfl, B.ck_Any.ty hf, B.is_Any_Fit, ?_⟩
  exists Bool.not_true
  refine ⟨_, _, _, true, rfl, B.ck_Hour.ty hy, B.is_Hour_Way, ?_⟩
  exists Bool.not_true
  have mk : plainS "mail" = true ∧ ("mail" : Str).length ≤ 1000 := ⟨by decide +kernel, by decide +kernel⟩
  refine ⟨_, true, rfl, .inl ⟨rp, _, rfl, hr1, by decide, fun z hz => by rw [List.mem_singleton.mp hz]; exact mk, by decide +kernel⟩, fun H1 S1 => ?_⟩
  exists Bool.not_true
  refine ⟨_, _, true, rfl, .bl false, by kernel_rfl, ?_⟩
  exists Bool.not_true
  refine ⟨yp, rp, dy, fy, rfl, S1 _ _ hy, S1 _ _ hr1, ?_⟩
  walk_at "w0"
  have nrp : rp ≠ p := fun z => by rw [z, hp] at hr1; cases hr1
  obtain ⟨e1, _⟩ := lfs (.ref fp) (.ref yp) (.ref rp) (.bl false) .non
  refine ⟨_, _, _, S1 _ _ hp, B.ck_Line.cl, B.na_Line_fit, by decide, _, _, _, upd_same, B.ck_Line.cl, B.na_Line_way, by rw [e1]; simp only [List.length_cons, List.length_nil]; decide, ?_⟩
  refine ⟨_, .inl (SqL.of (by rw [upd_ne nrp, upd_ne nrp]; exact S1 _ _ hr1)), fun l hl => ?_⟩
  have nlp : l ≠ p := fun z => by rw [z, upd_same] at hl; cases hl
  have hl1 : H1 l = none := by rw [upd_ne nlp, upd_ne nlp] at hl; exact hl
  obtain ⟨e1, e2, e3, e4, e5⟩ := lfs (.ref fp) (.ref yp) (.ref l) (.bl false) .non
  refine ⟨_, _, _, by rw [upd_ne nlp.symm]; exact upd_same, B.ck_Line.cl, B.na_Line_roads, by rw [e1, e2]; simp only [List.length_cons, List.length_nil]; decide, _, _, _, upd_same, B.ck_Line.cl, B.na_Line_sure, by rw [e1, e2, e3]; simp only [List.length_cons, List.length_nil]; decide, _, _, _, upd_same, B.ck_Line.cl, B.na_Line_raised, by rw [e1, e2, e3, e4]; simp only [List.length_cons, List.length_nil]; decide, ?_⟩
  refine q l _ (fun b o n e => ?_) ?_
  · rw [upd_ne n, upd_ne n, upd_ne n, upd_ne (ne_of_none (S1 _ _ e) hl1), upd_ne n, upd_ne n]
    exact S1 b o e
  · rw [upd_same, e1, e2, e3, e4, e5]
theorem ok_Wishes___init__ (B : Bt K mg a) (C_check_zone : CalX P w K mg base "check_zone" ["zone"] 3 (sp_check_zone K a)) (C_check_quiet : CalX P w K mg base "check_quiet" ["quiet"] 5 (sp_check_quiet K a)) (C_check_wake : CalX P w K mg base "check_wake" ["wake", "quiet"] 3 (sp_check_wake K a)) (C_check_lines : CalX P w K mg base "check_lines" ["lines"] 1 (sp_check_lines K a)) (F : FunA K "__init__" "Wishes.__init__" s_Wishes___init__ f fd) : FnOk P w K mg base (CXF P w) 6 f fd ["self", "zone", "quiet", "wake", "lines"] (sp_Wishes___init__ K a) := by
  refine FunA.okX F sc_Wishes___init__ (fun vs H Q E h => ?_) (fun cdv A outer s H vs Q E hr h => ?_)
  · obtain ⟨p, dx, z, qq, k, l, bq, bl, rfl, _⟩ := h
    rfl
  obtain ⟨p, dx, z, qq, k, l, bq, bl, rfl, hp, wk, h⟩ := h
  refine ⟨_, (pss_of (qss_cons (qs_of (ps_expr (pe_calX C_check_zone (hr.mono (by decide)) rfl (pa_of (qa_c (pv 1) qa_nil)) (he := star_plain _ _ _ rfl) (hpl := plain_any rfl)))) (qss_cons (qs_of (ps_expr (pe_calX C_check_quiet (hr.mono (by decide)) rfl (pa_of (qa_c (pv 2) qa_nil)) (he := star_plain _ _ _ rfl) (hpl := plain_any rfl)))) (qss_cons (qs_of (ps_expr (pe_calX C_check_wake (hr.mono (by decide)) rfl (pa_of (qa_c (pv 3) (qa_c (pv 2) qa_nil))) (he := star_plain _ _ _ rfl) (hpl := plain_any rfl)))) (qss_cons (qs_of (ps_expr (pe_calX C_check_lines (hr.mono (by decide)) rfl (pa_of (qa_c (pv 4) qa_nil)) (he := star_plain _ _ _ rfl) (hpl := plain_any rfl)))) (qss_cons (qs_of (ps_fld (pv 0) (pv 1) rfl)) (qss_cons (qs_of (ps_fld (pv 0) (pv 2) rfl)) (qss_cons (qs_of (ps_fld (pv 0) (pv 3) rfl)) (qss_one (qs_of (ps_fld (pv 0) (pe_ifExp (pt_cmp (pc_isN (pv 4))) (pe_lst (pa_of qa_nil)) (pe_callTy call_list_of rfl B.list PyProof.Rows.boot_list (pa_of (qa_c (pv 4) qa_nil)))) rfl))))))))))), ?_⟩
  have hA : zqB z bq = false → ∀ H', Same H H' → E (.ref a.NoClock) none H' := fun b => by
    rcases h with ⟨_, q⟩ | ⟨e, _, _⟩ | ⟨e, _, _⟩
    · exact q
    · rw [b] at e; cases e
    · rw [b] at e; cases e
  have hB : zqB z bq = true → (wkB k qq && bl) = false → ∀ H', Same H H' → E (.ref a.NoWish) none H' := fun b c => by
    rcases h with ⟨e, _⟩ | ⟨_, _, q⟩ | ⟨_, e, _⟩
    · rw [b] at e; cases e
    · exact q
    · rw [c] at e; cases e
  have hC : zqB z bq = true → (wkB k qq && bl) = true → ∃ xs, LnX H l xs ∧ ∀ l' H', But p H H' → H l' = none → H' l' = some (.lst xs) → H' p = some (.ins a.Wishes dx (wFs z qq k (.ref l'))) → Q .non H' := fun b c => by
    rcases h with ⟨e, _⟩ | ⟨_, e, _⟩ | ⟨_, _, q⟩
    · rw [b] at e; cases e
    · rw [c] at e; cases e
    · exact q
  clear h
  have S0 : Same H H := fun _ _ z => z
  walk_at "w0"
  refine ⟨z, rfl, wk.z, ?_⟩
  cases hz : betwV z (-1439) 1439 with
  | false => exact .inr ⟨rfl, hA (by unfold zqB; rw [hz]; rfl) _ S0⟩
  | true =>
  refine .inl ⟨rfl, ?_⟩
  walk_at "w0"
  refine ⟨qq, bq, rfl, wk.q, ?_⟩
  cases bq with
  | false => exact .inr ⟨rfl, hA (by unfold zqB; rw [hz]; rfl) _ S0⟩
  | true =>
  have zt : zqB z true = true := by unfold zqB; rw [hz]; rfl
  refine .inl ⟨rfl, ?_⟩
  walk_at "w0"
  refine ⟨k, qq, rfl, wk.k, ?_⟩
  cases hk : wkB k qq with
  | false => exact .inr ⟨rfl, hB zt (by rw [hk]; rfl) _ S0⟩
  | true =>
  refine .inl ⟨rfl, ?_⟩
  walk_at "w0"
  refine ⟨l, bl, rfl, wk.l, ?_⟩
  cases bl with
  | false => exact .inr ⟨rfl, hB zt (by rw [hk]; rfl)⟩
  | true =>
  refine .inl ⟨rfl, fun H1 S1 => ?_⟩
  obtain ⟨xs, hx, q⟩ := hC zt (by rw [hk]; rfl)
  walk_at "w0"
  obtain ⟨e1, e2, e3, e4⟩ := wfs z qq k .non
  refine ⟨_, _, _, S1 _ _ hp, B.ck_Wishes.cl, B.na_Wishes_zone, by decide, _, _, _, upd_same, B.ck_Wishes.cl, B.na_Wishes_quiet, by rw [e1]; simp only [List.length_cons, List.length_nil]; decide, _, _, _, upd_same, B.ck_Wishes.cl, B.na_Wishes_wake, by rw [e1, e2]; simp only [List.length_cons, List.length_nil]; decide, ?_⟩
  rcases hx with ⟨rfl, rfl⟩ | ⟨lp, rfl, hlp⟩
  · exists decide_true
    refine ⟨Nat.zero_le _, fun l' hl' => ?_⟩
    have nlp : l' ≠ p := fun z => by rw [z, upd_same] at hl'; cases hl'
    have hl1 : H1 l' = none := by rw [upd_ne nlp, upd_ne nlp, upd_ne nlp] at hl'; exact hl'
    obtain ⟨f1, f2, f3, f4⟩ := wfs z qq k (.ref l')
    refine ⟨_, _, _, by rw [upd_ne nlp.symm]; exact upd_same, B.ck_Wishes.cl, B.na_Wishes_lines, by rw [f1, f2, f3]; simp only [List.length_cons, List.length_nil]; decide, ?_⟩
    refine q l' _ (fun b o n e => ?_) (S1.free hl1) ?_ ?_
    · rw [upd_ne n, upd_ne (ne_of_none (S1 _ _ e) hl1), upd_ne n, upd_ne n, upd_ne n]
      exact S1 b o e
    · rw [upd_ne nlp]
      exact upd_same
    · rw [upd_same, f1, f2, f3, f4]
  · walk_at "w0"
    have nlq : lp ≠ p := fun z => by rw [z, hp] at hlp; cases hlp
    refine ⟨_, .inl (SqL.of (by rw [upd_ne nlq, upd_ne nlq, upd_ne nlq]; exact S1 _ _ hlp)), fun l' hl' => ?_⟩
    have nlp : l' ≠ p := fun z => by rw [z, upd_same] at hl'; cases hl'
    have hl1 : H1 l' = none := by rw [upd_ne nlp, upd_ne nlp, upd_ne nlp] at hl'; exact hl'
    obtain ⟨f1, f2, f3, f4⟩ := wfs z qq k (.ref l')
    refine ⟨_, _, _, by rw [upd_ne nlp.symm]; exact upd_same, B.ck_Wishes.cl, B.na_Wishes_lines, by rw [f1, f2, f3]; simp only [List.length_cons, List.length_nil]; decide, ?_⟩
    refine q l' _ (fun b o n e => ?_) (S1.free hl1) ?_ ?_
    · rw [upd_ne n, upd_ne (ne_of_none (S1 _ _ e) hl1), upd_ne n, upd_ne n, upd_ne n]
      exact S1 b o e
    · rw [upd_ne nlp]
      exact upd_same
    · rw [upd_same, f1, f2, f3, f4]
theorem same_id (H : Hp) : Same H H := fun _ _ z => z
def tHold (t : TS) : TS := t
theorem w_hold {t : TS} {D : Ends} {σ : L2.St} {H : Hp} : tHold t D σ H = t D σ H := rfl
theorem hold_ret {t : TE} {nx : L2.St → Hp → Prop} {rt : VK} {bk ct : L2.St → Hp → Prop} {σ : L2.St} {H : Hp} (h : t σ H rt) : tHold (tRet t) { nx := nx, rt := rt, bk := bk, ct := ct } σ H := h
theorem qss_hold {X : Cx} {b : List Stmt} {t : TS} (h : QSs X b t) : QSs X b (tHold t) := h
theorem okI_no {H : Hp} {x : V} (h : okV H x) : okI K H x := by
  obtain ⟨T, ty, e1, e2, _⟩ := h.ty (K := K)
  exact ⟨_, ty, e1, e2⟩
theorem made_but {H H' : Hp} {x dx : Addr} {o o' : HO} (hx : H x = none) (hd : H dx = none) (b : But x (upd (upd H dx o) x o') H') : Same H H' := fun c u e => b c u (ne_of_none e hx) (made_same hx hd c u e)
theorem qk_tup {H : Hp} {p : Addr} {xs : List V} (e : H p = some (.tup xs)) (hy : ∀ y ∈ xs, okV H y) (hb : qtB xs = false) : QK K H (.ref p) false := .inr (.inl ⟨p, xs, rfl, e, fun y m => okI_no (hy y m), hb.symm⟩)
theorem lb_lines (B : Bt K mg a) {H : Hp} : ∀ {ps : List V}, (∀ v ∈ ps, ∃ m, LnA a H v m) → LB K a H ps (ps.map fun _ => true)
  | [], _ => .nil
  | v :: ps, h => by
    obtain ⟨m, p, dl, fp, yp, lr, dy, rfl, h1, _⟩ := h v List.mem_cons_self
    exact .cons ⟨_, B.ck_Line.ty h1, B.is_Line_Line⟩ (lb_lines B fun v hv => h v (List.mem_cons_of_mem _ hv))
theorem Lns.lb (B : Bt K mg a) {H : Hp} {ps : List V} {ms : List Int} (h : Lns a H ps ms) : LB K a H ps (ps.map fun _ => true) := lb_lines B fun _ hv => h.mem hv
theorem all_rep {ps : List V} : (ps.map fun _ => true).all id = true := by rw [List.all_map, List.all_eq_true]; intro _ _; rfl
theorem Lns.lk (B : Bt K mg a) {H : Hp} {lp : Addr} {ps : List V} {ms : List Int} (h : Lns a H ps ms) (hl : ps.length ≤ 10) (e : H lp = some (.lst ps)) : LnK K a H (.ref lp) true := .inr (.inl ⟨lp, ps, _, rfl, e, by omega, h.lb B, all_rep.symm⟩)
theorem log_small {n : Int} (h0 : -1000001 < n) (h1 : n < 1000001) : n.natAbs.log2 < 1920 := by
  by_cases hz : n.natAbs = 0
  · rw [hz]; decide
  · have := (Nat.log2_lt hz).mpr (show n.natAbs < 2 ^ 20 by omega)
    omega
theorem ok_law_quiet (B : Bt K mg a) (C_law_next : CalX P w K mg base "_law_next" ["_law_state", "_law_base"] 1 (sp_law_next K a)) (F : Fun K "_law_quiet" "_law_quiet" s_law_quiet f fd) : FnOk P w K mg base CX0 2 f fd ["_law_state"] (sp_law_quiet K a) := by
  refine F.ok sc_law_quiet (fun vs H Q E h => ?_) (fun cdv A outer s H vs Q E hr h => ?_)
  · obtain ⟨wl, rfl, _⟩ := h
    rfl
  obtain ⟨wl, rfl, W, q⟩ := h
  refine ⟨_, (pss_of (qss_cons (qs_set (i := 1) sc_law_quiet.nd rfl (Or.inl rfl) (qe_of (pe_calN C_law_next (hr.mono (by decide)) rfl (pa_of (qa_c (pv 0) (qa_c pe_int qa_nil))) (he := star_plain _ _ _ rfl) (hpl := plain_any rfl))) (by kernel_rfl)) (qss_cut (qs_if (pt_cmpR op_eq (pe_calN C_law_next (hr.mono (by decide)) rfl (pa_of (qa_c (pv 0) (qa_c pe_int qa_nil))) (he := star_plain _ _ _ rfl) (hpl := plain_any rfl)) pe_int (nomark _)) (qss_one (qs_set (i := 1) sc_law_quiet.nd rfl (Or.inl rfl) (qe_ix ix_list (qe_lst (qa_c pe_int (qa_c pe_int qa_nil))) (qe_of (pe_calN C_law_next (hr.mono (by decide)) rfl (pa_of (qa_c (pv 0) (qa_c pe_int qa_nil))) (he := star_plain _ _ _ rfl) (hpl := plain_any rfl))) (fun _ _ => rfl)) (by kernel_rfl))) qss_nil) (qss_one (qs_ret (qe_of (pe_tup (pa_of (qa_c (pv 1) (qa_c (pe_op op_mod (pe_op op_add (pe_op op_add (pv 1) pe_int) (pe_calN C_law_next (hr.mono (by decide)) rfl (pa_of (qa_c (pv 0) (qa_c pe_int qa_nil))) (he := star_plain _ _ _ rfl) (hpl := plain_any rfl))) pe_int) qa_nil)))))))))), ?_⟩
  walk_at "w0"
  refine drw3 W (by decide) (by decide) fun s0 H1 a0 b0 W1 B1 => ?_
  walk_at "w0"
  refine ⟨fun σ H' => ∃ s : Int, σ = [some (.ref wl), some (.int s)] ∧ 0 ≤ s ∧ s ≤ 1439 ∧ Well3 H' wl ∧ But wl H H', ?_, ?_⟩
  · refine drw3 W1 (by decide) (by decide) fun r1 H2 a1 b1 W2 B2 => ?_
    walk_at "w0"
    by_cases c : r1 = 0
    · rw [if_pos c]
      refine ⟨sz8 (by decide), fun p hp => ?_⟩
      have np := W2.ne hp
      have S3 := same_new hp (.lst [.int 0, .int 1439])
      refine drw3 (W2.same S3) (by decide) (by decide) fun r2 H4 a2 b2 W4 B4 => ?_
      have e4 := B4 p _ np upd_same
      obtain ⟨v, hv, ev⟩ := at_memV (xs := [.int 0, .int 1439]) a2 (by simpa using b2)
      refine ixl (SqL.of e4) ev ?_
      simp only [List.mem_cons, List.not_mem_nil, or_false] at hv
      have BB := B1.trans (B2.trans ((Same.but S3).trans B4))
      rcases hv with rfl | rfl
      · exact ⟨0, rfl, by decide, by decide, W4, BB⟩
      · exact ⟨1439, rfl, by decide, by decide, W4, BB⟩
    · rw [if_neg c]
      first | exact ⟨s0, rfl, a0, by omega, W2, B1.trans B2⟩ | exact ⟨a0, by omega, W2, B1.trans B2⟩
  · rintro σ' H' ⟨s, rfl, s0', s1', W5, B5⟩
    walk_at "w0"
    refine drw3 W5 (by decide) (by decide) fun r3 H6 a3 b3 W6 B6 => ?_
    walk_at "w0"
    refine ⟨by decide, sz8 (by decide), fun p3 hp3 => ?_⟩
    have h0 : H p3 = none := by
      cases z : H p3 with
      | none => rfl
      | some o =>
        have := (B5.trans B6) p3 o (W6.ne hp3) z
        rw [hp3] at this
        cases this
    exact q p3 s ((s + 1 + r3) % 1440) _ s0' s1' (by omega) (by omega) (by omega) (W6.same (same_new hp3 _)) (B5.trans (B6.trans (Same.but (same_new hp3 _)))) h0 upd_same
theorem ok_law_refused (B : Bt K mg a) (CD_Wishes_4 : CalD P w K mg base "Wishes" a.Wishes ["self", "zone", "quiet", "wake", "lines"] 6 [] (sp_Wishes___init__ K a)) (F : Fun K "_law_refused" "_law_refused" s_law_refused f fd) : FnOk P w K mg base CX0 8 f fd ["_law_zone", "_law_hours", "_law_heavy", "_law_lots"] (sp_law_refused K a) := by
  refine F.ok sc_law_refused (fun vs H Q E h => ?_) (fun cdv A outer s H vs Q E hr h => ?_)
  · obtain ⟨z, qq, k, l, bq, bl, rfl, _⟩ := h
    rfl
  obtain ⟨z, qq, k, l, bq, bl, rfl, wk, h⟩ := h
  refine ⟨_, (pss_of (qss_cons (qs_set (i := 4) sc_law_refused.nd rfl (Or.inl rfl) (qe_of pe_str) (by kernel_rfl)) (qss_cons (qs_of (ps_tryB (i := 5) rfl rfl (fun _ _ z => z) (pbs_expr (pbe_makD CD_Wishes_4 (fun _ _ z => z) (hr.mono (by decide)) rfl (pa_of (qa_c (pv 0) (qa_c (pv 1) (qa_c (pv 2) (qa_c (pv 3) qa_nil))))) (he := star_plain _ _ _ rfl) (hpl := plain_any rfl))) rfl B.BellError sc_law_refused.nd rfl rfl (fun v => (pss_of (qss_one (qs_if (L2.PW.pt (pw_and (pt_val (pe_callB (isiX_at (K := K) rfl) rfl B.isinstance PyProof.Rows.boot_isinstance (pa_of (qa_c (pv 5) (qa_c (pe_bltn (v := .ty "ValueError") rfl B.ValueError boot_ValueError rfl) qa_nil))) (he := star_plain _ _ _ rfl) (hpl := plain_any rfl))) (pw_and1 (pt_not (pt_val (pe_callB (isiXT_at (K := K) rfl) rfl B.isinstance PyProof.Rows.boot_isinstance (pa_of (qa_c (pv 5) (qa_c (pe_tup (pa_of (qa_c (pe_glob (v := .ref _) rfl B.NoFit rfl) (qa_c (pe_glob (v := .ref _) rfl B.NoRow rfl) (qa_c (pe_glob (v := .ref _) rfl B.NoText rfl) qa_nil))))) qa_nil))) (he := star_plain _ _ _ rfl) (hpl := plain_any rfl))))))) (qss_one (qs_set (i := 4) sc_law_refused.nd rfl (Or.inl rfl) (qe_ix (ixL_at (K := K) rfl) (qe_lst (qa_c pe_str (qa_c pe_str (qa_c pe_str (qa_c pe_str qa_nil))))) (qe_of (pe_op op_add (pe_callTy call_int1 rfl B.int PyProof.Rows.boot_int (pa_of (qa_c (pe_callB (isiX_at (K := K) rfl) rfl B.isinstance PyProof.Rows.boot_isinstance (pa_of (qa_c (pv 5) (qa_c (pe_glob (v := .ref _) rfl B.NoClock rfl) qa_nil))) (he := star_plain _ _ _ rfl) (hpl := plain_any rfl)) qa_nil))) (pe_op op_mul pe_int (pe_callTy call_int1 rfl B.int PyProof.Rows.boot_int (pa_of (qa_c (pe_callB (isiX_at (K := K) rfl) rfl B.isinstance PyProof.Rows.boot_isinstance (pa_of (qa_c (pv 5) (qa_c (pe_glob (v := .ref _) rfl B.NoWish rfl) qa_nil))) (he := star_plain _ _ _ rfl) (hpl := plain_any rfl)) qa_nil)))))) (fun _ _ => rfl)) (by kernel_rfl))) qss_nil)))))) (qss_one (qs_ret (qe_of (pv 4))))))), ?_⟩
  walk_at "w0"
  intro x dx hx hd ne
  have M := made_same (o := .own x) (o' := .ins a.Wishes dx []) hx hd
  rcases h with ⟨b, q⟩ | ⟨b, c, q⟩
  · refine ⟨x, dx, z, qq, k, l, bq, bl, rfl, upd_same, wk.same M, .inl ⟨b, fun H0 S0 => ⟨B.exm_NoClock, fun y hy => ?_⟩⟩⟩
    have S1 := same_new hy (hoExc y (.ref a.NoClock))
    have e1 : upd H0 y (hoExc y (.ref a.NoClock)) y = some (hoExc y (.ref a.NoClock)) := upd_same
    generalize upd H0 y (hoExc y (.ref a.NoClock)) = H1 at *
    walk_at "w0"
    refine ⟨y, _, _, true, a.NoClock, rfl, rfl, B.excK_NoClock, e1, B.isV_NoClock, ?_⟩
    walk_at "w0"
    refine ⟨sz8 (by decide), fun t1 ht1 => ?_⟩
    have S2 := same_new ht1 (.tup [.ref a.NoFit, .ref a.NoRow, .ref a.NoText])
    refine ⟨y, t1, [a.NoFit, a.NoRow, a.NoText], false, a.NoClock, rfl, B.excK_NoClock, S2 _ _ e1, upd_same, B.any_NoClock, ?_⟩
    have e2 := S2 _ _ e1
    generalize upd H1 t1 (.tup [.ref a.NoFit, .ref a.NoRow, .ref a.NoText]) = H2 at *
    exists Bool.not_false
    refine ⟨sz8 (by decide), fun t2 ht2 => ?_⟩
    have S3 := same_new ht2 (.lst [.str "other", .str "clock", .str "wish", .str "other"])
    have e3 := S3 _ _ e2
    have e4 : upd H2 t2 (.lst [.str "other", .str "clock", .str "wish", .str "other"]) t2 = some (.lst [.str "other", .str "clock", .str "wish", .str "other"]) := upd_same
    generalize upd H2 t2 (.lst [.str "other", .str "clock", .str "wish", .str "other"]) = H3 at *
    refine ⟨y, _, _, true, a.NoClock, rfl, rfl, B.excK_NoClock, e3, B.is_NoClock_NoClock, ?_⟩
    walk_at "w0"
    refine ⟨y, _, _, false, a.NoClock, rfl, rfl, B.excK_NoClock, e3, B.is_NoClock_NoWish, ?_⟩
    walk_at "w0"
    refine ⟨by first | decide | exact .inl ⟨by decide, by decide⟩ | exact .inr ⟨by decide, by decide⟩, ixl (SqL.of e4) (v := .str "clock") rfl ?_⟩
    walk_at "w0"
    exact q _ ((made_same hx hd).trans (S0.trans (S1.trans (S2.trans S3))))
  · refine ⟨x, dx, z, qq, k, l, bq, bl, rfl, upd_same, wk.same M, .inr (.inl ⟨b, c, fun H0 S0 => ⟨B.exm_NoWish, fun y hy => ?_⟩⟩)⟩
    have S1 := same_new hy (hoExc y (.ref a.NoWish))
    have e1 : upd H0 y (hoExc y (.ref a.NoWish)) y = some (hoExc y (.ref a.NoWish)) := upd_same
    generalize upd H0 y (hoExc y (.ref a.NoWish)) = H1 at *
    walk_at "w0"
    refine ⟨y, _, _, true, a.NoWish, rfl, rfl, B.excK_NoWish, e1, B.isV_NoWish, ?_⟩
    walk_at "w0"
    refine ⟨sz8 (by decide), fun t1 ht1 => ?_⟩
    have S2 := same_new ht1 (.tup [.ref a.NoFit, .ref a.NoRow, .ref a.NoText])
    refine ⟨y, t1, [a.NoFit, a.NoRow, a.NoText], false, a.NoWish, rfl, B.excK_NoWish, S2 _ _ e1, upd_same, B.any_NoWish, ?_⟩
    have e2 := S2 _ _ e1
    generalize upd H1 t1 (.tup [.ref a.NoFit, .ref a.NoRow, .ref a.NoText]) = H2 at *
    exists Bool.not_false
    refine ⟨sz8 (by decide), fun t2 ht2 => ?_⟩
    have S3 := same_new ht2 (.lst [.str "other", .str "clock", .str "wish", .str "other"])
    have e3 := S3 _ _ e2
    have e4 : upd H2 t2 (.lst [.str "other", .str "clock", .str "wish", .str "other"]) t2 = some (.lst [.str "other", .str "clock", .str "wish", .str "other"]) := upd_same
    generalize upd H2 t2 (.lst [.str "other", .str "clock", .str "wish", .str "other"]) = H3 at *
    refine ⟨y, _, _, false, a.NoWish, rfl, rfl, B.excK_NoWish, e3, B.is_NoWish_NoClock, ?_⟩
    walk_at "w0"
    refine ⟨y, _, _, true, a.NoWish, rfl, rfl, B.excK_NoWish, e3, B.is_NoWish_NoWish, ?_⟩
    walk_at "w0"
    refine ⟨by first | decide | exact .inl ⟨by decide, by decide⟩ | exact .inr ⟨by decide, by decide⟩, ixl (SqL.of e4) (v := .str "wish") rfl ?_⟩
    walk_at "w0"
    exact q _ ((made_same hx hd).trans (S0.trans (S1.trans (S2.trans S3))))
theorem ok_law_no_zones (B : Bt K mg a)  (F : Fun K "_law_no_zones" "_law_no_zones" s_law_no_zones f fd) : FnOk P w K mg base CX0 1 f fd ["_law_zone"] (sp_law_no_zones K a) := by
  refine F.ok sc_law_no_zones (fun vs H Q E h => ?_) (fun cdv A outer s H vs Q E hr h => ?_)
  · obtain ⟨z, rfl, _⟩ := h
    rfl
  obtain ⟨z, rfl, z0, z1, q⟩ := h
  refine ⟨_, (pss_of (qss_one (qs_ret (qe_lst (qa_c pe_int (qa_c (pe_un un_neg pe_int) (qa_c pe_int (qa_c pe_bl (qa_c pe_bl (qa_c pe_non (qa_c (pe_callTy call_str_int rfl B.str PyProof.Rows.boot_str (pa_of (qa_c (pv 0) qa_nil))) (qa_c (pe_lst (pa_of (qa_c (pv 0) qa_nil))) qa_nil)))))))))))), ?_⟩
  have hlg := log_small (n := z) (by omega) (by omega)
  walk_at "w0"
  refine ⟨hlg, sz8 (by first | decide | (simp only [List.length_cons, List.length_nil]; decide)), fun q1 hq1 => ?_⟩
  have Sq1 := same_new hq1 (.lst [.int z])
  have eq1 : upd H q1 (.lst [.int z]) q1 = some (.lst [.int z]) := upd_same
  generalize upd H q1 (.lst [.int z]) = J1 at *
  refine ⟨sz8 (by first | decide | (simp only [List.length_cons, List.length_nil]; decide)), fun pL hpL => ?_⟩
  have SpL := same_new hpL (.lst [.int 1440, .int (-1440), .int 99999, .bl true, .bl false, .non, .str (Str.ofString (toString z)), .ref q1])
  have epL : upd J1 pL (.lst [.int 1440, .int (-1440), .int 99999, .bl true, .bl false, .non, .str (Str.ofString (toString z)), .ref q1]) pL = some (.lst [.int 1440, .int (-1440), .int 99999, .bl true, .bl false, .non, .str (Str.ofString (toString z)), .ref q1]) := upd_same
  generalize upd J1 pL (.lst [.int 1440, .int (-1440), .int 99999, .bl true, .bl false, .non, .str (Str.ofString (toString z)), .ref q1]) = J2 at *
  refine q pL _ _ (Sq1.trans SpL) (Sq1.free hpL) epL rfl fun x hx => ?_
  simp only [List.cons_append, List.nil_append, List.mem_cons, List.not_mem_nil, or_false] at hx
  rcases hx with rfl | rfl | rfl | rfl | rfl | rfl | rfl | rfl
  · exact ⟨okI_no trivial, rfl⟩
  · exact ⟨okI_no trivial, rfl⟩
  · exact ⟨okI_no trivial, rfl⟩
  · exact ⟨okI_no trivial, rfl⟩
  · exact ⟨okI_no trivial, rfl⟩
  · exact ⟨okI_no trivial, rfl⟩
  · exact ⟨okI_no trivial, rfl⟩
  · exact ⟨okI_no (.inl ⟨_, (SpL _ _ eq1)⟩), rfl⟩
theorem ok_law_no_wakes (B : Bt K mg a)  (F : Fun K "_law_no_wakes" "_law_no_wakes" s_law_no_wakes f fd) : FnOk P w K mg base CX0 1 f fd ["_law_heavy"] (sp_law_no_wakes K a) := by
  refine F.ok sc_law_no_wakes (fun vs H Q E h => ?_) (fun cdv A outer s H vs Q E hr h => ?_)
  · obtain ⟨n, rfl, _⟩ := h
    rfl
  obtain ⟨n, rfl, n0, n1, q⟩ := h
  refine ⟨_, (pss_of (qss_one (qs_ret (qe_lst (qa_c (pe_un un_neg pe_int) (qa_c (pe_op op_sub (pe_un un_neg pe_int) (pv 0)) (qa_c pe_bl (qa_c pe_bl (qa_c (pe_callTy call_str_int rfl B.str PyProof.Rows.boot_str (pa_of (qa_c (pv 0) qa_nil))) (qa_c (pe_lst (pa_of (qa_c (pv 0) qa_nil))) (qa_c (pe_tup (pa_of (qa_c (pv 0) qa_nil))) qa_nil))))))))))), ?_⟩
  have hlg := log_small (n := n) (by omega) (by omega)
  walk_at "w0"
  refine ⟨hlg, sz8 (by first | decide | (simp only [List.length_cons, List.length_nil]; decide)), fun q1 hq1 => ?_⟩
  have Sq1 := same_new hq1 (.lst [.int n])
  have eq1 : upd H q1 (.lst [.int n]) q1 = some (.lst [.int n]) := upd_same
  generalize upd H q1 (.lst [.int n]) = J1 at *
  refine ⟨sz8 (by first | decide | (simp only [List.length_cons, List.length_nil]; decide)), fun q2 hq2 => ?_⟩
  have Sq2 := same_new hq2 (.tup [.int n])
  have eq2 : upd J1 q2 (.tup [.int n]) q2 = some (.tup [.int n]) := upd_same
  generalize upd J1 q2 (.tup [.int n]) = J2 at *
  refine ⟨sz8 (by first | decide | (simp only [List.length_cons, List.length_nil]; decide)), fun pL hpL => ?_⟩
  have SpL := same_new hpL (.lst [.int (-1), .int (-1 - n), .bl true, .bl false, .str (Str.ofString (toString n)), .ref q1, .ref q2])
  have epL : upd J2 pL (.lst [.int (-1), .int (-1 - n), .bl true, .bl false, .str (Str.ofString (toString n)), .ref q1, .ref q2]) pL = some (.lst [.int (-1), .int (-1 - n), .bl true, .bl false, .str (Str.ofString (toString n)), .ref q1, .ref q2]) := upd_same
  generalize upd J2 pL (.lst [.int (-1), .int (-1 - n), .bl true, .bl false, .str (Str.ofString (toString n)), .ref q1, .ref q2]) = J3 at *
  refine q pL _ _ (Sq1.trans (Sq2.trans SpL)) ((Sq1.trans Sq2).free hpL) epL rfl fun x hx => ?_
  simp only [List.cons_append, List.nil_append, List.mem_cons, List.not_mem_nil, or_false] at hx
  rcases hx with rfl | rfl | rfl | rfl | rfl | rfl | rfl
  · exact ⟨okI_no trivial, rfl, rfl⟩
  · exact ⟨okI_no trivial, rfl, decide_eq_false (by omega)⟩
  · exact ⟨okI_no trivial, rfl, rfl⟩
  · exact ⟨okI_no trivial, rfl, rfl⟩
  · exact ⟨okI_no trivial, rfl, rfl⟩
  · exact ⟨okI_no (.inl ⟨_, ((Sq2.trans SpL) _ _ eq1)⟩), rfl, rfl⟩
  · exact ⟨okI_no (.inr ⟨_, (SpL _ _ eq2)⟩), rfl, rfl⟩
theorem ok_law_no_quiet (B : Bt K mg a)  (F : Fun K "_law_no_quiet" "_law_no_quiet" s_law_no_quiet f fd) : FnOk P w K mg base CX0 1 f fd ["_law_hours"] (sp_law_no_quiet K a) := by
  refine F.ok sc_law_no_quiet (fun vs H Q E h => ?_) (fun cdv A outer s H vs Q E hr h => ?_)
  · obtain ⟨hp, s, e, rfl, _⟩ := h
    rfl
  obtain ⟨hp, s, e, rfl, hh, s0, s1, e0, e1, q⟩ := h
  refine ⟨_, (pss_of (qss_cons (qs_set (i := 1) sc_law_no_quiet.nd rfl (Or.inl rfl) (qe_lst (qa_c (pe_tup (pa_of (qa_c (pe_ix ix_tup (pv 0) pe_int (fun _ _ => rfl)) (qa_c (pe_ix ix_tup (pv 0) pe_int (fun _ _ => rfl)) qa_nil)))) (qa_c (pe_tup (pa_of (qa_c (pe_ix ix_tup (pv 0) pe_int (fun _ _ => rfl)) qa_nil))) (qa_c (pe_op op_catT (pv 0) (pe_tup (pa_of (qa_c pe_int qa_nil)))) (qa_c (pe_callTy call_list_of rfl B.list PyProof.Rows.boot_list (pa_of (qa_c (pv 0) qa_nil))) (qa_c (pe_tup (pa_of (qa_c (pe_un un_neg pe_int) (qa_c (pe_ix ix_tup (pv 0) pe_int (fun _ _ => rfl)) qa_nil)))) (qa_c (pe_tup (pa_of (qa_c (pe_ix ix_tup (pv 0) pe_int (fun _ _ => rfl)) (qa_c pe_int qa_nil)))) (qa_c pe_int (qa_c pe_str (qa_c pe_bl qa_nil)))))))))) (by kernel_rfl)) (qss_hold (qss_one (qs_ret (qe_op op_cat (qe_of (pv 1)) (qe_lst (qa_c (pe_tup (pa_of (qa_c (pe_ix ix_tup (pv 0) pe_int (fun _ _ => rfl)) (qa_c pe_non qa_nil)))) (qa_c (pe_tup (pa_of (qa_c pe_str (qa_c (pe_ix ix_tup (pv 0) pe_int (fun _ _ => rfl)) qa_nil)))) (qa_c (pe_tup (pa_of (qa_c pe_bl (qa_c pe_int qa_nil)))) (qa_c (pe_tup (pa_of qa_nil)) (qa_c pe_bl qa_nil)))))))))))), ?_⟩
  walk_at "w0"
  refine ixt (SqT.of hh) (v := (.int s)) rfl ?_
  walk_at "w0"
  refine ixt (SqT.of hh) (v := (.int s)) rfl ?_
  walk_at "w0"
  refine ⟨sz8 (by first | decide | (simp only [List.length_cons, List.length_nil]; decide)), fun t1 ht1 => ?_⟩
  have St1 := same_new ht1 (.tup [.int s, .int s])
  have et1 : upd H t1 (.tup [.int s, .int s]) t1 = some (.tup [.int s, .int s]) := upd_same
  generalize upd H t1 (.tup [.int s, .int s]) = J1 at *
  walk_at "w0"
  refine ixt (SqT.of (St1 _ _ hh)) (v := (.int s)) rfl ?_
  walk_at "w0"
  refine ⟨sz8 (by first | decide | (simp only [List.length_cons, List.length_nil]; decide)), fun t2 ht2 => ?_⟩
  have St2 := same_new ht2 (.tup [.int s])
  have et2 : upd J1 t2 (.tup [.int s]) t2 = some (.tup [.int s]) := upd_same
  generalize upd J1 t2 (.tup [.int s]) = J2 at *
  walk_at "w0"
  refine ⟨sz8 (by first | decide | (simp only [List.length_cons, List.length_nil]; decide)), fun t3 ht3 => ?_⟩
  have St3 := same_new ht3 (.tup [.int 5])
  have et3 : upd J2 t3 (.tup [.int 5]) t3 = some (.tup [.int 5]) := upd_same
  generalize upd J2 t3 (.tup [.int 5]) = J3 at *
  refine ⟨hp, t3, _, _, rfl, rfl, SqT.of ((St1.trans (St2.trans St3)) _ _ hh), SqT.of et3, (by intro z; cases z), sz8 (by first | decide | (simp only [List.length_cons, List.length_nil]; decide)), (fun z => by cases z), fun _ t4 ht4 => ?_⟩
  have St4 := same_new ht4 (.tup [.int s, .int e, .int 5])
  have et4 : upd J3 t4 (.tup ([.int s, .int e] ++ [.int 5])) t4 = some (.tup [.int s, .int e, .int 5]) := upd_same
  simp only [List.cons_append, List.nil_append] at et4 ⊢
  generalize upd J3 t4 (.tup [.int s, .int e, .int 5]) = J4 at *
  walk_at "w0"
  refine ⟨_, .inr (SqT.of ((St1.trans (St2.trans (St3.trans St4))) _ _ hh)), fun t5 ht5 => ?_⟩
  have St5 := same_new ht5 (.lst [.int s, .int e])
  have et5 : upd J4 t5 (.lst [.int s, .int e]) t5 = some (.lst [.int s, .int e]) := upd_same
  generalize upd J4 t5 (.lst [.int s, .int e]) = J5 at *
  walk_at "w0"
  refine ixt (SqT.of ((St1.trans (St2.trans (St3.trans (St4.trans St5)))) _ _ hh)) (v := (.int e)) rfl ?_
  walk_at "w0"
  refine ⟨sz8 (by first | decide | (simp only [List.length_cons, List.length_nil]; decide)), fun t6 ht6 => ?_⟩
  have St6 := same_new ht6 (.tup [.int (-1), .int e])
  have et6 : upd J5 t6 (.tup [.int (-1), .int e]) t6 = some (.tup [.int (-1), .int e]) := upd_same
  generalize upd J5 t6 (.tup [.int (-1), .int e]) = J6 at *
  walk_at "w0"
  refine ixt (SqT.of ((St1.trans (St2.trans (St3.trans (St4.trans (St5.trans St6))))) _ _ hh)) (v := (.int s)) rfl ?_
  walk_at "w0"
  refine ⟨sz8 (by first | decide | (simp only [List.length_cons, List.length_nil]; decide)), fun t7 ht7 => ?_⟩
  have St7 := same_new ht7 (.tup [.int s, .int 1440])
  have et7 : upd J6 t7 (.tup [.int s, .int 1440]) t7 = some (.tup [.int s, .int 1440]) := upd_same
  generalize upd J6 t7 (.tup [.int s, .int 1440]) = J7 at *
  walk_at "w0"
  refine ⟨sz8 (by first | decide | (simp only [List.length_cons, List.length_nil]; decide)), fun p1 hp1 => ?_⟩
  have Sp1 := same_new hp1 (.lst [.ref t1, .ref t2, .ref t4, .ref t5, .ref t6, .ref t7, .int 5, .str "", .bl true])
  have ep1 : upd J7 p1 (.lst [.ref t1, .ref t2, .ref t4, .ref t5, .ref t6, .ref t7, .int 5, .str "", .bl true]) p1 = some (.lst [.ref t1, .ref t2, .ref t4, .ref t5, .ref t6, .ref t7, .int 5, .str "", .bl true]) := upd_same
  generalize upd J7 p1 (.lst [.ref t1, .ref t2, .ref t4, .ref t5, .ref t6, .ref t7, .int 5, .str "", .bl true]) = J8 at *
  walk_at "w0"
  first | refine hold_ret ?_ | (dsimp only; refine hold_ret ?_)
  walk_at "w0"
  refine ixt (SqT.of ((St1.trans (St2.trans (St3.trans (St4.trans (St5.trans (St6.trans (St7.trans Sp1))))))) _ _ hh)) (v := (.int s)) rfl ?_
  walk_at "w0"
  refine ⟨sz8 (by first | decide | (simp only [List.length_cons, List.length_nil]; decide)), fun t8 ht8 => ?_⟩
  have St8 := same_new ht8 (.tup [.int s, .non])
  have et8 : upd J8 t8 (.tup [.int s, .non]) t8 = some (.tup [.int s, .non]) := upd_same
  generalize upd J8 t8 (.tup [.int s, .non]) = J9 at *
  walk_at "w0"
  refine ixt (SqT.of ((St1.trans (St2.trans (St3.trans (St4.trans (St5.trans (St6.trans (St7.trans (Sp1.trans St8)))))))) _ _ hh)) (v := (.int e)) rfl ?_
  walk_at "w0"
  refine ⟨sz8 (by first | decide | (simp only [List.length_cons, List.length_nil]; decide)), fun t9 ht9 => ?_⟩
  have St9 := same_new ht9 (.tup [.str "1", .int e])
  have et9 : upd J9 t9 (.tup [.str "1", .int e]) t9 = some (.tup [.str "1", .int e]) := upd_same
  generalize upd J9 t9 (.tup [.str "1", .int e]) = J10 at *
  walk_at "w0"
  refine ⟨sz8 (by first | decide | (simp only [List.length_cons, List.length_nil]; decide)), fun t10 ht10 => ?_⟩
  have St10 := same_new ht10 (.tup [.bl true, .int 700])
  have et10 : upd J10 t10 (.tup [.bl true, .int 700]) t10 = some (.tup [.bl true, .int 700]) := upd_same
  generalize upd J10 t10 (.tup [.bl true, .int 700]) = J11 at *
  walk_at "w0"
  refine ⟨Nat.zero_le _, fun t11 ht11 => ?_⟩
  have St11 := same_new ht11 (.tup [])
  have et11 : upd J11 t11 (.tup []) t11 = some (.tup []) := upd_same
  generalize upd J11 t11 (.tup []) = J12 at *
  walk_at "w0"
  refine ⟨sz8 (by first | decide | (simp only [List.length_cons, List.length_nil]; decide)), fun p2 hp2 => ?_⟩
  have Sp2 := same_new hp2 (.lst [.ref t8, .ref t9, .ref t10, .ref t11, .bl false])
  have ep2 : upd J12 p2 (.lst [.ref t8, .ref t9, .ref t10, .ref t11, .bl false]) p2 = some (.lst [.ref t8, .ref t9, .ref t10, .ref t11, .bl false]) := upd_same
  generalize upd J12 p2 (.lst [.ref t8, .ref t9, .ref t10, .ref t11, .bl false]) = J13 at *
  walk_at "w0"
  refine ⟨p1, p2, _, _, rfl, rfl, ((St8.trans (St9.trans (St10.trans (St11.trans Sp2)))) _ _ ep1), ep2, sz8 (by first | decide | (simp only [List.length_cons, List.length_nil]; decide)), fun pL hpL => ?_⟩
  have SpL := same_new hpL (.lst ([.ref t1, .ref t2, .ref t4, .ref t5, .ref t6, .ref t7, .int 5, .str "", .bl true] ++ [.ref t8, .ref t9, .ref t10, .ref t11, .bl false]))
  have epL : upd J13 pL (.lst ([.ref t1, .ref t2, .ref t4, .ref t5, .ref t6, .ref t7, .int 5, .str "", .bl true] ++ [.ref t8, .ref t9, .ref t10, .ref t11, .bl false])) pL = some (.lst ([.ref t1, .ref t2, .ref t4, .ref t5, .ref t6, .ref t7, .int 5, .str "", .bl true] ++ [.ref t8, .ref t9, .ref t10, .ref t11, .bl false])) := upd_same
  generalize upd J13 pL (.lst ([.ref t1, .ref t2, .ref t4, .ref t5, .ref t6, .ref t7, .int 5, .str "", .bl true] ++ [.ref t8, .ref t9, .ref t10, .ref t11, .bl false])) = J14 at *
  refine q pL _ _ (St1.trans (St2.trans (St3.trans (St4.trans (St5.trans (St6.trans (St7.trans (Sp1.trans (St8.trans (St9.trans (St10.trans (St11.trans (Sp2.trans SpL))))))))))))) ((St1.trans (St2.trans (St3.trans (St4.trans (St5.trans (St6.trans (St7.trans (Sp1.trans (St8.trans (St9.trans (St10.trans (St11.trans Sp2)))))))))))).free hpL) epL rfl fun x hx => ?_
  simp only [List.cons_append, List.nil_append, List.mem_cons, List.not_mem_nil, or_false] at hx
  rcases hx with rfl | rfl | rfl | rfl | rfl | rfl | rfl | rfl | rfl | rfl | rfl | rfl | rfl | rfl
  · exact qk_tup ((St2.trans (St3.trans (St4.trans (St5.trans (St6.trans (St7.trans (Sp1.trans (St8.trans (St9.trans (St10.trans (St11.trans (Sp2.trans SpL)))))))))))) _ _ et1) (by intro y hy; simp only [List.mem_cons, List.not_mem_nil, or_false] at hy; rcases hy with rfl | rfl <;> trivial) (by simp [qtB])
  · exact qk_tup ((St3.trans (St4.trans (St5.trans (St6.trans (St7.trans (Sp1.trans (St8.trans (St9.trans (St10.trans (St11.trans (Sp2.trans SpL))))))))))) _ _ et2) (by intro y hy; simp only [List.mem_cons, List.not_mem_nil, or_false] at hy; rcases hy with rfl; trivial) (rfl)
  · exact qk_tup ((St5.trans (St6.trans (St7.trans (Sp1.trans (St8.trans (St9.trans (St10.trans (St11.trans (Sp2.trans SpL))))))))) _ _ et4) (by intro y hy; simp only [List.mem_cons, List.not_mem_nil, or_false] at hy; rcases hy with rfl | rfl | rfl <;> trivial) (rfl)
  · exact .inr (.inr ⟨(by intro z; cases z), rfl, _, .lst ((St6.trans (St7.trans (Sp1.trans (St8.trans (St9.trans (St10.trans (St11.trans (Sp2.trans SpL)))))))) _ _ et5), by kernel_rfl⟩)
  · exact qk_tup ((St7.trans (Sp1.trans (St8.trans (St9.trans (St10.trans (St11.trans (Sp2.trans SpL))))))) _ _ et6) (by intro y hy; simp only [List.mem_cons, List.not_mem_nil, or_false] at hy; rcases hy with rfl | rfl <;> trivial) (by simp [qtB, betwV])
  · exact qk_tup ((Sp1.trans (St8.trans (St9.trans (St10.trans (St11.trans (Sp2.trans SpL)))))) _ _ et7) (by intro y hy; simp only [List.mem_cons, List.not_mem_nil, or_false] at hy; rcases hy with rfl | rfl <;> trivial) (by simp [qtB, betwV])
  · exact .inr (.inr ⟨(by intro z; cases z), rfl, _, .int 5, by kernel_rfl⟩)
  · exact .inr (.inr ⟨(by intro z; cases z), rfl, _, .str _, by kernel_rfl⟩)
  · exact .inr (.inr ⟨(by intro z; cases z), rfl, _, .bl _, by kernel_rfl⟩)
  · exact qk_tup ((St9.trans (St10.trans (St11.trans (Sp2.trans SpL)))) _ _ et8) (by intro y hy; simp only [List.mem_cons, List.not_mem_nil, or_false] at hy; rcases hy with rfl | rfl <;> trivial) (by simp [qtB, betwV])
  · exact qk_tup ((St10.trans (St11.trans (Sp2.trans SpL))) _ _ et9) (by intro y hy; simp only [List.mem_cons, List.not_mem_nil, or_false] at hy; rcases hy with rfl | rfl <;> trivial) (by simp [qtB, betwV])
  · exact qk_tup ((St11.trans (Sp2.trans SpL)) _ _ et10) (by intro y hy; simp only [List.mem_cons, List.not_mem_nil, or_false] at hy; rcases hy with rfl | rfl <;> trivial) (by simp [qtB, betwV])
  · exact qk_tup ((Sp2.trans SpL) _ _ et11) (by intro y hy; cases hy) (rfl)
  · exact .inr (.inr ⟨(by intro z; cases z), rfl, _, .bl _, by kernel_rfl⟩)
theorem lnk_lst {H : Hp} {p : Addr} {xs : List V} {bs : List Bool} (e : H p = some (.lst xs)) (hl : xs.length ≤ 100) (h : LB K a H xs bs) (hb : bs.all id = false) : LnK K a H (.ref p) false := .inr (.inl ⟨p, xs, bs, rfl, e, hl, h, hb.symm⟩)
theorem ok_law_no_lines (B : Bt K mg a) (CD_Line_3 : CalD P w K mg base "Line" a.Line ["self", "fit", "way", "roads", "sure", "raised"] 3 [.bl false, .non] (sp_Line___init__ K a)) (CC_Hour : CalC P w K mg base "Hour" a.Hour ["self", "minute"] 4 (sp_Hour___init__ K a)) (F : Fun K "_law_no_lines" "_law_no_lines" s_law_no_lines f fd) : FnOk P w K mg base CX0 6 f fd ["_law_lots"] (sp_law_no_lines K a) := by
  refine F.ok sc_law_no_lines (fun vs H Q E h => ?_) (fun cdv A outer s H vs Q E hr h => ?_)
  · obtain ⟨lp, ps, ms, rfl, _⟩ := h
    rfl
  obtain ⟨lp, ps, ms, rfl, hl, l10, hL, q⟩ := h
  refine ⟨_, (pss_of (qss_hold (qss_cons (qs_set (i := 1) sc_law_no_lines.nd rfl (Or.inl rfl) (qe_lst (qa_c (pe_callTy call_tuple_of rfl B.tuple PyProof.Rows.boot_tuple (pa_of (qa_c (pv 0) qa_nil))) (qa_c pe_int (qa_c pe_str (qa_c pe_str (qa_c pe_noKeys (qa_c pe_bl (qa_c pe_bl (qa_c (pe_op op_cat (pv 0) (pe_lst (pa_of (qa_c pe_non qa_nil)))) (qa_c (pe_op op_cat (pe_lst (pa_of (qa_c pe_str qa_nil))) (pv 0)) (qa_c (pe_op op_cat (pv 0) (pe_lst (pa_of (qa_c (pe_makN B.mk_Any rfl B.Any) qa_nil)))) qa_nil))))))))))) (by kernel_rfl)) (qss_hold (qss_one (qs_ret (qe_op op_cat (qe_of (pv 1)) (qe_lst (qa_c (pe_op op_cat (pv 0) (pe_lst (pa_of (qa_c (pv 0) qa_nil)))) (qa_c (pe_op op_cat (pe_lst (pa_of (qa_c (pe_mak CC_Hour pass00 (hr.mono (by decide)) rfl (pa_of (qa_c pe_int qa_nil)) (he := star_plain _ _ _ rfl) (hpl := plain_any rfl)) qa_nil))) (pv 0)) (qa_c (pe_makD CD_Line_3 pass00 (hr.mono (by decide)) rfl (pa_of (qa_c (pe_makN B.mk_Any rfl B.Any) (qa_c (pe_mak CC_Hour pass00 (hr.mono (by decide)) rfl (pa_of (qa_c pe_int qa_nil)) (he := star_plain _ _ _ rfl) (hpl := plain_any rfl)) (qa_c (pe_lst (pa_of (qa_c pe_str qa_nil))) qa_nil)))) (he := star_plain _ _ _ rfl) (hpl := plain_any rfl)) qa_nil))))))))))), ?_⟩
  first | rw [w_hold] | (dsimp only; rw [w_hold])
  walk_at "w0"
  refine ⟨_, .inl ⟨SqL.of hl, fun t1 ht1 => ?_⟩⟩
  have St1 := same_new ht1 (.tup ps)
  have gt1 : H t1 = none := ht1
  have et1 : upd H t1 (.tup ps) t1 = some (.tup ps) := upd_same
  generalize upd H t1 (.tup ps) = J1 at *
  walk_at "w0"
  intro d1 hd1
  have Sd1 := same_new hd1 (.dK [])
  have ed1 : upd J1 d1 (.dK []) d1 = some (.dK []) := upd_same
  generalize upd J1 d1 (.dK []) = J2 at *
  have gd1 : H d1 = none := St1.free hd1
  walk_at "w0"
  refine ⟨sz8 (by first | decide | (simp only [List.length_cons, List.length_nil]; decide)), fun n1 hn1 => ?_⟩
  have Sn1 := same_new hn1 (.lst [.non])
  have en1 : upd J2 n1 (.lst [.non]) n1 = some (.lst [.non]) := upd_same
  generalize upd J2 n1 (.lst [.non]) = J3 at *
  have gn1 : H n1 = none := (St1.trans Sd1).free hn1
  refine ⟨lp, n1, _, _, rfl, rfl, ((St1.trans (Sd1.trans Sn1)) _ _ hl), en1, sz8 (by simp only [List.length_cons, List.length_nil]; omega), fun c1 hc1 => ?_⟩
  have Sc1 := same_new hc1 (.lst (ps ++ [.non]))
  have ec1 : upd J3 c1 (.lst (ps ++ [.non])) c1 = some (.lst (ps ++ [.non])) := upd_same
  generalize upd J3 c1 (.lst (ps ++ [.non])) = J4 at *
  have gc1 : H c1 = none := (St1.trans (Sd1.trans Sn1)).free hc1
  walk_at "w0"
  refine ⟨sz8 (by first | decide | (simp only [List.length_cons, List.length_nil]; decide)), fun n2 hn2 => ?_⟩
  have Sn2 := same_new hn2 (.lst [.str "any"])
  have en2 : upd J4 n2 (.lst [.str "any"]) n2 = some (.lst [.str "any"]) := upd_same
  generalize upd J4 n2 (.lst [.str "any"]) = J5 at *
  have gn2 : H n2 = none := (St1.trans (Sd1.trans (Sn1.trans Sc1))).free hn2
  refine ⟨n2, lp, _, _, rfl, rfl, en2, ((St1.trans (Sd1.trans (Sn1.trans (Sc1.trans Sn2)))) _ _ hl), sz8 (by simp only [List.length_cons, List.length_nil]; omega), fun c2 hc2 => ?_⟩
  have Sc2 := same_new hc2 (.lst ([.str "any"] ++ ps))
  have ec2 : upd J5 c2 (.lst ([.str "any"] ++ ps)) c2 = some (.lst ([.str "any"] ++ ps)) := upd_same
  generalize upd J5 c2 (.lst ([.str "any"] ++ ps)) = J6 at *
  have gc2 : H c2 = none := (St1.trans (Sd1.trans (Sn1.trans (Sc1.trans Sn2)))).free hc2
  walk_at "w0"
  intro xa dxa hxa hdxa nexa
  have gxa : H xa = none := (St1.trans (Sd1.trans (Sn1.trans (Sc1.trans (Sn2.trans Sc2))))).free hxa
  have Sxa := made_same (o := .own xa) (o' := .ins a.Any dxa []) hxa hdxa
  have exa : upd (upd J6 dxa (.own xa)) xa (.ins a.Any dxa []) xa = some (.ins a.Any dxa []) := upd_same
  generalize upd (upd J6 dxa (.own xa)) xa (.ins a.Any dxa []) = J7 at *
  walk_at "w0"
  refine ⟨sz8 (by first | decide | (simp only [List.length_cons, List.length_nil]; decide)), fun n3 hn3 => ?_⟩
  have Sn3 := same_new hn3 (.lst [.ref xa])
  have en3 : upd J7 n3 (.lst [.ref xa]) n3 = some (.lst [.ref xa]) := upd_same
  generalize upd J7 n3 (.lst [.ref xa]) = J8 at *
  have gn3 : H n3 = none := (St1.trans (Sd1.trans (Sn1.trans (Sc1.trans (Sn2.trans (Sc2.trans Sxa)))))).free hn3
  refine ⟨lp, n3, _, _, rfl, rfl, ((St1.trans (Sd1.trans (Sn1.trans (Sc1.trans (Sn2.trans (Sc2.trans (Sxa.trans Sn3))))))) _ _ hl), en3, sz8 (by simp only [List.length_cons, List.length_nil]; omega), fun c3 hc3 => ?_⟩
  have Sc3 := same_new hc3 (.lst (ps ++ [.ref xa]))
  have ec3 : upd J8 c3 (.lst (ps ++ [.ref xa])) c3 = some (.lst (ps ++ [.ref xa])) := upd_same
  generalize upd J8 c3 (.lst (ps ++ [.ref xa])) = J9 at *
  have gc3 : H c3 = none := (St1.trans (Sd1.trans (Sn1.trans (Sc1.trans (Sn2.trans (Sc2.trans (Sxa.trans Sn3))))))).free hc3
  walk_at "w0"
  refine ⟨sz8 (by first | decide | (simp only [List.length_cons, List.length_nil]; decide)), fun p1 hp1 => ?_⟩
  have Sp1 := same_new hp1 (.lst [.ref t1, .int 5, .str "", .str "any", .ref d1, .bl true, .bl false, .ref c1, .ref c2, .ref c3])
  have ep1 : upd J9 p1 (.lst [.ref t1, .int 5, .str "", .str "any", .ref d1, .bl true, .bl false, .ref c1, .ref c2, .ref c3]) p1 = some (.lst [.ref t1, .int 5, .str "", .str "any", .ref d1, .bl true, .bl false, .ref c1, .ref c2, .ref c3]) := upd_same
  generalize upd J9 p1 (.lst [.ref t1, .int 5, .str "", .str "any", .ref d1, .bl true, .bl false, .ref c1, .ref c2, .ref c3]) = J10 at *
  have gp1 : H p1 = none := (St1.trans (Sd1.trans (Sn1.trans (Sc1.trans (Sn2.trans (Sc2.trans (Sxa.trans (Sn3.trans Sc3)))))))).free hp1
  have Z11 := (St1.trans (Sd1.trans (Sn1.trans (Sc1.trans (Sn2.trans (Sc2.trans (Sxa.trans (Sn3.trans (Sc3.trans Sp1)))))))))
  have ll_12 := ((St1.trans (Sd1.trans (Sn1.trans (Sc1.trans (Sn2.trans (Sc2.trans (Sxa.trans (Sn3.trans (Sc3.trans Sp1))))))))) _ _ hl)
  have t1_13 := ((Sd1.trans (Sn1.trans (Sc1.trans (Sn2.trans (Sc2.trans (Sxa.trans (Sn3.trans (Sc3.trans Sp1)))))))) _ _ et1)
  have d1_14 := ((Sn1.trans (Sc1.trans (Sn2.trans (Sc2.trans (Sxa.trans (Sn3.trans (Sc3.trans Sp1))))))) _ _ ed1)
  have c1_15 := ((Sn2.trans (Sc2.trans (Sxa.trans (Sn3.trans (Sc3.trans Sp1))))) _ _ ec1)
  have c2_16 := ((Sxa.trans (Sn3.trans (Sc3.trans Sp1))) _ _ ec2)
  have c3_17 := (Sp1 _ _ ec3)
  have xa_18 := ((Sn3.trans (Sc3.trans Sp1)) _ _ exa)
  have p1_19 := ep1
  clear St1 Sd1 Sn1 Sc1 Sn2 Sc2 Sxa Sn3 Sc3 Sp1
  walk_at "w0"
  first | refine hold_ret ?_ | (dsimp only; refine hold_ret ?_)
  walk_at "w0"
  refine ⟨sz8 (by first | decide | (simp only [List.length_cons, List.length_nil]; decide)), fun n4 hn4 => ?_⟩
  have Sn4 := same_new hn4 (.lst [.ref lp])
  have en4 : upd J10 n4 (.lst [.ref lp]) n4 = some (.lst [.ref lp]) := upd_same
  generalize upd J10 n4 (.lst [.ref lp]) = J20 at *
  have gn4 : H n4 = none := Z11.free hn4
  refine ⟨lp, n4, _, _, rfl, rfl, (Sn4 _ _ ll_12), en4, sz8 (by simp only [List.length_cons, List.length_nil]; omega), fun c4 hc4 => ?_⟩
  have Sc4 := same_new hc4 (.lst (ps ++ [.ref lp]))
  have ec4 : upd J20 c4 (.lst (ps ++ [.ref lp])) c4 = some (.lst (ps ++ [.ref lp])) := upd_same
  generalize upd J20 c4 (.lst (ps ++ [.ref lp])) = J21 at *
  have gc4 : H c4 = none := (Z11.trans Sn4).free hc4
  walk_at "w0"
  intro yh dyh hyh hdyh neyh
  have gyh : H yh = none := (Z11.trans (Sn4.trans Sc4)).free hyh
  have Myh := made_same (o := .own yh) (o' := .ins a.Hour dyh []) hyh hdyh
  refine ⟨yh, dyh, 5, rfl, upd_same, by decide, by decide, ?_⟩
  have Syh : Same J21 (upd (upd (upd J21 dyh (.own yh)) yh (.ins a.Hour dyh [])) yh (.ins a.Hour dyh [("minute", .int 5)])) := fun b o e => by rw [upd_ne (ne_of_none e hyh)]; exact Myh b o e
  have eyh : upd (upd (upd J21 dyh (.own yh)) yh (.ins a.Hour dyh [])) yh (.ins a.Hour dyh [("minute", .int 5)]) yh = some (.ins a.Hour dyh [("minute", .int 5)]) := upd_same
  generalize upd (upd (upd J21 dyh (.own yh)) yh (.ins a.Hour dyh [])) yh (.ins a.Hour dyh [("minute", .int 5)]) = J22 at *
  walk_at "w0"
  refine ⟨sz8 (by first | decide | (simp only [List.length_cons, List.length_nil]; decide)), fun n5 hn5 => ?_⟩
  have Sn5 := same_new hn5 (.lst [.ref yh])
  have en5 : upd J22 n5 (.lst [.ref yh]) n5 = some (.lst [.ref yh]) := upd_same
  generalize upd J22 n5 (.lst [.ref yh]) = J23 at *
  have gn5 : H n5 = none := (Z11.trans (Sn4.trans (Sc4.trans Syh))).free hn5
  refine ⟨n5, lp, _, _, rfl, rfl, en5, ((Sn4.trans (Sc4.trans (Syh.trans Sn5))) _ _ ll_12), sz8 (by simp only [List.length_cons, List.length_nil]; omega), fun c5 hc5 => ?_⟩
  have Sc5 := same_new hc5 (.lst ([.ref yh] ++ ps))
  have ec5 : upd J23 c5 (.lst ([.ref yh] ++ ps)) c5 = some (.lst ([.ref yh] ++ ps)) := upd_same
  generalize upd J23 c5 (.lst ([.ref yh] ++ ps)) = J24 at *
  have gc5 : H c5 = none := (Z11.trans (Sn4.trans (Sc4.trans (Syh.trans Sn5)))).free hc5
  walk_at "w0"
  intro xb dxb hxb hdxb nexb
  have gxb : H xb = none := (Z11.trans (Sn4.trans (Sc4.trans (Syh.trans (Sn5.trans Sc5))))).free hxb
  have Sxb := made_same (o := .own xb) (o' := .ins a.Any dxb []) hxb hdxb
  have exb : upd (upd J24 dxb (.own xb)) xb (.ins a.Any dxb []) xb = some (.ins a.Any dxb []) := upd_same
  generalize upd (upd J24 dxb (.own xb)) xb (.ins a.Any dxb []) = J25 at *
  walk_at "w0"
  intro yb dyb hyb hdyb neyb
  have gyb : H yb = none := (Z11.trans (Sn4.trans (Sc4.trans (Syh.trans (Sn5.trans (Sc5.trans Sxb)))))).free hyb
  have Myb := made_same (o := .own yb) (o' := .ins a.Hour dyb []) hyb hdyb
  refine ⟨yb, dyb, 5, rfl, upd_same, by decide, by decide, ?_⟩
  have Syb : Same J25 (upd (upd (upd J25 dyb (.own yb)) yb (.ins a.Hour dyb [])) yb (.ins a.Hour dyb [("minute", .int 5)])) := fun b o e => by rw [upd_ne (ne_of_none e hyb)]; exact Myb b o e
  have eyb : upd (upd (upd J25 dyb (.own yb)) yb (.ins a.Hour dyb [])) yb (.ins a.Hour dyb [("minute", .int 5)]) yb = some (.ins a.Hour dyb [("minute", .int 5)]) := upd_same
  generalize upd (upd (upd J25 dyb (.own yb)) yb (.ins a.Hour dyb [])) yb (.ins a.Hour dyb [("minute", .int 5)]) = J26 at *
  walk_at "w0"
  refine ⟨sz8 (by first | decide | (simp only [List.length_cons, List.length_nil]; decide)), fun rb hrb => ?_⟩
  have Srb := same_new hrb (.lst [.str "mail"])
  have erb : upd J26 rb (.lst [.str "mail"]) rb = some (.lst [.str "mail"]) := upd_same
  generalize upd J26 rb (.lst [.str "mail"]) = J27 at *
  have grb : H rb = none := (Z11.trans (Sn4.trans (Sc4.trans (Syh.trans (Sn5.trans (Sc5.trans (Sxb.trans Syb))))))).free hrb
  walk_at "w0"
  intro zb dzb hzb hdzb nezb
  have gzb : H zb = none := (Z11.trans (Sn4.trans (Sc4.trans (Syh.trans (Sn5.trans (Sc5.trans (Sxb.trans (Syb.trans Srb)))))))).free hzb
  have Mzb := made_same (o := .own zb) (o' := .ins a.Line dzb []) hzb hdzb
  refine ⟨zb, dzb, xb, yb, rb, dxb, dyb, _, _, rfl, upd_same, Mzb _ _ ((Syb.trans Srb) _ _ exb), Mzb _ _ (Srb _ _ eyb), Mzb _ _ erb, fun lzb J28 Bzb ezb => ?_⟩
  have Szb := made_but hzb hdzb Bzb
  walk_at "w0"
  refine ⟨sz8 (by first | decide | (simp only [List.length_cons, List.length_nil]; decide)), fun p2 hp2 => ?_⟩
  have Sp2 := same_new hp2 (.lst [.ref c4, .ref c5, .ref zb])
  have ep2 : upd J28 p2 (.lst [.ref c4, .ref c5, .ref zb]) p2 = some (.lst [.ref c4, .ref c5, .ref zb]) := upd_same
  generalize upd J28 p2 (.lst [.ref c4, .ref c5, .ref zb]) = J29 at *
  have gp2 : H p2 = none := (Z11.trans (Sn4.trans (Sc4.trans (Syh.trans (Sn5.trans (Sc5.trans (Sxb.trans (Syb.trans (Srb.trans Szb))))))))).free hp2
  walk_at "w0"
  refine ⟨p1, p2, _, _, rfl, rfl, ((Sn4.trans (Sc4.trans (Syh.trans (Sn5.trans (Sc5.trans (Sxb.trans (Syb.trans (Srb.trans (Szb.trans Sp2))))))))) _ _ p1_19), ep2, sz8 (by simp only [List.length_cons, List.length_nil]; omega), fun pL hpL => ?_⟩
  have SpL := same_new hpL (.lst ([.ref t1, .int 5, .str "", .str "any", .ref d1, .bl true, .bl false, .ref c1, .ref c2, .ref c3] ++ [.ref c4, .ref c5, .ref zb]))
  have epL : upd J29 pL (.lst ([.ref t1, .int 5, .str "", .str "any", .ref d1, .bl true, .bl false, .ref c1, .ref c2, .ref c3] ++ [.ref c4, .ref c5, .ref zb])) pL = some (.lst ([.ref t1, .int 5, .str "", .str "any", .ref d1, .bl true, .bl false, .ref c1, .ref c2, .ref c3] ++ [.ref c4, .ref c5, .ref zb])) := upd_same
  generalize upd J29 pL (.lst ([.ref t1, .int 5, .str "", .str "any", .ref d1, .bl true, .bl false, .ref c1, .ref c2, .ref c3] ++ [.ref c4, .ref c5, .ref zb])) = J30 at *
  have gpL : H pL = none := (Z11.trans (Sn4.trans (Sc4.trans (Syh.trans (Sn5.trans (Sc5.trans (Sxb.trans (Syb.trans (Srb.trans (Szb.trans Sp2)))))))))).free hpL
  have lb := (hL.same (Z11.trans (Sn4.trans (Sc4.trans (Syh.trans (Sn5.trans (Sc5.trans (Sxb.trans (Syb.trans (Srb.trans (Szb.trans (Sp2.trans SpL)))))))))))).lb B
  refine q pL _ _ (Z11.trans (Sn4.trans (Sc4.trans (Syh.trans (Sn5.trans (Sc5.trans (Sxb.trans (Syb.trans (Srb.trans (Szb.trans (Sp2.trans SpL))))))))))) ((Z11.trans (Sn4.trans (Sc4.trans (Syh.trans (Sn5.trans (Sc5.trans (Sxb.trans (Syb.trans (Srb.trans (Szb.trans Sp2)))))))))).free hpL) epL rfl fun x hx => ?_
  simp only [List.cons_append, List.nil_append, List.mem_cons, List.not_mem_nil, or_false] at hx
  rcases hx with rfl | rfl | rfl | rfl | rfl | rfl | rfl | rfl | rfl | rfl | rfl | rfl | rfl
  · exact ⟨.inr (.inr ⟨(by intro z; cases z), rfl, _, .tup ((Sn4.trans (Sc4.trans (Syh.trans (Sn5.trans (Sc5.trans (Sxb.trans (Syb.trans (Srb.trans (Szb.trans (Sp2.trans SpL)))))))))) _ _ t1_13), by kernel_rfl⟩), (by intro r hr; cases hr; exact gt1)⟩
  · exact ⟨.inr (.inr ⟨(by intro z; cases z), rfl, _, .int 5, by kernel_rfl⟩), (by intro r hr; cases hr)⟩
  · exact ⟨.inr (.inr ⟨(by intro z; cases z), rfl, _, .str _, by kernel_rfl⟩), (by intro r hr; cases hr)⟩
  · exact ⟨.inr (.inr ⟨(by intro z; cases z), rfl, _, .str _, by kernel_rfl⟩), (by intro r hr; cases hr)⟩
  · exact ⟨.inr (.inr ⟨(by intro z; cases z), rfl, _, .dK ((Sn4.trans (Sc4.trans (Syh.trans (Sn5.trans (Sc5.trans (Sxb.trans (Syb.trans (Srb.trans (Szb.trans (Sp2.trans SpL)))))))))) _ _ d1_14), by kernel_rfl⟩), (by intro r hr; cases hr; exact gd1)⟩
  · exact ⟨.inr (.inr ⟨(by intro z; cases z), rfl, _, .bl _, by kernel_rfl⟩), (by intro r hr; cases hr)⟩
  · exact ⟨.inr (.inr ⟨(by intro z; cases z), rfl, _, .bl _, by kernel_rfl⟩), (by intro r hr; cases hr)⟩
  · exact ⟨lnk_lst ((Sn4.trans (Sc4.trans (Syh.trans (Sn5.trans (Sc5.trans (Sxb.trans (Syb.trans (Srb.trans (Szb.trans (Sp2.trans SpL)))))))))) _ _ c1_15) (by simp only [List.length_append, List.length_cons, List.length_nil]; omega) (lb.app (.cons ⟨_, .non, B.noLine_NoneType⟩ .nil)) (by simp), (by intro r hr; cases hr; exact gc1)⟩
  · exact ⟨lnk_lst ((Sn4.trans (Sc4.trans (Syh.trans (Sn5.trans (Sc5.trans (Sxb.trans (Syb.trans (Srb.trans (Szb.trans (Sp2.trans SpL)))))))))) _ _ c2_16) (by simp only [List.length_append, List.length_cons, List.length_nil]; omega) (.cons ⟨_, .str _, B.noLine_str⟩ lb) rfl, (by intro r hr; cases hr; exact gc2)⟩
  · exact ⟨lnk_lst ((Sn4.trans (Sc4.trans (Syh.trans (Sn5.trans (Sc5.trans (Sxb.trans (Syb.trans (Srb.trans (Szb.trans (Sp2.trans SpL)))))))))) _ _ c3_17) (by simp only [List.length_append, List.length_cons, List.length_nil]; omega) (lb.app (.cons ⟨_, B.ck_Any.ty ((Sn4.trans (Sc4.trans (Syh.trans (Sn5.trans (Sc5.trans (Sxb.trans (Syb.trans (Srb.trans (Szb.trans (Sp2.trans SpL)))))))))) _ _ xa_18), B.is_Any_Line⟩ .nil)) (by simp), (by intro r hr; cases hr; exact gc3)⟩
  · exact ⟨lnk_lst ((Syh.trans (Sn5.trans (Sc5.trans (Sxb.trans (Syb.trans (Srb.trans (Szb.trans (Sp2.trans SpL)))))))) _ _ ec4) (by simp only [List.length_append, List.length_cons, List.length_nil]; omega) (lb.app (.cons ⟨_, .lst ((Sn4.trans (Sc4.trans (Syh.trans (Sn5.trans (Sc5.trans (Sxb.trans (Syb.trans (Srb.trans (Szb.trans (Sp2.trans SpL)))))))))) _ _ ll_12), B.noLine_list⟩ .nil)) (by simp), (by intro r hr; cases hr; exact gc4)⟩
  · exact ⟨lnk_lst ((Sxb.trans (Syb.trans (Srb.trans (Szb.trans (Sp2.trans SpL))))) _ _ ec5) (by simp only [List.length_append, List.length_cons, List.length_nil]; omega) (.cons ⟨_, B.ck_Hour.ty ((Sn5.trans (Sc5.trans (Sxb.trans (Syb.trans (Srb.trans (Szb.trans (Sp2.trans SpL))))))) _ _ eyh), B.is_Hour_Line⟩ lb) rfl, (by intro r hr; cases hr; exact gc5)⟩
  · exact ⟨.inr (.inr ⟨(by intro z; cases z), rfl, _, B.ck_Line.ty ((Sp2.trans SpL) _ _ ezb), B.is_Line_list⟩), (by intro r hr; cases hr; exact gzb)⟩
theorem ok_law_minutes (B : Bt K mg a)  (F : Fun K "_law_minutes" "_law_minutes" s_law_minutes f fd) : FnOk P w K mg base CX0 1 f fd ["_law_found"] (sp_law_minutes K a) := by
  refine F.ok sc_law_minutes (fun vs H Q E h => ?_) (fun cdv A outer s H vs Q E hr h => ?_)
  · obtain ⟨lp, ps, ms, rfl, _⟩ := h
    rfl
  obtain ⟨lp, ps, ms, rfl, hl, l10, hL, q⟩ := h
  refine ⟨_, (pss_of (qss_cons (qs_if (L2.PW.pt (pw_or (pt_not (pt_val (pe_callB (isiG_at (K := K) (T := "list") rfl) rfl B.isinstance PyProof.Rows.boot_isinstance (pa_of (qa_c (pv 0) (qa_c (pe_bltn (v := .ty "list") rfl B.list PyProof.Rows.boot_list rfl) qa_nil))) (he := star_plain _ _ _ rfl) (hpl := plain_any rfl)))) (pw_or1 (pt_cmpR (op_neD hr.units) (pe_compB ["_law_line"] [none] rfl (by kernel_rfl) (pi_list (pv 0)) (fun cl C s H fp => ⟨(pg_name (i := 0) (by decide : List.Nodup (["_law_line"] : List Str)) rfl (Or.inl (by kernel_rfl)) (Or.inr (by kernel_rfl))), (pts_one (pt_not (pt_val (pe_callB (isiV_at (K := K) rfl) (gl_of (by kernel_rfl)) B.isinstance PyProof.Rows.boot_isinstance (pa_of (qa_c (pv 0 (hv := Or.inl (by kernel_rfl))) (qa_c (pe_glob (v := .ref _) (gl_of (by kernel_rfl)) B.Line rfl) qa_nil))) (he := star_plain _ _ _ rfl) (hpl := plain_any rfl))))), (pv 0 (hv := Or.inl (by kernel_rfl)))⟩)) (pe_lst (pa_of qa_nil)) (nomark _))))) (qss_one (qs_ret (qe_of pe_non))) qss_nil) (qss_one (qs_ret (qe_of (pe_compB ["_law_line"] [none] rfl (by kernel_rfl) (pi_list (pv 0)) (fun cl C s H fp => ⟨(pg_name (i := 0) (by decide : List.Nodup (["_law_line"] : List Str)) rfl (Or.inl (by kernel_rfl)) (Or.inr (by kernel_rfl))), pts_nil, (fld_at (K := K) rfl (fld_at (K := K) rfl (pv 0 (hv := Or.inl (by kernel_rfl))) rfl) rfl)⟩))))))), ?_⟩
  walk_at "w0"
  refine ⟨_, _, true, rfl, .lst hl, by kernel_rfl, ?_⟩
  exists Bool.not_true
  refine ⟨⟨ps, SqL.of hl⟩, ?_⟩
  refine CompL.by (xs := ps) (fun i acc σ H' => acc = [] ∧ (∃ v, σ = [v]) ∧ H' = H) (sz8 (by omega)) ⟨rfl, ⟨_, rfl⟩, rfl⟩ (fun i acc σ H' _ h => by rw [h.2.2]; exact SqL.of hl) ?_ ?_ ?_
  · rintro i y acc σ H' hy ⟨rfl, ⟨v, rfl⟩, rfl⟩
    obtain ⟨m, p, dl, fp, yp, lr, dy, rfl, h1, h2⟩ := hL.mem (List.mem_of_getElem? hy)
    walk_at "w0"
    refine ⟨_, _, _, true, rfl, B.ck_Line.ty h1, B.is_Line_Line, ?_⟩
    exists Bool.not_true
  · rintro i acc σ H' ⟨rfl, _, _⟩
    exact Nat.zero_le _
  rintro acc σ H' ⟨rfl, ⟨v, rfl⟩, rfl⟩ D hD
  have S1 := same_new hD (.lst [])
  have e1 : upd H' D (.lst []) D = some (.lst []) := upd_same
  generalize upd H' D (.lst []) = H1 at *
  walk_at "w0"
  refine ⟨Nat.zero_le _, fun p2 h2 => ?_⟩
  have S2 := same_new h2 (.lst [])
  refine eqd (.lst (S2 _ _ e1) .nil) (.lst upd_same .nil) (shaped_of (Nat.zero_le _) (lay_ints [])).1 ?_
  have SS := S1.trans S2
  generalize upd H1 p2 (.lst []) = H2 at *
  walk_at "w0"
  refine ⟨⟨ps, SqL.of (SS _ _ hl)⟩, ?_⟩
  refine CompL.by (xs := ps) (fun i acc σ H' => acc = (ms.take i).map V.int ∧ (∃ v, σ = [v]) ∧ H' = H2) (sz8 (by omega)) ⟨rfl, ⟨_, rfl⟩, rfl⟩ (fun i acc σ H' _ h => by rw [h.2.2]; exact SqL.of (SS _ _ hl)) ?_ ?_ ?_
  · rintro i y acc σ H'' hy ⟨rfl, ⟨v, rfl⟩, rfl⟩
    have hi : i < ms.length := by
      rw [← hL.1]
      exact (List.getElem?_eq_some_iff.mp hy).1
    obtain ⟨p, dl, fp, yp, lr, dy, rfl, h1, h2⟩ := (hL.2 i y _ hy (List.getElem?_eq_getElem hi)).same SS
    have ea : (ms.take i).map V.int ++ [V.int ms[i]] = (ms.take (i + 1)).map V.int := by
      rw [List.take_succ, List.getElem?_eq_getElem hi, List.map_append]
      rfl
    walk_at "w0"
    refine ⟨_, _, _, h1, B.ck_Line.cl, B.na_Line_way, .ref yp, rfl, ?_⟩
    walk_at "w0"
    refine ⟨_, _, _, h2, B.ck_Hour.cl, B.na_Hour_minute, _, rfl, ?_⟩
    first | exact ⟨ea, ⟨_, rfl⟩, rfl⟩ | exact ea
  · rintro i acc σ H'' ⟨rfl, _, _⟩
    rw [List.length_map, List.length_take]
    omega
  · rintro acc σ H'' ⟨rfl, ⟨v, rfl⟩, rfl⟩ D2 hD2
    rw [hL.1, List.take_length]
    exact q D2 _ (SS.trans (same_new hD2 _)) upd_same
theorem ok_law_right (B : Bt K mg a) (C_law_minutes : CalX P w K mg base "_law_minutes" ["_law_found"] 1 (sp_law_minutes K a)) (F : Fun K "_law_right" "_law_right" s_law_right f fd) : FnOk P w K mg base CX0 2 f fd ["_law_wishes", "_law_zone", "_law_hours", "_law_heavy", "_law_minutes_here"] (sp_law_right K a) := by
  refine F.ok sc_law_right (fun vs H Q E h => ?_) (fun cdv A outer s H vs Q E hr h => ?_)
  · obtain ⟨wp, dx, lp, mp, z, qq, k, ps, ms, rfl, _⟩ := h
    rfl
  obtain ⟨wp, dx, lp, mp, z, qq, k, ps, ms, rfl, hw, hl, l10, hL, hm, hq, hk, q⟩ := h
  refine ⟨_, (pss_of (qss_cons (qs_if (L2.PW.pt (pw_or (pt_not (pt_val (pe_callB (isiV_at (K := K) rfl) rfl B.isinstance PyProof.Rows.boot_isinstance (pa_of (qa_c (pv 0) (qa_c (pe_glob (v := .ref _) rfl B.Wishes rfl) qa_nil))) (he := star_plain _ _ _ rfl) (hpl := plain_any rfl)))) (pw_or1 (pt_val (pe_callB (isiG_at (K := K) (T := "bool") rfl) rfl B.isinstance PyProof.Rows.boot_isinstance (pa_of (qa_c (pe_fld (pv 0) rfl) (qa_c (pe_bltn (v := .ty "bool") rfl B.bool PyProof.Rows.boot_bool rfl) qa_nil))) (he := star_plain _ _ _ rfl) (hpl := plain_any rfl)))))) (qss_one (qs_ret (qe_of pe_bl))) qss_nil) (qss_cons (qs_if (pt_cmpR (op_neD hr.units) (pe_tup (pa_of (qa_c (pe_fld (pv 0) rfl) (qa_c (pe_fld (pv 0) rfl) (qa_c (pe_fld (pv 0) rfl) qa_nil))))) (pe_tup (pa_of (qa_c (pv 1) (qa_c (pv 2) (qa_c (pv 3) qa_nil))))) (nomark _)) (qss_one (qs_ret (qe_of pe_bl))) qss_nil) (qss_one (qs_ret (qe_of (pe_cmpR (op_eqD hr.units) (pe_calN C_law_minutes (hr.mono (by decide)) rfl (pa_of (qa_c (pe_fld (pv 0) rfl) qa_nil)) (he := star_plain _ _ _ rfl) (hpl := plain_any rfl)) (pv 4) (nomark _)))))))), ?_⟩
  walk_at "w0"
  refine ⟨_, _, _, true, rfl, B.ck_Wishes.ty hw, B.is_Wishes_Wishes, ?_⟩
  exists Bool.not_true
  refine ⟨_, _, _, hw, B.ck_Wishes.cl, B.na_Wishes_zone, .int z, rfl, ?_⟩
  walk_at "w0"
  refine ⟨_, _, false, rfl, .int z, by kernel_rfl, ?_⟩
  walk_at "w0"
  refine ⟨_, _, _, hw, B.ck_Wishes.cl, B.na_Wishes_zone, .int z, rfl, ?_⟩
  walk_at "w0"
  refine ⟨_, _, _, hw, B.ck_Wishes.cl, B.na_Wishes_quiet, qq, rfl, ?_⟩
  walk_at "w0"
  refine ⟨_, _, _, hw, B.ck_Wishes.cl, B.na_Wishes_wake, k, rfl, ?_⟩
  walk_at "w0"
  refine ⟨sz8 (by decide), fun t1 ht1 => ?_⟩
  have S1 := same_new ht1 (.tup [.int z, qq, k])
  have e1 : upd H t1 (.tup [.int z, qq, k]) t1 = some (.tup [.int z, qq, k]) := upd_same
  generalize upd H t1 (.tup [.int z, qq, k]) = H1 at *
  refine ⟨sz8 (by decide), fun t2 ht2 => ?_⟩
  have S2 := same_new ht2 (.tup [.int z, qq, k])
  have e2 : upd H1 t2 (.tup [.int z, qq, k]) t2 = some (.tup [.int z, qq, k]) := upd_same
  have e1' := S2 _ _ e1
  have SS := S1.trans S2
  generalize upd H1 t2 (.tup [.int z, qq, k]) = H2 at *
  obtain ⟨dq, rdq, dk, rdk, sh⟩ : ∃ dq, RD H2 qq dq ∧ ∃ dk, RD H2 k dk ∧ SeqAt.shaped (.tuple [.int z, dq, dk]) = true := by
    rcases hq with rfl | ⟨hp, s, e, rfl, hh⟩ <;> rcases hk with rfl | ⟨n, rfl⟩
    · exact ⟨_, .non, _, .non, by simp [SeqAt.shaped, PyData.canLay0, PyData.canLayAll0, PyData.depth, PyData.depthAll]⟩
    · exact ⟨_, .non, _, .int n, by simp [SeqAt.shaped, PyData.canLay0, PyData.canLayAll0, PyData.depth, PyData.depthAll]⟩
    · exact ⟨_, .tup (SS _ _ hh) (.cons (.int s) (.cons (.int e) .nil)), _, .non, by simp [SeqAt.shaped, PyData.canLay0, PyData.canLayAll0, PyData.depth, PyData.depthAll]⟩
    · exact ⟨_, .tup (SS _ _ hh) (.cons (.int s) (.cons (.int e) .nil)), _, .int n, by simp [SeqAt.shaped, PyData.canLay0, PyData.canLayAll0, PyData.depth, PyData.depthAll]⟩
  refine eqd (.tup e1' (.cons (.int z) (.cons rdq (.cons rdk .nil)))) (.tup e2 (.cons (.int z) (.cons rdq (.cons rdk .nil)))) sh ?_
  walk_at "w0"
  refine ⟨_, _, _, SS _ _ hw, B.ck_Wishes.cl, B.na_Wishes_lines, .ref lp, rfl, ?_⟩
  walk_at "w0"
  refine ⟨lp, ps, ms, rfl, SS _ _ hl, l10, hL.same SS, fun p H3 S3 e3 => ?_⟩
  refine eqd (.lst e3 (rds_ints ms)) (.lst ((SS.trans S3) _ _ hm) (rds_ints ms)) (shaped_of (Nat.zero_le _) (lay_ints ms)).1 ?_
  exact q _ (SS.trans S3)
theorem ok_law_odd_right (B : Bt K mg a) (C_law_no_zones : CalX P w K mg base "_law_no_zones" ["_law_zone"] 1 (sp_law_no_zones K a)) (C_law_next : CalX P w K mg base "_law_next" ["_law_state", "_law_base"] 1 (sp_law_next K a)) (C_law_no_quiet : CalX P w K mg base "_law_no_quiet" ["_law_hours"] 1 (sp_law_no_quiet K a)) (C_law_no_wakes : CalX P w K mg base "_law_no_wakes" ["_law_heavy"] 1 (sp_law_no_wakes K a)) (C_law_no_lines : CalX P w K mg base "_law_no_lines" ["_law_lots"] 6 (sp_law_no_lines K a)) (C_law_refused : CalX P w K mg base "_law_refused" ["_law_zone", "_law_hours", "_law_heavy", "_law_lots"] 8 (sp_law_refused K a)) (F : Fun K "_law_odd_right" "_law_odd_right" s_law_odd_right f fd) : FnOk P w K mg base CX0 9 f fd ["_law_state", "_law_zone", "_law_hours", "_law_heavy", "_law_lots"] (sp_law_odd_right K a) := by
  refine F.ok sc_law_odd_right (fun vs H Q E h => ?_) (fun cdv A outer s H vs Q E hr h => ?_)
  · obtain ⟨w, hp, lp, z, n, s, e, ps, ms, rfl, _⟩ := h
    rfl
  obtain ⟨w, hp, lp, z, n, s, e, ps, ms, rfl, W, z0, z1, n0, n1, hh, s0, s1, e0, e1, ne, hl, nl, l10, hL, q⟩ := h
  refine ⟨_, (pss_of (qss_hold (qss_cons (qs_set (i := 5) sc_law_odd_right.nd rfl (Or.inl rfl) (qe_of (pe_ix ix_list (pe_calN C_law_no_zones (hr.mono (by decide)) rfl (pa_of (qa_c (pv 1) qa_nil)) (he := star_plain _ _ _ rfl) (hpl := plain_any rfl)) (pe_calN C_law_next (hr.mono (by decide)) rfl (pa_of (qa_c (pv 0) (qa_c pe_int qa_nil))) (he := star_plain _ _ _ rfl) (hpl := plain_any rfl)) (fun _ _ => rfl))) (by kernel_rfl)) (qss_hold (qss_cons (qs_set (i := 6) sc_law_odd_right.nd rfl (Or.inl rfl) (qe_of (pe_ix ix_list (pe_calN C_law_no_quiet (hr.mono (by decide)) rfl (pa_of (qa_c (pv 2) qa_nil)) (he := star_plain _ _ _ rfl) (hpl := plain_any rfl)) (pe_calN C_law_next (hr.mono (by decide)) rfl (pa_of (qa_c (pv 0) (qa_c pe_int qa_nil))) (he := star_plain _ _ _ rfl) (hpl := plain_any rfl)) (fun _ _ => rfl))) (by kernel_rfl)) (qss_hold (qss_cons (qs_set (i := 7) sc_law_odd_right.nd rfl (Or.inl rfl) (qe_of (pe_ix ix_list (pe_calN C_law_no_wakes (hr.mono (by decide)) rfl (pa_of (qa_c (pv 3) qa_nil)) (he := star_plain _ _ _ rfl) (hpl := plain_any rfl)) (pe_calN C_law_next (hr.mono (by decide)) rfl (pa_of (qa_c (pv 0) (qa_c pe_int qa_nil))) (he := star_plain _ _ _ rfl) (hpl := plain_any rfl)) (fun _ _ => rfl))) (by kernel_rfl)) (qss_hold (qss_cons (qs_set (i := 8) sc_law_odd_right.nd rfl (Or.inl rfl) (qe_of (pe_ix ix_list (pe_calN C_law_no_lines (hr.mono (by decide)) rfl (pa_of (qa_c (pv 4) qa_nil)) (he := star_plain _ _ _ rfl) (hpl := plain_any rfl)) (pe_calN C_law_next (hr.mono (by decide)) rfl (pa_of (qa_c (pv 0) (qa_c pe_int qa_nil))) (he := star_plain _ _ _ rfl) (hpl := plain_any rfl)) (fun _ _ => rfl))) (by kernel_rfl)) (qss_hold (qss_cons (qs_of (ps_for PassesOwn.never rfl (pi_list (pe_lst (pa_of (qa_c (pe_calN C_law_refused (hr.mono (by decide)) rfl (pa_of (qa_c (pv 5) (qa_c (pv 2) (qa_c (pv 3) (qa_c (pv 4) qa_nil))))) (he := star_plain _ _ _ rfl) (hpl := plain_any rfl)) (qa_c (pe_calN C_law_refused (hr.mono (by decide)) rfl (pa_of (qa_c (pv 1) (qa_c (pv 6) (qa_c (pv 3) (qa_c (pv 4) qa_nil))))) (he := star_plain _ _ _ rfl) (hpl := plain_any rfl)) qa_nil))))) (pg_name (i := 9) sc_law_odd_right.nd rfl (Or.inl rfl)) (pss_of (qss_one (qs_if (pt_cmpR op_ne (pv 9) pe_str (nomark _)) (qss_one (qs_ret (qe_of pe_bl))) qss_nil))))) (qss_hold (qss_cons (qs_if (pt_cmpR op_ne (pe_calN C_law_refused (hr.mono (by decide)) rfl (pa_of (qa_c (pv 5) (qa_c (pv 6) (qa_c (pv 7) (qa_c (pv 8) qa_nil))))) (he := star_plain _ _ _ rfl) (hpl := plain_any rfl)) pe_str (nomark _)) (qss_one (qs_ret (qe_of pe_bl))) qss_nil) (qss_hold (qss_cons (qs_if (pt_cmpR op_ne (pe_calN C_law_refused (hr.mono (by decide)) rfl (pa_of (qa_c (pv 1) (qa_c (pv 6) (qa_c (pv 7) (qa_c (pv 4) qa_nil))))) (he := star_plain _ _ _ rfl) (hpl := plain_any rfl)) pe_str (nomark _)) (qss_one (qs_ret (qe_of pe_bl))) qss_nil) (qss_hold (qss_cons (qs_if (pt_cmpR op_ne (pe_calN C_law_refused (hr.mono (by decide)) rfl (pa_of (qa_c (pv 5) (qa_c pe_non (qa_c (pv 3) (qa_c (pv 4) qa_nil))))) (he := star_plain _ _ _ rfl) (hpl := plain_any rfl)) pe_str (nomark _)) (qss_one (qs_ret (qe_of pe_bl))) qss_nil) (qss_hold (qss_cons (qs_of (ps_for PassesOwn.never rfl (pi_list (pe_lst (pa_of (qa_c (pe_calN C_law_refused (hr.mono (by decide)) rfl (pa_of (qa_c (pv 1) (qa_c (pv 2) (qa_c (pv 7) (qa_c (pv 4) qa_nil))))) (he := star_plain _ _ _ rfl) (hpl := plain_any rfl)) (qa_c (pe_calN C_law_refused (hr.mono (by decide)) rfl (pa_of (qa_c (pv 1) (qa_c (pv 2) (qa_c (pv 3) (qa_c (pv 8) qa_nil))))) (he := star_plain _ _ _ rfl) (hpl := plain_any rfl)) qa_nil))))) (pg_name (i := 9) sc_law_odd_right.nd rfl (Or.inl rfl)) (pss_of (qss_one (qs_if (pt_cmpR op_ne (pv 9) pe_str (nomark _)) (qss_one (qs_ret (qe_of pe_bl))) qss_nil))))) (qss_hold (qss_one (qs_ret (qe_of (pe_and (pe_cmpR op_eq (pe_calN C_law_refused (hr.mono (by decide)) rfl (pa_of (qa_c (pv 1) (qa_c pe_non (qa_c (pv 3) (qa_c (pv 4) qa_nil))))) (he := star_plain _ _ _ rfl) (hpl := plain_any rfl)) pe_str (nomark _)) (pe_one (pe_cmpR op_eq (pe_calN C_law_refused (hr.mono (by decide)) rfl (pa_of (qa_c (pv 1) (qa_c pe_non (qa_c pe_non (qa_c (pv 8) qa_nil))))) (he := star_plain _ _ _ rfl) (hpl := plain_any rfl)) pe_str (nomark _))))))))))))))))))))))))))), ?_⟩
  have nh : hp ≠ w := W.neT hh
  have oI : ∀ {G : Hp} {i : Int}, okI K G (.int i) := fun {G i} => ⟨_, .int i, by kernel_rfl, by kernel_rfl⟩
  have gl0 := hL.lk B l10 hl
  have hL0 := hL
  first | rw [w_hold] | (dsimp only; rw [w_hold])
  walk_at "w0"
  refine ⟨z, rfl, z0, z1, fun pz xsz J1 Sz fz ez lnz bdz => ?_⟩
  have npz := W.ne fz
  have PL2 := hL0.same Sz
  walk_at "w0"
  have W3 := W.same Sz
  refine drw3 W3 (by decide) (by decide) fun rz J4 rza rzb W5 Brz => ?_
  have rzb : rz < 8 := rzb
  obtain ⟨vz, hvz, evz⟩ := at_memV (xs := xsz) rza (by omega)
  refine ixl (SqL.of (Brz _ _ npz ez)) evz ?_
  have PL6 := PL2.but3 W3 Brz
  have bv := bdz vz hvz
  have Pz0 := bv.1.but3 W3 W5 Brz
  have bz := bv.2
  walk_at "w0"
  first | rw [w_hold] | (dsimp only; rw [w_hold])
  walk_at "w0"
  refine ⟨hp, s, e, rfl, (((Same.but Sz).trans Brz) _ _ nh hh), s0, s1, e0, e1, fun pq xsq J7 Sq fq eq lnq bdq => ?_⟩
  have npq := W5.ne fq
  have PL8 := PL6.same Sq
  have Pz9 := Pz0.same Sq
  walk_at "w0"
  have W10 := W5.same Sq
  refine drw3 W10 (by decide) (by decide) fun rq J11 rqa rqb W12 Brq => ?_
  have rqb : rq < 14 := rqb
  obtain ⟨vq, hvq, evq⟩ := at_memV (xs := xsq) rqa (by omega)
  refine ixl (SqL.of (Brq _ _ npq eq)) evq ?_
  have PL13 := PL8.but3 W10 Brq
  have Pz14 := Pz9.but3 W10 W12 Brq
  have bv := bdq vq hvq
  have Pq0 := bv.but3 W10 W12 Brq
  walk_at "w0"
  first | rw [w_hold] | (dsimp only; rw [w_hold])
  walk_at "w0"
  refine ⟨n, rfl, n0, n1, fun pk xsk J15 Sk fk ek lnk bdk => ?_⟩
  have npk := W12.ne fk
  have PL16 := PL13.same Sk
  have Pz17 := Pz14.same Sk
  have Pq18 := Pq0.same Sk
  walk_at "w0"
  have W19 := W12.same Sk
  refine drw3 W19 (by decide) (by decide) fun rk J20 rka rkb W21 Brk => ?_
  have rkb : rk < 7 := rkb
  obtain ⟨vk, hvk, evk⟩ := at_memV (xs := xsk) rka (by omega)
  refine ixl (SqL.of (Brk _ _ npk ek)) evk ?_
  have PL22 := PL16.but3 W19 Brk
  have Pz23 := Pz17.but3 W19 W21 Brk
  have Pq24 := Pq18.but3 W19 W21 Brk
  have bv := bdk vk hvk
  have Pk0 := bv.1.but3 W19 W21 Brk
  have bk := bv.2
  walk_at "w0"
  first | rw [w_hold] | (dsimp only; rw [w_hold])
  walk_at "w0"
  refine ⟨lp, ps, ms, rfl, (((Same.but Sz).trans (Brz.trans ((Same.but Sq).trans (Brq.trans ((Same.but Sk).trans Brk))))) _ _ nl hl), l10, PL22, fun pl xsl J25 Sl fl el lnl bdl => ?_⟩
  have npl := W21.ne fl
  have PL26 := PL22.same Sl
  have Pz27 := Pz23.same Sl
  have Pq28 := Pq24.same Sl
  have Pk29 := Pk0.same Sl
  walk_at "w0"
  have W30 := W21.same Sl
  refine drw3 W30 (by decide) (by decide) fun rl J31 rla rlb W32 Brl => ?_
  have rlb : rl < 13 := rlb
  obtain ⟨vl, hvl, evl⟩ := at_memV (xs := xsl) rla (by omega)
  refine ixl (SqL.of (Brl _ _ npl el)) evl ?_
  have PL33 := PL26.but3 W30 Brl
  have Pz34 := Pz27.but3 W30 W32 Brl
  have Pq35 := Pq28.but3 W30 W32 Brl
  have Pk36 := Pk29.but3 W30 W32 Brl
  have bv := bdl vl hvl
  have nvl : vl ≠ .ref w := fun z => by
    have := bv.2 w z
    obtain ⟨x1, x2, x3, e⟩ := W21
    rw [e] at this
    cases this
  have Pl0 := bv.1.but3 nvl W30 W32 Brl
  have Z37 := ((Same.but Sz).trans (Brz.trans ((Same.but Sq).trans (Brq.trans ((Same.but Sk).trans (Brk.trans ((Same.but Sl).trans Brl)))))))
  have hh_38 := (((Same.but Sz).trans (Brz.trans ((Same.but Sq).trans (Brq.trans ((Same.but Sk).trans (Brk.trans ((Same.but Sl).trans Brl))))))) _ _ nh hh)
  have ll_39 := (((Same.but Sz).trans (Brz.trans ((Same.but Sq).trans (Brq.trans ((Same.but Sk).trans (Brk.trans ((Same.but Sl).trans Brl))))))) _ _ nl hl)
  clear Sz Brz Sq Brq Sk Brk Sl Brl
  have gq : QK K J31 (.ref hp) true := .inr (.inl ⟨hp, _, rfl, hh_38, (by intro y hy; simp only [List.mem_cons, List.not_mem_nil, or_false] at hy; rcases hy with rfl | rfl <;> exact oI), (by simp only [qtB, betwV]; symm; simp only [Bool.and_eq_true, decide_eq_true_eq, Bool.not_eq_true', decide_eq_false_iff_not, V.int.injEq]; exact ⟨⟨⟨s0, s1⟩, e0, e1⟩, ne⟩)⟩)
  have gl := PL33.lk B l10 ll_39
  have gz : betwV (.int z) (-1439) 1439 = true := betw_int z0 z1
  have wz : zqB vz true = false := by unfold zqB; rw [bz]; rfl
  have wz2 : zqB vz false = false := by unfold zqB; rw [bz]; rfl
  have wq : zqB (.int z) false = false := by unfold zqB; rw [Bool.and_false]
  have wg : zqB (.int z) true = true := by unfold zqB; rw [gz]; rfl
  have kh : (wkB vk (.ref hp) && true) = false := by unfold wkB; rw [bk.1, bk.2]; rfl
  have kl : (wkB (.int n) (.ref hp) && false) = false := by rw [Bool.and_false]
  have kn : (wkB (.int n) .non && true) = false := rfl
  have km : (wkB .non .non && false) = false := rfl
  walk_at "w0"
  first | rw [w_hold] | (dsimp only; rw [w_hold])
  walk_at "w0"
  refine ⟨vz, (.ref hp), (.int n), (.ref lp), true, true, rfl, WK.same (H := J31) ⟨Pz34, gq, oI, gl⟩ (same_id _), .inl ⟨wz, fun J40 S1 => ?_⟩⟩
  walk_at "w0"
  refine ⟨(.int z), vq, (.int n), (.ref lp), false, true, rfl, WK.same (H := J31) ⟨oI, Pq35, oI, gl⟩ S1, .inl ⟨wq, fun J41 S2 => ?_⟩⟩
  walk_at "w0"
  have W43 := W32.same (S1.trans S2)
  refine ⟨sz8 (by first | decide | (simp only [List.length_cons, List.length_nil]; decide)), fun u1 hu1 => ?_⟩
  have Su1 := same_new hu1 (.lst [.str "clock", .str "clock"])
  have nu1 := W43.ne hu1
  have eu1 : upd J41 u1 (.lst [.str "clock", .str "clock"]) u1 = some (.lst [.str "clock", .str "clock"]) := upd_same
  generalize upd J41 u1 (.lst [.str "clock", .str "clock"]) = J42 at *
  first | refine ⟨⟨_, SqL.of eu1⟩, ?_⟩ | refine ⟨u1, rfl, ⟨_, SqL.of eu1⟩, ?_⟩
  refine ForL.by (xs := [.str "clock", .str "clock"]) (fun _ σ H1 => (∃ fv, σ = [some (.ref w), some (.int z), some (.ref hp), some (.int n), some (.ref lp), some vz, some vq, some vk, some vl, fv]) ∧ H1 = J42) ⟨⟨_, rfl⟩, rfl⟩ (fun i σ H1 _ h => by rw [h.2]; exact SqL.of eu1) ?_ ?_
  · rintro i y σ H1 hy ⟨⟨fv, rfl⟩, rfl⟩
    have ey : y = .str "clock" := by
      have := List.mem_of_getElem? hy
      simp only [List.mem_cons, List.not_mem_nil, or_false, or_self] at this
      exact this
    subst ey
    exists decide_true, Bool.not_true, not_true_eq_false
    try exact ⟨⟨_, rfl⟩, rfl⟩
  rintro σ H1 ⟨⟨f1, rfl⟩, rfl⟩
  generalize hG1 : H1 = G1 at *
  first | rw [w_hold] | (dsimp only; rw [w_hold])
  walk_at "w0"
  refine ⟨vz, vq, vk, vl, false, false, rfl, WK.same (H := J31) ⟨Pz34, Pq35, Pk36, Pl0⟩ (S1.trans (S2.trans Su1)), .inl ⟨wz2, fun J44 S3 => ?_⟩⟩
  walk_at "w0"
  first | rw [w_hold] | (dsimp only; rw [w_hold])
  walk_at "w0"
  refine ⟨(.int z), vq, vk, (.ref lp), false, true, rfl, WK.same (H := J31) ⟨oI, Pq35, Pk36, gl⟩ (S1.trans (S2.trans (Su1.trans S3))), .inl ⟨wq, fun J45 S4 => ?_⟩⟩
  walk_at "w0"
  first | rw [w_hold] | (dsimp only; rw [w_hold])
  walk_at "w0"
  refine ⟨vz, .non, (.int n), (.ref lp), true, true, rfl, WK.same (H := J31) ⟨Pz34, (.inl ⟨rfl, rfl⟩), oI, gl⟩ (S1.trans (S2.trans (Su1.trans (S3.trans S4)))), .inl ⟨wz, fun J46 S5 => ?_⟩⟩
  walk_at "w0"
  first | rw [w_hold] | (dsimp only; rw [w_hold])
  walk_at "w0"
  refine ⟨(.int z), (.ref hp), vk, (.ref lp), true, true, rfl, WK.same (H := J31) ⟨oI, gq, Pk36, gl⟩ (S1.trans (S2.trans (Su1.trans (S3.trans (S4.trans S5))))), .inr ⟨wg, kh, fun J47 S6 => ?_⟩⟩
  walk_at "w0"
  refine ⟨(.int z), (.ref hp), (.int n), vl, true, false, rfl, WK.same (H := J31) ⟨oI, gq, oI, Pl0⟩ (S1.trans (S2.trans (Su1.trans (S3.trans (S4.trans (S5.trans S6)))))), .inr ⟨wg, kl, fun J48 S7 => ?_⟩⟩
  walk_at "w0"
  have W50 := W43.same (Su1.trans (S3.trans (S4.trans (S5.trans (S6.trans S7)))))
  refine ⟨sz8 (by first | decide | (simp only [List.length_cons, List.length_nil]; decide)), fun u2 hu2 => ?_⟩
  have Su2 := same_new hu2 (.lst [.str "wish", .str "wish"])
  have nu2 := W50.ne hu2
  have eu2 : upd J48 u2 (.lst [.str "wish", .str "wish"]) u2 = some (.lst [.str "wish", .str "wish"]) := upd_same
  generalize upd J48 u2 (.lst [.str "wish", .str "wish"]) = J49 at *
  first | refine ⟨⟨_, SqL.of eu2⟩, ?_⟩ | refine ⟨u2, rfl, ⟨_, SqL.of eu2⟩, ?_⟩
  refine ForL.by (xs := [.str "wish", .str "wish"]) (fun _ σ H1 => (∃ fv, σ = [some (.ref w), some (.int z), some (.ref hp), some (.int n), some (.ref lp), some vz, some vq, some vk, some vl, fv]) ∧ H1 = J49) ⟨⟨_, rfl⟩, rfl⟩ (fun i σ H1 _ h => by rw [h.2]; exact SqL.of eu2) ?_ ?_
  · rintro i y σ H1 hy ⟨⟨fv, rfl⟩, rfl⟩
    have ey : y = .str "wish" := by
      have := List.mem_of_getElem? hy
      simp only [List.mem_cons, List.not_mem_nil, or_false, or_self] at this
      exact this
    subst ey
    exists decide_true, Bool.not_true, not_true_eq_false
    try exact ⟨⟨_, rfl⟩, rfl⟩
  rintro σ H1 ⟨⟨f2, rfl⟩, rfl⟩
  generalize hG2 : H1 = G2 at *
  first | refine hold_ret ?_ | (dsimp only; refine hold_ret ?_)
  walk_at "w0"
  refine ⟨(.int z), .non, (.int n), (.ref lp), true, true, rfl, WK.same (H := J31) ⟨oI, (.inl ⟨rfl, rfl⟩), oI, gl⟩ (S1.trans (S2.trans (Su1.trans (S3.trans (S4.trans (S5.trans (S6.trans (S7.trans Su2)))))))), .inr ⟨wg, kn, fun J51 S8 => ?_⟩⟩
  walk_at "w0"
  refine ⟨(.int z), .non, .non, vl, true, false, rfl, WK.same (H := J31) ⟨oI, (.inl ⟨rfl, rfl⟩), ⟨_, .non, by kernel_rfl, by kernel_rfl⟩, Pl0⟩ (S1.trans (S2.trans (Su1.trans (S3.trans (S4.trans (S5.trans (S6.trans (S7.trans (Su2.trans S8))))))))), .inr ⟨wg, km, fun J52 S9 => ?_⟩⟩
  walk_at "w0"
  have W53 := W50.same (Su2.trans (S8.trans S9))
  exact q _ W53 (Z37.trans ((Same.but S1).trans ((Same.but S2).trans ((Same.but Su1).trans ((Same.but S3).trans ((Same.but S4).trans ((Same.but S5).trans ((Same.but S6).trans ((Same.but S7).trans ((Same.but Su2).trans ((Same.but S8).trans (Same.but S9))))))))))))
theorem cut_map (ns : List Int) (lo hi : Option Int) : ∃ ms : List Int, cutV (ns.map V.int) lo hi = ms.map V.int ∧ ms.length ≤ ns.length := by
  unfold cutV
  rw [List.length_map, ← List.map_drop, ← List.map_take]
  exact ⟨_, rfl, by rw [List.length_take, List.length_drop]; omega⟩
theorem Lns.butL {H H' : Hp} {hd : Addr} {xs ps : List V} {ms : List Int} (h : Lns a H ps ms) (e : H hd = some (.lst xs)) (S : But hd H H') : Lns a H' ps ms := ⟨h.1, fun i v m e1 e2 => by
  obtain ⟨p, dl, fp, yp, lr, dy, ev, h1, h2⟩ := h.2 i v m e1 e2
  exact ⟨p, dl, fp, yp, lr, dy, ev, S _ _ (fun z => by rw [z, e] at h1; cases h1) h1, S _ _ (fun z => by rw [z, e] at h2; cases h2) h2⟩⟩
theorem ok_law (B : Bt K mg a) (C_law_right : CalX P w K mg base "_law_right" ["_law_wishes", "_law_zone", "_law_hours", "_law_heavy", "_law_minutes_here"] 2 (sp_law_right K a)) (C_law_begin : CalX P w K mg base "_law_begin" ["_law_cell"] 1 (sp_law_begin K a)) (C_law_quiet : CalX P w K mg base "_law_quiet" ["_law_state"] 2 (sp_law_quiet K a)) (C_law_next : CalX P w K mg base "_law_next" ["_law_state", "_law_base"] 1 (sp_law_next K a)) (CD_Wishes_4 : CalD P w K mg base "Wishes" a.Wishes ["self", "zone", "quiet", "wake", "lines"] 6 [] (sp_Wishes___init__ K a)) (CD_Line_3 : CalD P w K mg base "Line" a.Line ["self", "fit", "way", "roads", "sure", "raised"] 3 [.bl false, .non] (sp_Line___init__ K a)) (CD_Wishes_0 : CalD P w K mg base "Wishes" a.Wishes ["self", "zone", "quiet", "wake", "lines"] 6 [.int 0, .non, .non, .non] (sp_Wishes___init__ K a)) (CC_Hour : CalC P w K mg base "Hour" a.Hour ["self", "minute"] 4 (sp_Hour___init__ K a)) (C_law_odd_right : CalX P w K mg base "_law_odd_right" ["_law_state", "_law_zone", "_law_hours", "_law_heavy", "_law_lots"] 9 (sp_law_odd_right K a)) (CK_Wishes_1_lines : CalK P w K mg base "Wishes" a.Wishes ["self", "zone", "quiet", "wake", "lines"] ["lines"] 6 gV1 (sp_Wishes___init__ K a)) (CK_Wishes_0_quiet_wake : CalK P w K mg base "Wishes" a.Wishes ["self", "zone", "quiet", "wake", "lines"] ["quiet", "wake"] 6 gV2 (sp_Wishes___init__ K a)) (F : Fun K "law" "law" s_law f fd) : FnOk P w K mg base CX0 10 f fd ["_law_script"] (sp_law K a) := by
  refine F.ok sc_law (fun vs H Q E h => ?_) (fun cdv A outer s H vs Q E hr h => ?_)
  · obtain ⟨sc, ns, rfl, _⟩ := h
    rfl
  obtain ⟨sc, ns, rfl, hS, h63, q⟩ := h
  refine ⟨_, (pss_of (qss_cons (qs_if (pt_not (pt_val (pe_calN C_law_right (hr.mono (by decide)) rfl (pa_of (qa_c (pe_makD0 CD_Wishes_0 pass00 (hr.mono (by decide)) rfl) (qa_c pe_int (qa_c pe_non (qa_c pe_non (qa_c (pe_lst (pa_of qa_nil)) qa_nil)))))) (he := star_plain _ _ _ rfl) (hpl := plain_any rfl)))) (qss_one (qs_ret (qe_of pe_bl))) qss_nil) (qss_hold (qss_cons (qs_of (ps_for PassesOwn.never rfl (pi_list (pe_op op_cat (pe_lst (pa_of (qa_c pe_int qa_nil))) (pe_slice sl_list (pv 0) po_none (po_some pe_int)))) (pg_name (i := 1) sc_law.nd rfl (Or.inl rfl)) (pss_of (qss_hold (qss_cons (qs_set (i := 2) sc_law.nd rfl (Or.inr rfl) (qe_of (pe_calN C_law_begin (hr.mono (by decide)) rfl (pa_of (qa_c (pv 1) qa_nil)) (he := star_plain _ _ _ rfl) (hpl := plain_any rfl))) (by kernel_rfl)) (qss_hold (qss_cons (qs_set (i := 3) sc_law.nd rfl (Or.inl rfl) (qe_of (pe_op op_sub (pe_calN C_law_next (hr.mono (by decide)) rfl (pa_of (qa_c (pv 2) (qa_c pe_int qa_nil))) (he := star_plain _ _ _ rfl) (hpl := plain_any rfl)) pe_int)) (by kernel_rfl)) (qss_hold (qss_cons (qs_set (i := 4) sc_law.nd rfl (Or.inl rfl) (qe_of (pe_calN C_law_quiet (hr.mono (by decide)) rfl (pa_of (qa_c (pv 2) qa_nil)) (he := star_plain _ _ _ rfl) (hpl := plain_any rfl))) (by kernel_rfl)) (qss_hold (qss_cons (qs_set (i := 5) sc_law.nd rfl (Or.inl rfl) (qe_of (pe_calN C_law_next (hr.mono (by decide)) rfl (pa_of (qa_c (pv 2) (qa_c (pe_op op_pow pe_int pe_int) qa_nil))) (he := star_plain _ _ _ rfl) (hpl := plain_any rfl))) (by kernel_rfl)) (qss_hold (qss_cons (qs_of (ps_compB (i := 6) ["_law_k", "_law_state"] [none, some 2] rfl (by kernel_rfl) sc_law.nd rfl rfl (pi_range1 rfl B.range (pa_of (qa_c (pe_calN C_law_next (hr.mono (by decide)) rfl (pa_of (qa_c (pv 2) (qa_c pe_int qa_nil))) (he := star_plain _ _ _ rfl) (hpl := plain_any rfl)) qa_nil))) (fun cl C s H fp => ⟨(pg_name (i := 0) (by decide : List.Nodup (["_law_k", "_law_state"] : List Str)) rfl (Or.inl (by kernel_rfl)) (Or.inr (by kernel_rfl))), pts_nil, (pe_op op_mod (pe_op op_add (pe_op op_mul pe_int (pv 0 (hv := Or.inl (by kernel_rfl)))) (pe_calN C_law_next (hr.mono (by decide)) (gl_of (by kernel_rfl)) (pa_of (qa_c (pv 1 (hv := Or.inr (Or.inl (by kernel_rfl)))) (qa_c pe_int qa_nil))) (he := star_plain _ _ _ rfl) (hpl := plain_any rfl))) pe_int)⟩))) (qss_hold (qss_cons (qs_of (ps_compB (i := 7) ["_law_minute"] [none] rfl (by kernel_rfl) sc_law.nd rfl rfl (pi_list (pv 6)) (fun cl C s H fp => ⟨(pg_name (i := 0) (by decide : List.Nodup (["_law_minute"] : List Str)) rfl (Or.inl (by kernel_rfl)) (Or.inr (by kernel_rfl))), pts_nil, (pe_makD CD_Line_3 pass00 (hr.mono (by decide)) (gl_of (by kernel_rfl)) (pa_of (qa_c (pe_makN B.mk_Any (gl_of (by kernel_rfl)) B.Any) (qa_c (pe_mak CC_Hour pass00 (hr.mono (by decide)) (gl_of (by kernel_rfl)) (pa_of (qa_c (pv 0 (hv := Or.inl (by kernel_rfl))) qa_nil)) (he := star_plain _ _ _ rfl) (hpl := plain_any rfl)) (qa_c (pe_lst (pa_of (qa_c pe_str qa_nil))) qa_nil)))) (he := star_plain _ _ _ rfl) (hpl := plain_any rfl))⟩))) (qss_hold (qss_cons (qs_set (i := 8) sc_law.nd rfl (Or.inl rfl) (qe_of (pe_callTy call_list_of rfl B.list PyProof.Rows.boot_list (pa_of (qa_c (pv 7) qa_nil)))) (by kernel_rfl)) (qss_hold (qss_cons (qs_set (i := 9) sc_law.nd rfl (Or.inl rfl) (qe_of (pe_makD CD_Wishes_4 pass00 (hr.mono (by decide)) rfl (pa_of (qa_c (pv 3) (qa_c (pv 4) (qa_c (pv 5) (qa_c (pv 8) qa_nil))))) (he := star_plain _ _ _ rfl) (hpl := plain_any rfl))) (by kernel_rfl)) (qss_hold (qss_cons (qs_if (L2.PW.pt (pw_or (pt_cmpR op_ne (pe_callB call_len_seq rfl B.len PySem.boot_len (pa_of (qa_c (pv 8) qa_nil))) (pe_callB call_len_seq rfl B.len PySem.boot_len (pa_of (qa_c (pv 7) qa_nil))) (nomark _)) (pw_or1 (pt_not (pt_val (pe_calN C_law_right (hr.mono (by decide)) rfl (pa_of (qa_c (pv 9) (qa_c (pv 3) (qa_c (pv 4) (qa_c (pv 5) (qa_c (pv 6) qa_nil)))))) (he := star_plain _ _ _ rfl) (hpl := plain_any rfl))))))) (qss_one (qs_ret (qe_of pe_bl))) qss_nil) (qss_hold (qss_cons (qs_of (ps_expr (pe_bm PySem.F.plainAttrs_list PySem.F.slot_list_append PySem.F.type_list_append mt_append (pv 8) (pa_of (qa_c pe_non qa_nil))))) (qss_hold (qss_cons (qs_of (ps_asg (pe_makD CD_Line_3 pass00 (hr.mono (by decide)) rfl (pa_of (qa_c (pe_makN B.mk_Any rfl B.Any) (qa_c (pe_mak CC_Hour pass00 (hr.mono (by decide)) rfl (pa_of (qa_c pe_int qa_nil)) (he := star_plain _ _ _ rfl) (hpl := plain_any rfl)) (qa_c (pe_lst (pa_of (qa_c pe_str qa_nil))) qa_nil)))) (he := star_plain _ _ _ rfl) (hpl := plain_any rfl)) (pg_sub (pv 8) pe_int set_list))) (qss_hold (qss_cons (qs_if (pt_not (pt_val (pe_calN C_law_right (hr.mono (by decide)) rfl (pa_of (qa_c (pv 9) (qa_c (pv 3) (qa_c (pv 4) (qa_c (pv 5) (qa_c (pv 6) qa_nil)))))) (he := star_plain _ _ _ rfl) (hpl := plain_any rfl)))) (qss_one (qs_ret (qe_of pe_bl))) qss_nil) (qss_hold (qss_cons (qs_if (pt_not (pt_val (pe_calN C_law_right (hr.mono (by decide)) rfl (pa_of (qa_c (pe_makD CD_Wishes_4 pass00 (hr.mono (by decide)) rfl (pa_of (qa_c (pv 3) (qa_c (pv 4) (qa_c pe_non (qa_c (pv 7) qa_nil))))) (he := star_plain _ _ _ rfl) (hpl := plain_any rfl)) (qa_c (pv 3) (qa_c (pv 4) (qa_c pe_non (qa_c (pv 6) qa_nil)))))) (he := star_plain _ _ _ rfl) (hpl := plain_any rfl)))) (qss_one (qs_ret (qe_of pe_bl))) qss_nil) (qss_hold (qss_cons (qs_if (pt_not (pt_val (pe_calN C_law_right (hr.mono (by decide)) rfl (pa_of (qa_c (pe_makK CK_Wishes_1_lines pass00 (hr.mono (by decide)) rfl (pa_of (qa_c (pv 3) qa_nil)) (pk_cons (pv 7) pk_nil) (he := star_plain _ _ _ rfl)) (qa_c (pv 3) (qa_c pe_non (qa_c pe_non (qa_c (pv 6) qa_nil)))))) (he := star_plain _ _ _ rfl) (hpl := plain_any rfl)))) (qss_one (qs_ret (qe_of pe_bl))) qss_nil) (qss_hold (qss_cons (qs_if (pt_not (pt_val (pe_calN C_law_right (hr.mono (by decide)) rfl (pa_of (qa_c (pe_makK0 CK_Wishes_0_quiet_wake pass00 (hr.mono (by decide)) rfl (pk_cons (pv 4) (pk_cons (pv 5) pk_nil))) (qa_c pe_int (qa_c (pv 4) (qa_c (pv 5) (qa_c (pe_lst (pa_of qa_nil)) qa_nil)))))) (he := star_plain _ _ _ rfl) (hpl := plain_any rfl)))) (qss_one (qs_ret (qe_of pe_bl))) qss_nil) (qss_hold (qss_one (qs_if (pt_not (pt_val (pe_calN C_law_odd_right (hr.mono (by decide)) rfl (pa_of (qa_c (pv 2) (qa_c (pv 3) (qa_c (pv 4) (qa_c (pv 5) (qa_c (pv 7) qa_nil)))))) (he := star_plain _ _ _ rfl) (hpl := plain_any rfl)))) (qss_one (qs_ret (qe_of pe_bl))) qss_nil)))))))))))))))))))))))))))))))))))) (qss_one (qs_ret (qe_of pe_bl))))))), ?_⟩
  have oI : ∀ {G : Hp} {i : Int}, okI K G (.int i) := fun {G i} => ⟨_, .int i, by kernel_rfl, by kernel_rfl⟩
  have oN : ∀ {G : Hp}, okI K G .non := fun {G} => ⟨_, .non, by kernel_rfl, by kernel_rfl⟩
  walk_at "w0"
  intro x0 d0 hx0 hd0 ne0
  refine ⟨x0, d0, .int 0, .non, .non, .non, true, true, rfl, upd_same, ⟨oI, .inl ⟨rfl, rfl⟩, oN, .inl ⟨rfl, rfl⟩⟩, .inr (.inr ⟨rfl, rfl, [], .inl ⟨rfl, rfl⟩, fun l0 H0 B0 f0 el0 ex0 => ?_⟩)⟩
  have S0 := made_but hx0 hd0 B0
  walk_at "w0"
  refine ⟨Nat.zero_le _, fun p0 hp0 => ?_⟩
  have T0 := same_new hp0 (.lst [])
  refine ⟨x0, d0, l0, p0, 0, .non, .non, [], [], rfl, T0 _ _ ex0, T0 _ _ el0, by decide, Lns.nil, upd_same, .inl rfl, .inl rfl, fun H1 S1 => ?_⟩
  have hS1 : SqL K H1 sc (ns.map V.int) := ((S0.trans T0).trans S1).seq hS
  clear S0 T0 S1 B0 f0 el0 ex0 hx0 hd0 ne0 hp0 hS
  exists Bool.not_true
  first | rw [w_hold] | (dsimp only; rw [w_hold])
  walk_at "w0"
  refine ⟨sz8 (by decide), fun p hp => ?_⟩
  refine ⟨sc, _, rfl, (same_new hp _).seq hS1, fun p2 hp2 => ?_⟩
  obtain ⟨ms, em, lm⟩ := cut_map ns none (some 10)
  rw [em]
  refine ⟨p, p2, [.int 0], _, rfl, rfl, ?_, upd_same, ?_, fun l hl => ?_⟩
  · rw [upd_ne (ne_of_none upd_same hp2)]; exact upd_same
  · simp only [List.length_cons, List.length_nil, List.length_map]
    exact sz8 (by omega)
  refine ⟨l, rfl, ⟨_, SqL.of upd_same⟩, ?_⟩
  refine ForL.by (xs := ([0] ++ ms).map V.int) (fun _ σ H1 => (∃ v1 v2 v3 v4 v5 v6 v7 v8 v9, σ = [some (.ref sc), v1, v2, v3, v4, v5, v6, v7, v8, v9]) ∧ H1 l = some (.lst (([0] ++ ms).map V.int))) ⟨⟨_, _, _, _, _, _, _, _, _, rfl⟩, by rw [List.map_append]; exact upd_same⟩ (fun i σ H1 _ h => SqL.of h.2) ?_ ?_
  rotate_left
  · rintro σ H1 ⟨⟨v1, v2, v3, v4, v5, v6, v7, v8, v9, rfl⟩, _⟩
    walk_at "w0"
    first | exact q _ | (first | rw [w_hold] | (dsimp only; rw [w_hold])) <;> (walk_at "w0"; exact q _)
  · rintro i x σ H1 hx ⟨⟨v1, v2, v3, v4, v5, v6, v7, v8, v9, rfl⟩, h1⟩
    obtain ⟨c, rfl⟩ := int_at hx
    clear hx hl hp2 em lm hS1 h63
    walk_at "w0"
    first | rw [w_hold] | (dsimp only; rw [w_hold])
    walk_at "w0"
    refine ⟨c, rfl, fun pw wa wb wc hpw => ?_⟩
    have W0 : Well3 (upd H1 pw (.lst [.int wa, .int wb, .int wc])) pw := ⟨_, _, _, upd_same⟩
    have l0 : l ≠ pw := ne_of_none h1 hpw
    have h2 := same_new hpw (.lst [.int wa, .int wb, .int wc]) l _ h1
    generalize upd H1 pw (.lst [.int wa, .int wb, .int wc]) = H2 at *
    walk_at "w0"
    first | rw [w_hold] | (dsimp only; rw [w_hold])
    walk_at "w0"
    refine drw3 W0 (by decide) (by decide) fun r1 J1 r1a r1b W2 Br1 => ?_
    have r1b : r1 < 2879 := r1b
    walk_at "w0"
    generalize hz : r1 - 1439 = z at *
    have z0 : -1439 ≤ z := by omega
    have z1 : z ≤ 1439 := by omega
    first | rw [w_hold] | (dsimp only; rw [w_hold])
    walk_at "w0"
    refine ⟨pw, rfl, W2, fun hp s e J3 s0 s1 e0 e1 sne W3 Bh fh eh => ?_⟩
    have nh := W2.ne fh
    walk_at "w0"
    first | rw [w_hold] | (dsimp only; rw [w_hold])
    walk_at "w0"
    refine ⟨⟨by decide, by decide, by decide⟩, ?_⟩
    refine drw3 W3 (by decide) (by decide) fun n J4 na nb W5 Bn => ?_
    have n1 : n < 1000000 := by first | exact nb | simpa using nb
    walk_at "w0"
    first | rw [w_hold] | (dsimp only; rw [w_hold])
    walk_at "w0"
    refine drw3 W5 (by decide) (by decide) fun rk J6 rka rkb W7 Brk => ?_
    have rkb : rk < 5 := rkb
    walk_at "w0"
    have Z8 := (Br1.trans (Bh.trans (Bn.trans Brk)))
    have l_9 := ((Br1.trans (Bh.trans (Bn.trans Brk))) _ _ l0 h2)
    have hp_10 := ((Bn.trans Brk) _ _ nh eh)
    clear Br1 Bh Bn Brk
    refine ⟨by omega, by omega, ?_⟩
    refine CompR.by (n := rk.toNat) (fun i acc σ H' => ∃ mm : List Int, acc = mm.map V.int ∧ mm.length = i ∧ (∀ m ∈ mm, 0 ≤ m ∧ m ≤ 59) ∧ (∃ v, σ = [v, some (.ref pw)]) ∧ Well3 H' pw ∧ But pw J6 H') (sz8 (by omega)) ⟨[], rfl, rfl, (fun m hm => absurd hm List.not_mem_nil), ⟨_, rfl⟩, W7, But.refl _ _⟩ ?_ ?_ ?_
    · rintro i acc σ H' hi ⟨mm, rfl, li, hm, ⟨v, rfl⟩, W', B'⟩
      walk_at "w0"
      refine ⟨.inl ⟨by decide, by decide⟩, ?_⟩
      refine drw3 W' (by decide) (by decide) fun r H'' ra rb W'' B'' => ?_
      walk_at "w0"
      have new : ∃ mm' : List Int, mm.map V.int ++ [V.int ((7 * (0 + (i : Int)) + r) % 60)] = mm'.map V.int ∧ mm'.length = i + 1 ∧ (∀ m ∈ mm', 0 ≤ m ∧ m ≤ 59) ∧ (∃ v', [some (V.int (0 + (i : Int))), some (V.ref pw)] = [v', some (V.ref pw)]) ∧ Well3 H'' pw ∧ But pw J6 H'' := ⟨mm ++ [(7 * (0 + (i : Int)) + r) % 60], by rw [List.map_append]; rfl, by rw [List.length_append, li]; rfl, (fun m hm2 => by
        rcases List.mem_append.mp hm2 with h | h
        · exact hm m h
        · rw [List.mem_singleton.mp h]; omega), ⟨_, rfl⟩, W'', B'.trans B''⟩
      first | exact ⟨by decide, new⟩ | (refine ⟨by decide, ?_⟩; simpa using new)
    · rintro i acc σ H' ⟨mm, rfl, li, _⟩
      rw [List.length_map]
      omega
    rintro acc σ Jm ⟨mm, rfl, lmm, hmm, ⟨v, rfl⟩, Wm, Bm⟩ mp hmp
    have l5 : mm.length ≤ 5 := by omega
    have Smp := same_new hmp (.lst (mm.map V.int))
    have nmp := Wm.ne hmp
    have emp : upd Jm mp (.lst (mm.map V.int)) mp = some (.lst (mm.map V.int)) := upd_same
    generalize upd Jm mp (.lst (mm.map V.int)) = J11 at *
    have Z12 := (Z8.trans (Bm.trans (Same.but Smp)))
    have l_13 := ((Bm.trans (Same.but Smp)) _ _ l0 l_9)
    have hp_14 := ((Bm.trans (Same.but Smp)) _ _ nh hp_10)
    have mp_15 := emp
    have W16 := Wm.same Smp
    clear Z8 Bm Smp
    walk_at "w0"
    first | rw [w_hold] | (dsimp only; rw [w_hold])
    walk_at "w0"
    first | refine ⟨⟨_, SqL.of mp_15⟩, ?_⟩ | refine ⟨mp, rfl, ⟨_, SqL.of mp_15⟩, ?_⟩
    refine CompL.by (xs := mm.map V.int) (fun i acc σ H' => Lns a H' acc (mm.take i) ∧ (∃ v, σ = [v]) ∧ Same J11 H') (sz8 (by rw [List.length_map]; omega)) ⟨Lns.nil, ⟨_, rfl⟩, fun _ _ z => z⟩ (fun i acc σ H' _ h => SqL.of (h.2.2 _ _ mp_15)) ?_ ?_ ?_
    · rintro i y acc σ H' hy ⟨hA, ⟨v, rfl⟩, S'⟩
      obtain ⟨m, hm1, rfl⟩ : ∃ m, mm[i]? = some m ∧ y = .int m := by
        rw [List.getElem?_map] at hy
        cases hq : mm[i]? with
        | none => rw [hq] at hy; cases hy
        | some m => rw [hq] at hy; cases hy; exact ⟨m, rfl, rfl⟩
      have mb := hmm m (List.mem_of_getElem? hm1)
      walk_at "w0"
      intro xa dxa hxa hdxa nexa
      have Sxa := made_same (o := .own xa) (o' := .ins a.Any dxa []) hxa hdxa
      have exa : upd (upd H' dxa (.own xa)) xa (.ins a.Any dxa []) xa = some (.ins a.Any dxa []) := upd_same
      generalize upd (upd H' dxa (.own xa)) xa (.ins a.Any dxa []) = J101 at *
      walk_at "w0"
      intro ya dya hya hdya neya
      have Mya := made_same (o := .own ya) (o' := .ins a.Hour dya []) hya hdya
      refine ⟨ya, dya, m, rfl, upd_same, mb.1, mb.2, ?_⟩
      have Sya : Same J101 (upd (upd (upd J101 dya (.own ya)) ya (.ins a.Hour dya [])) ya (.ins a.Hour dya [("minute", .int m)])) := fun b o e => by rw [upd_ne (ne_of_none e hya)]; exact Mya b o e
      have eya : upd (upd (upd J101 dya (.own ya)) ya (.ins a.Hour dya [])) ya (.ins a.Hour dya [("minute", .int m)]) ya = some (.ins a.Hour dya [("minute", .int m)]) := upd_same
      generalize upd (upd (upd J101 dya (.own ya)) ya (.ins a.Hour dya [])) ya (.ins a.Hour dya [("minute", .int m)]) = J102 at *
      walk_at "w0"
      refine ⟨sz8 (by first | decide | (simp only [List.length_cons, List.length_nil]; decide)), fun ra hra => ?_⟩
      have Sra := same_new hra (.lst [.str "mail"])
      have era : upd J102 ra (.lst [.str "mail"]) ra = some (.lst [.str "mail"]) := upd_same
      generalize upd J102 ra (.lst [.str "mail"]) = J103 at *
      walk_at "w0"
      intro za dza hza hdza neza
      have Mza := made_same (o := .own za) (o' := .ins a.Line dza []) hza hdza
      refine ⟨za, dza, xa, ya, ra, dxa, dya, _, _, rfl, upd_same, Mza _ _ ((Sya.trans Sra) _ _ exa), Mza _ _ (Sra _ _ eya), Mza _ _ era, fun lza J104 Bza eza => ?_⟩
      have Sza := made_but hza hdza Bza
      have new : Lns a J104 (acc ++ [V.ref za]) (mm.take (i + 1)) := by
        rw [List.take_succ, hm1]
        exact (hA.same (Sxa.trans (Sya.trans (Sra.trans Sza)))).snoc ⟨za, _, _, _, _, _, rfl, eza, ((Sra.trans Sza) _ _ eya)⟩
      walk_at "w0"
      first | exact ⟨new, ⟨_, rfl⟩, S'.trans (Sxa.trans (Sya.trans (Sra.trans Sza)))⟩ | exact ⟨new, S'.trans (Sxa.trans (Sya.trans (Sra.trans Sza)))⟩
    · rintro i acc σ H' ⟨hA, _, _⟩
      rw [hA.1, List.length_take]
      omega
    rintro pl σ Jn ⟨hA, ⟨v2, rfl⟩, Sn⟩ lp hlp
    rw [List.length_map, List.take_length] at hA
    have l10 : pl.length ≤ 10 := by rw [hA.1]; omega
    have W17 := W16.same Sn
    have Slp := same_new hlp (.lst pl)
    have nlp := W17.ne hlp
    have elp : upd Jn lp (.lst pl) lp = some (.lst pl) := upd_same
    have hL := hA.same Slp
    generalize upd Jn lp (.lst pl) = J18 at *
    walk_at "w0"
    first | rw [w_hold] | (dsimp only; rw [w_hold])
    walk_at "w0"
    have l_19 := ((Sn.trans Slp) _ _ l_13)
    have hp_20 := ((Sn.trans Slp) _ _ hp_14)
    have mp_21 := ((Sn.trans Slp) _ _ mp_15)
    have W23 := W17.same Slp
    refine ⟨_, .inl (SqL.of elp), fun hd hhd => ?_⟩
    have Shd := same_new hhd (.lst pl)
    have nhd := W23.ne hhd
    have ehd : upd J18 hd (.lst pl) hd = some (.lst pl) := upd_same
    generalize upd J18 hd (.lst pl) = J22 at *
    have xl : l ≠ hd := ne_of_none l_19 hhd
    have xhp : hp ≠ hd := ne_of_none hp_20 hhd
    have xmp : mp ≠ hd := ne_of_none mp_21 hhd
    have xlp : lp ≠ hd := ne_of_none elp hhd
    walk_at "w0"
    first | rw [w_hold] | (dsimp only; rw [w_hold])
    walk_at "w0"
    have gq : ∀ {G : Hp}, G hp = some (.tup [.int s, .int e]) → QK K G (.ref hp) true := fun {G} h => .inr (.inl ⟨hp, _, rfl, h, (by intro y hy; simp only [List.mem_cons, List.not_mem_nil, or_false] at hy; rcases hy with rfl | rfl <;> exact oI), (by simp only [qtB, betwV]; symm; simp only [Bool.and_eq_true, decide_eq_true_eq, Bool.not_eq_true', decide_eq_false_iff_not, V.int.injEq]; exact ⟨⟨⟨s0, s1⟩, e0, e1⟩, sne⟩)⟩)
    have zt : zqB (.int z) true = true := by unfold zqB; rw [betw_int z0 z1]; rfl
    have kt : ∀ {x : Addr}, (wkB (.int n) (.ref x) && true) = true := fun {x} => by
      have : fromV (.int n) 0 = true := decide_eq_true na
      unfold wkB
      rw [this]
      rfl
    have W24 := W23.same Shd
    have hL25 := hL.same Shd
    intro wi dwi hwi hdwi newi
    have nwi := W24.ne hwi
    have Mwi := made_same (o := .own wi) (o' := .ins a.Wishes dwi []) hwi hdwi
    refine ⟨wi, dwi, .int z, .ref hp, .int n, .ref hd, true, true, rfl, upd_same, WK.same (H := J22) ⟨oI, gq (Shd _ _ hp_20), oI, hL25.lk B l10 ehd⟩ Mwi, .inr (.inr ⟨zt, kt, pl, .inr ⟨hd, rfl, Mwi _ _ ehd⟩, fun lwi J26 Bwi fwi elwi ewi => ?_⟩)⟩
    have Swi := made_but hwi hdwi Bwi
    have nlwi := (W24.same Mwi).ne fwi
    have xlwi : lwi ≠ hd := (ne_of_none (Mwi _ _ ehd) fwi).symm
    walk_at "w0"
    first | rw [w_hold] | (dsimp only; rw [w_hold])
    walk_at "w0"
    refine ⟨_, .inl (SqL.of (Swi _ _ ehd)), ?_⟩
    walk_at "w0"
    refine ⟨_, .inl (SqL.of ((Shd.trans Swi) _ _ elp)), ?_⟩
    exists not_true_eq_false
    have hL28 := hL25.same Swi
    refine ⟨wi, dwi, lwi, mp, z, .ref hp, .int n, pl, mm, rfl, ewi, elwi, l10, hL28, ((Shd.trans Swi) _ _ mp_21), .inr ⟨hp, s, e, rfl, ((Shd.trans Swi) _ _ hp_20)⟩, .inr ⟨n, rfl⟩, fun J27 R1 => ?_⟩
    exists Bool.not_true
    first | rw [w_hold] | (dsimp only; rw [w_hold])
    walk_at "w0"
    refine ⟨.inl ⟨rfl, _, SqL.of ((Swi.trans R1) _ _ ehd)⟩, hd, _, _, rfl, rfl, ((Swi.trans R1) _ _ ehd), Nat.lt_of_le_of_lt (by omega : pl.length ≤ 1000) (by decide), ?_⟩
    have hL30 := hL28.same R1
    have W31 := W24.same (Swi.trans R1)
    have ehA := ((Swi.trans R1) _ _ ehd)
    have BHA : But hd J27 (upd J27 hd (.lst (pl ++ [.non]))) := But.upd _
    have l_A := BHA _ _ xl ((Shd.trans (Swi.trans R1)) _ _ l_19)
    have hp_A := BHA _ _ xhp ((Shd.trans (Swi.trans R1)) _ _ hp_20)
    have mp_A := BHA _ _ xmp ((Shd.trans (Swi.trans R1)) _ _ mp_21)
    have lp_A := BHA _ _ xlp ((Shd.trans (Swi.trans R1)) _ _ elp)
    have xwiA := (R1 _ _ ewi)
    have wi_A := BHA _ _ (fun z => by rw [z, ((Swi.trans R1) _ _ ehd)] at xwiA; cases xwiA) (R1 _ _ ewi)
    have lwi_A := BHA _ _ xlwi (R1 _ _ elwi)
    have WA : Well3 (upd J27 hd (.lst (pl ++ [.non]))) pw := let ⟨x1, x2, x3, e⟩ := W31; ⟨x1, x2, x3, BHA _ _ nhd.symm e⟩
    have hLA := hL30.butL ehA BHA
    have ehdA : upd J27 hd (.lst (pl ++ [.non])) hd = some (.lst (pl ++ [.non])) := upd_same
    generalize upd J27 hd (.lst (pl ++ [.non])) = J29 at *
    walk_at "w0"
    first | rw [w_hold] | (dsimp only; rw [w_hold])
    walk_at "w0"
    intro xc dxc hxc hdxc nexc
    have nxc := WA.ne hxc
    have Sxc := made_same (o := .own xc) (o' := .ins a.Any dxc []) hxc hdxc
    have exc : upd (upd J29 dxc (.own xc)) xc (.ins a.Any dxc []) xc = some (.ins a.Any dxc []) := upd_same
    generalize upd (upd J29 dxc (.own xc)) xc (.ins a.Any dxc []) = J32 at *
    walk_at "w0"
    intro yc dyc hyc hdyc neyc
    have W34 := WA.same Sxc
    have nyc := W34.ne hyc
    have Myc := made_same (o := .own yc) (o' := .ins a.Hour dyc []) hyc hdyc
    refine ⟨yc, dyc, 59, rfl, upd_same, by decide, by decide, ?_⟩
    have Syc : Same J32 (upd (upd (upd J32 dyc (.own yc)) yc (.ins a.Hour dyc [])) yc (.ins a.Hour dyc [("minute", .int 59)])) := fun b o e => by rw [upd_ne (ne_of_none e hyc)]; exact Myc b o e
    have eyc : upd (upd (upd J32 dyc (.own yc)) yc (.ins a.Hour dyc [])) yc (.ins a.Hour dyc [("minute", .int 59)]) yc = some (.ins a.Hour dyc [("minute", .int 59)]) := upd_same
    generalize upd (upd (upd J32 dyc (.own yc)) yc (.ins a.Hour dyc [])) yc (.ins a.Hour dyc [("minute", .int 59)]) = J33 at *
    walk_at "w0"
    have W36 := W34.same Syc
    refine ⟨sz8 (by first | decide | (simp only [List.length_cons, List.length_nil]; decide)), fun rc hrc => ?_⟩
    have Src := same_new hrc (.lst [.str "mail"])
    have nrc := W36.ne hrc
    have erc : upd J33 rc (.lst [.str "mail"]) rc = some (.lst [.str "mail"]) := upd_same
    generalize upd J33 rc (.lst [.str "mail"]) = J35 at *
    walk_at "w0"
    intro zc dzc hzc hdzc nezc
    have W38 := W36.same Src
    have nzc := W38.ne hzc
    have Mzc := made_same (o := .own zc) (o' := .ins a.Line dzc []) hzc hdzc
    refine ⟨zc, dzc, xc, yc, rc, dxc, dyc, _, _, rfl, upd_same, Mzc _ _ ((Syc.trans Src) _ _ exc), Mzc _ _ (Src _ _ eyc), Mzc _ _ erc, fun lzc J37 Bzc ezc => ?_⟩
    have Szc := made_but hzc hdzc Bzc
    walk_at "w0"
    refine setl ((Sxc.trans (Syc.trans (Src.trans Szc))) _ _ ehdA) (j := 0) (by rw [List.length_append]; unfold ixN; rw [if_pos (Int.le_refl _), if_pos (by simp only [List.length_cons, List.length_nil]; omega)]; rfl) ?_
    have hL40 := hLA.same (Sxc.trans (Syc.trans (Src.trans Szc)))
    have W41 := W38.same Szc
    have ehB := ((Sxc.trans (Syc.trans (Src.trans Szc))) _ _ ehdA)
    have BHB : But hd J37 (upd J37 hd (.lst ((pl ++ [V.non]).set 0 (V.ref zc)))) := But.upd _
    have l_B := BHB _ _ xl ((Sxc.trans (Syc.trans (Src.trans Szc))) _ _ l_A)
    have hp_B := BHB _ _ xhp ((Sxc.trans (Syc.trans (Src.trans Szc))) _ _ hp_A)
    have mp_B := BHB _ _ xmp ((Sxc.trans (Syc.trans (Src.trans Szc))) _ _ mp_A)
    have lp_B := BHB _ _ xlp ((Sxc.trans (Syc.trans (Src.trans Szc))) _ _ lp_A)
    have xwiB := ((Sxc.trans (Syc.trans (Src.trans Szc))) _ _ wi_A)
    have wi_B := BHB _ _ (fun z => by rw [z, ((Sxc.trans (Syc.trans (Src.trans Szc))) _ _ ehdA)] at xwiB; cases xwiB) ((Sxc.trans (Syc.trans (Src.trans Szc))) _ _ wi_A)
    have lwi_B := BHB _ _ xlwi ((Sxc.trans (Syc.trans (Src.trans Szc))) _ _ lwi_A)
    have WB : Well3 (upd J37 hd (.lst ((pl ++ [V.non]).set 0 (V.ref zc)))) pw := let ⟨x1, x2, x3, e⟩ := W41; ⟨x1, x2, x3, BHB _ _ nhd.symm e⟩
    have hLB := hL40.butL ehB BHB
    have ehdB : upd J37 hd (.lst ((pl ++ [V.non]).set 0 (V.ref zc))) hd = some (.lst ((pl ++ [V.non]).set 0 (V.ref zc))) := upd_same
    generalize upd J37 hd (.lst ((pl ++ [V.non]).set 0 (V.ref zc))) = J39 at *
    walk_at "w0"
    first | rw [w_hold] | (dsimp only; rw [w_hold])
    walk_at "w0"
    refine ⟨wi, dwi, lwi, mp, z, .ref hp, .int n, pl, mm, rfl, wi_B, lwi_B, l10, hLB, mp_B, .inr ⟨hp, s, e, rfl, hp_B⟩, .inr ⟨n, rfl⟩, fun J42 R2 => ?_⟩
    exists Bool.not_true
    first | rw [w_hold] | (dsimp only; rw [w_hold])
    walk_at "w0"
    have W43 := WB.same R2
    have hL44 := hLB.same R2
    intro w2 dw2 hw2 hdw2 new2
    have nw2 := W43.ne hw2
    have Mw2 := made_same (o := .own w2) (o' := .ins a.Wishes dw2 []) hw2 hdw2
    refine ⟨w2, dw2, .int z, .ref hp, .non, .ref lp, true, true, rfl, upd_same, WK.same (H := J42) ⟨oI, gq (R2 _ _ hp_B), oN, hL44.lk B l10 (R2 _ _ lp_B)⟩ Mw2, .inr (.inr ⟨zt, rfl, pl, .inr ⟨lp, rfl, Mw2 _ _ (R2 _ _ lp_B)⟩, fun lw2 J45 Bw2 fw2 elw2 ew2 => ?_⟩)⟩
    have Sw2 := made_but hw2 hdw2 Bw2
    have nlw2 := (W43.same Mw2).ne fw2
    walk_at "w0"
    have hL47 := hL44.same Sw2
    refine ⟨w2, dw2, lw2, mp, z, .ref hp, .non, pl, mm, rfl, ew2, elw2, l10, hL47, ((R2.trans Sw2) _ _ mp_B), .inr ⟨hp, s, e, rfl, ((R2.trans Sw2) _ _ hp_B)⟩, .inl rfl, fun J46 R3 => ?_⟩
    exists Bool.not_true
    first | rw [w_hold] | (dsimp only; rw [w_hold])
    walk_at "w0"
    have W48 := W43.same (Sw2.trans R3)
    have hL49 := hL47.same R3
    intro w3 dw3 hw3 hdw3 new3
    have nw3 := W48.ne hw3
    have Mw3 := made_same (o := .own w3) (o' := .ins a.Wishes dw3 []) hw3 hdw3
    refine ⟨w3, dw3, .int z, .non, .non, .ref lp, true, true, rfl, upd_same, WK.same (H := J46) ⟨oI, .inl ⟨rfl, rfl⟩, oN, hL49.lk B l10 ((R2.trans (Sw2.trans R3)) _ _ lp_B)⟩ Mw3, .inr (.inr ⟨zt, rfl, pl, .inr ⟨lp, rfl, Mw3 _ _ ((R2.trans (Sw2.trans R3)) _ _ lp_B)⟩, fun lw3 J50 Bw3 fw3 elw3 ew3 => ?_⟩)⟩
    have Sw3 := made_but hw3 hdw3 Bw3
    have nlw3 := (W48.same Mw3).ne fw3
    walk_at "w0"
    have hL52 := hL49.same Sw3
    refine ⟨w3, dw3, lw3, mp, z, .non, .non, pl, mm, rfl, ew3, elw3, l10, hL52, ((R2.trans (Sw2.trans (R3.trans Sw3))) _ _ mp_B), .inl rfl, .inl rfl, fun J51 R4 => ?_⟩
    exists Bool.not_true
    first | rw [w_hold] | (dsimp only; rw [w_hold])
    walk_at "w0"
    have W53 := W48.same (Sw3.trans R4)
    have hL54 := hL52.same R4
    intro w4 dw4 hw4 hdw4 new4
    have nw4 := W53.ne hw4
    have Mw4 := made_same (o := .own w4) (o' := .ins a.Wishes dw4 []) hw4 hdw4
    refine ⟨w4, dw4, .int 0, .ref hp, .int n, .non, true, true, rfl, upd_same, WK.same (H := J51) ⟨oI, gq ((R2.trans (Sw2.trans (R3.trans (Sw3.trans R4)))) _ _ hp_B), oI, .inl ⟨rfl, rfl⟩⟩ Mw4, .inr (.inr ⟨rfl, kt, [], .inl ⟨rfl, rfl⟩, fun lw4 J55 Bw4 fw4 elw4 ew4 => ?_⟩)⟩
    have Sw4 := made_but hw4 hdw4 Bw4
    have nlw4 := (W53.same Mw4).ne fw4
    walk_at "w0"
    have W57 := W53.same Sw4
    refine ⟨Nat.zero_le _, fun m0 hm0 => ?_⟩
    have Sm0 := same_new hm0 (.lst [])
    have nm0 := W57.ne hm0
    have em0 : upd J55 m0 (.lst []) m0 = some (.lst []) := upd_same
    generalize upd J55 m0 (.lst []) = J56 at *
    refine ⟨w4, dw4, lw4, m0, 0, .ref hp, .int n, [], [], rfl, (Sm0 _ _ ew4), (Sm0 _ _ elw4), by decide, Lns.nil, em0, .inr ⟨hp, s, e, rfl, ((R2.trans (Sw2.trans (R3.trans (Sw3.trans (R4.trans (Sw4.trans Sm0)))))) _ _ hp_B)⟩, .inr ⟨n, rfl⟩, fun J58 R5 => ?_⟩
    exists Bool.not_true
    first | rw [w_hold] | (dsimp only; rw [w_hold])
    walk_at "w0"
    have hL59 := hL54.same (Sw4.trans (Sm0.trans R5))
    have W60 := W57.same (Sm0.trans R5)
    refine ⟨pw, hp, lp, z, n, s, e, pl, mm, rfl, W60, z0, z1, na, n1, ((R2.trans (Sw2.trans (R3.trans (Sw3.trans (R4.trans (Sw4.trans (Sm0.trans R5))))))) _ _ hp_B), s0, s1, e0, e1, sne, ((R2.trans (Sw2.trans (R3.trans (Sw3.trans (R4.trans (Sw4.trans (Sm0.trans R5))))))) _ _ lp_B), nlp, l10, hL59, fun Jf Wf Bf => ?_⟩
    exists Bool.not_true
    have hlf := Bf l _ l0 ((R2.trans (Sw2.trans (R3.trans (Sw3.trans (R4.trans (Sw4.trans (Sm0.trans R5))))))) _ _ l_B)
    first | exact ⟨⟨_, _, _, _, _, _, _, _, _, rfl⟩, hlf⟩ | exact hlf
end
end Bw
set_option Elab.async false
set_option linter.all false
namespace Hd
open PySem PySem.W L2
set_option maxRecDepth 100000
set_option maxHeartbeats 0
structure AT where
  p : Program
  a : List Str
  t : List String
def s (A : AT) (i : Nat) : Str := A.a.getD i Str.empty
def t (A : AT) (i : Nat) : String := A.t.getD i ""
def stm (A : AT) (i : Nat) : Stmt := A.p.main.body.getD i (.Pass ⟨0, 0, 0, 0⟩)
abbrev N : Obj → BT → BT → BT := BT.node
abbrev L : BT := BT.nil
open PyData
noncomputable section
def o_43 (A : AT) (P : Params) : Obj := (Obj.mk (.type (t A 2)) none (.seq #[] 0) #[])
def o_44 (A : AT) (P : Params) : Obj := (Obj.mk .none none (.fields #[]) #[])
def o_45 (A : AT) (P : Params) : Obj := (Obj.mk (.type (t A 0)) none (.fields #[(.str (s A 142) 182), (.str (s A 142) 183), (.str (s A 1) 184), (.int 1 0), (.int 0 0), (.int 0 0), (.int 0 0), (.int 0 0), (.ref 11), (.bool false), (.int 181 0), (.ref 12), .none, .none, .none, .none, (.int 185 0), (.int 1 0), (.str (s A 1) 186)]) #[])
def o_46 (A : AT) (P : Params) : Obj := (Obj.mk (.type (t A 18)) none .plain #[(some (.ref 13)), (some (.ref 3)), (some (.ref 3)), none, (some (.str (s A 106) 164)), none, (some (.ref 0))])
def o_49 (A : AT) (P : Params) : Obj := (Obj.mk (.type (t A 5)) none (.dict #[(DictEntry.mk (keyHash P (s A 13)) (.str (s A 13) 165) (.str (s A 61) 194)), (DictEntry.mk (keyHash P (s A 15)) (.str (s A 15) 166) .none), (DictEntry.mk (keyHash P (s A 16)) (.str (s A 16) 167) .none), (DictEntry.mk (keyHash P (s A 17)) (.str (s A 17) 168) (.builtin (t A 6))), (DictEntry.mk (keyHash P (s A 18)) (.str (s A 18) 169) .none), (DictEntry.mk (keyHash P (s A 19)) (.str (s A 19) 170) (.ref 6)), (DictEntry.mk (keyHash P (s A 20)) (.str (s A 20) 171) (.ref 4)), (DictEntry.mk (keyHash P (s A 21)) (.str (s A 21) 173) (.str (s A 1) 172)), (DictEntry.mk (keyHash P (s A 22)) (.str (s A 22) 174) .none), (DictEntry.mk (keyHash P (s A 23)) (.str (s A 23) 193) (.ref 21)), (DictEntry.mk (keyHash P (s A 0)) (.str (s A 0) 213) (.ref 31))] 11) #[])
def o_50 (A : AT) (P : Params) : Obj := (Obj.mk .none none (.fields #[(.int 1 0), (.int 0 0), (.ref 20), (.int 5 0), (.int 0 0), (.ref 27)]) #[])
def o_51 (A : AT) (P : Params) : Obj := (Obj.mk (.type (t A 2)) none (.seq #[] 0) #[])
def o_52 (A : AT) (P : Params) : Obj := (Obj.mk .none none (.fields #[]) #[])
def o_53 (A : AT) (P : Params) : Obj := (Obj.mk (.type (t A 2)) none (.seq #[(.str (s A 120) 190)] 0) #[])
def o_54 (A : AT) (P : Params) : Obj := (Obj.mk (.type (t A 2)) none (.seq #[] 0) #[])
def o_55 (A : AT) (P : Params) : Obj := (Obj.mk .none none (.func (FuncData.mk (s A 23) (s A 23) (defArgs (stm A 0)) (FuncBody.stmts (defBody (stm A 0))) (defScope (stm A 0)) 0 [] .none .none .none .none none .none .none 0)) #[])
def o_56 (A : AT) (P : Params) : Obj := (Obj.mk (.type (t A 0)) none (.fields #[(.str (s A 23) 187), (.str (s A 23) 188), (.str (s A 1) 189), (.int 1 0), (.int 1 0), (.int 0 0), (.int 0 0), (.int 3 0), (.ref 15), (.bool true), (.int 181 0), (.ref 16), .none, (.ref 17), (.ref 18), (.ref 19), (.int 191 0), (.int 1 0), (.str (s A 1) 192)]) #[])
def o_57 (A : AT) (P : Params) : Obj := (Obj.mk (.type (t A 1)) none (.func (FuncData.mk (s A 23) (s A 23) (defArgs (stm A 0)) (FuncBody.stmts (defBody (stm A 0))) (defScope (stm A 0)) 3 [] .none .none .none (.str (s A 106) 164) none (.ref 20) .none 0)) #[])
def o_58 (A : AT) (P : Params) : Obj := (Obj.mk (.type (t A 2)) none (.seq #[(.type (t A 11))] 0) #[])
def o_59 (A : AT) (P : Params) : Obj := (Obj.mk (.type (t A 3)) none (.fields #[(.builtin (t A 20)), (.type (t A 10))]) #[])
def o_60 (A : AT) (P : Params) : Obj := (Obj.mk (.type (t A 5)) none (.dict #[(DictEntry.mk (keyHash P (s A 60)) (.str (s A 60) 203) (.str (s A 61) 194)), (DictEntry.mk (keyHash P (s A 71)) (.str (s A 71) 205) (.str (s A 0) 204)), (DictEntry.mk (keyHash P (s A 62)) (.str (s A 62) 207) (.int 5 206)), (DictEntry.mk (keyHash P (s A 63)) (.str (s A 63) 208) (.ref 29))] 4) #[])
def o_61 (A : AT) (P : Params) : Obj := (Obj.mk (.type (t A 2)) none (.seq #[] 0) #[])
def o_62 (A : AT) (P : Params) : Obj := (Obj.mk .none none (.fields #[]) #[])
def o_63 (A : AT) (P : Params) : Obj := (Obj.mk (.type (t A 0)) none (.fields #[(.str (s A 0) 198), (.str (s A 0) 199), (.str (s A 1) 200), (.int 5 0), (.int 0 0), (.int 0 0), (.int 0 0), (.int 0 0), (.ref 25), (.bool false), (.int 181 0), (.ref 26), .none, .none, .none, .none, (.int 201 0), (.int 5 0), (.str (s A 1) 202)]) #[])
def o_64 (A : AT) (P : Params) : Obj := (Obj.mk (.type (t A 18)) none .plain #[(some (.ref 27)), (some (.ref 3)), (some (.ref 24)), none, (some (.str (s A 61) 194)), none, (some (.ref 0))])
def o_65 (A : AT) (P : Params) : Obj := (Obj.mk (.type (t A 2)) none (.seq #[] 0) #[])
def o_66 (A : AT) (P : Params) : Obj := (Obj.mk (.type (t A 5)) none (.dict #[(DictEntry.mk (keyHash P (s A 60)) (.str (s A 60) 203) (.str (s A 61) 194)), (DictEntry.mk (keyHash P (s A 62)) (.str (s A 62) 207) (.int 5 206)), (DictEntry.mk (keyHash P (s A 63)) (.str (s A 63) 208) (.ref 29)), (DictEntry.mk (keyHash P (s A 75)) (.str (s A 75) 210) (.ref 32)), (DictEntry.mk (keyHash P (s A 15)) (.str (s A 15) 211) .none)] 3) #[])
def o_67 (A : AT) (P : Params) : Obj := (Obj.mk (.type (t A 10)) none (.cls (ClassData.mk (s A 0) [(.type (t A 11))] [(.ref 31), (.type (t A 11)), (.type (t A 12)), (.type (t A 13)), (.type (t A 14))] 30 (s A 0) true [] [] false none false)) #[(some (.ref 22)), none, (some (.str (s A 0) 196)), (some (.str (s A 0) 204)), (some (.builtin (t A 15))), (some (.bool true))])
def o_68 (A : AT) (P : Params) : Obj := (Obj.mk (.type (t A 7)) none (.fields #[(.str (s A 75) 209), (.ref 31), (.builtin (t A 17)), .none]) #[])
def o_69 (A : AT) (P : Params) : Obj := (Obj.mk (.type (t A 16)) none (.fields #[(.ref 31), (.ref 31), (.ref 31)]) #[])
def o_70 (A : AT) (P : Params) : Obj := (Obj.mk (.type (t A 3)) none (.fields #[(.builtin (t A 4)), (.ref 31)]) #[])
def o_71 (A : AT) (P : Params) : Obj := (Obj.mk (.type (t A 5)) none (.dict #[(DictEntry.mk (keyHash P (s A 13)) (.str (s A 13) 165) (.str (s A 61) 194)), (DictEntry.mk (keyHash P (s A 15)) (.str (s A 15) 166) .none), (DictEntry.mk (keyHash P (s A 16)) (.str (s A 16) 167) .none), (DictEntry.mk (keyHash P (s A 17)) (.str (s A 17) 168) (.builtin (t A 6))), (DictEntry.mk (keyHash P (s A 18)) (.str (s A 18) 169) .none), (DictEntry.mk (keyHash P (s A 19)) (.str (s A 19) 170) (.ref 6)), (DictEntry.mk (keyHash P (s A 20)) (.str (s A 20) 171) (.ref 4)), (DictEntry.mk (keyHash P (s A 21)) (.str (s A 21) 173) (.str (s A 1) 172)), (DictEntry.mk (keyHash P (s A 22)) (.str (s A 22) 174) .none), (DictEntry.mk (keyHash P (s A 23)) (.str (s A 23) 193) (.ref 21)), (DictEntry.mk (keyHash P (s A 0)) (.str (s A 0) 213) (.ref 31)), (DictEntry.mk (keyHash P (s A 24)) (.str (s A 24) 229) (.ref 44))] 12) #[])
def o_72 (A : AT) (P : Params) : Obj := (Obj.mk .none none (.fields #[(.int 1 0), (.int 0 0), (.ref 20), (.int 5 0), (.int 0 0), (.ref 27), (.int 7 0), (.int 0 0), (.ref 40)]) #[])
def o_73 (A : AT) (P : Params) : Obj := (Obj.mk (.type (t A 10)) none (.cls (ClassData.mk (s A 0) [(.type (t A 11))] [(.ref 31), (.type (t A 11)), (.type (t A 12)), (.type (t A 13)), (.type (t A 14))] 30 (s A 0) true [] [(.ref 44)] false none false)) #[(some (.ref 22)), none, (some (.str (s A 0) 196)), (some (.str (s A 0) 204)), (some (.builtin (t A 15))), (some (.bool true))])
def o_74 (A : AT) (P : Params) : Obj := (Obj.mk (.type (t A 2)) none (.seq #[(.ref 31)] 0) #[])
def o_75 (A : AT) (P : Params) : Obj := (Obj.mk (.type (t A 3)) none (.fields #[(.builtin (t A 20)), (.type (t A 10))]) #[])
def o_76 (A : AT) (P : Params) : Obj := (Obj.mk (.type (t A 5)) none (.dict #[(DictEntry.mk (keyHash P (s A 60)) (.str (s A 60) 221) (.str (s A 61) 194)), (DictEntry.mk (keyHash P (s A 71)) (.str (s A 71) 223) (.str (s A 24) 222)), (DictEntry.mk (keyHash P (s A 62)) (.str (s A 62) 225) (.int 7 224)), (DictEntry.mk (keyHash P (s A 63)) (.str (s A 63) 226) (.ref 42))] 4) #[])
def o_77 (A : AT) (P : Params) : Obj := (Obj.mk (.type (t A 2)) none (.seq #[] 0) #[])
def o_78 (A : AT) (P : Params) : Obj := (Obj.mk .none none (.fields #[]) #[])
def o_79 (A : AT) (P : Params) : Obj := (Obj.mk (.type (t A 0)) none (.fields #[(.str (s A 24) 216), (.str (s A 24) 217), (.str (s A 1) 218), (.int 7 0), (.int 0 0), (.int 0 0), (.int 0 0), (.int 0 0), (.ref 38), (.bool false), (.int 181 0), (.ref 39), .none, .none, .none, .none, (.int 219 0), (.int 7 0), (.str (s A 1) 220)]) #[])
def o_80 (A : AT) (P : Params) : Obj := (Obj.mk (.type (t A 18)) none .plain #[(some (.ref 40)), (some (.ref 3)), (some (.ref 37)), none, (some (.str (s A 61) 194)), none, (some (.ref 0))])
def o_81 (A : AT) (P : Params) : Obj := (Obj.mk (.type (t A 2)) none (.seq #[] 0) #[])
def o_82 (A : AT) (P : Params) : Obj := (Obj.mk (.type (t A 5)) none (.dict #[(DictEntry.mk (keyHash P (s A 60)) (.str (s A 60) 221) (.str (s A 61) 194)), (DictEntry.mk (keyHash P (s A 62)) (.str (s A 62) 225) (.int 7 224)), (DictEntry.mk (keyHash P (s A 63)) (.str (s A 63) 226) (.ref 42)), (DictEntry.mk (keyHash P (s A 15)) (.str (s A 15) 227) .none)] 2) #[])
def o_83 (A : AT) (P : Params) : Obj := (Obj.mk (.type (t A 10)) none (.cls (ClassData.mk (s A 24) [(.ref 31)] [(.ref 44), (.ref 31), (.type (t A 11)), (.type (t A 12)), (.type (t A 13)), (.type (t A 14))] 43 (s A 24) true [] [] false none false)) #[(some (.ref 35)), none, (some (.str (s A 24) 214)), (some (.str (s A 24) 222)), (some (.builtin (t A 15))), (some (.bool true))])
def o_84 (A : AT) (P : Params) : Obj := (Obj.mk (.type (t A 16)) none (.fields #[(.ref 44), (.ref 44), (.ref 44)]) #[])
def o_85 (A : AT) (P : Params) : Obj := (Obj.mk (.type (t A 3)) none (.fields #[(.builtin (t A 4)), (.ref 44)]) #[])
def o_86 (A : AT) (P : Params) : Obj := (Obj.mk (.type (t A 5)) none (.dict #[(DictEntry.mk (keyHash P (s A 13)) (.str (s A 13) 165) (.str (s A 61) 194)), (DictEntry.mk (keyHash P (s A 15)) (.str (s A 15) 166) .none), (DictEntry.mk (keyHash P (s A 16)) (.str (s A 16) 167) .none), (DictEntry.mk (keyHash P (s A 17)) (.str (s A 17) 168) (.builtin (t A 6))), (DictEntry.mk (keyHash P (s A 18)) (.str (s A 18) 169) .none), (DictEntry.mk (keyHash P (s A 19)) (.str (s A 19) 170) (.ref 6)), (DictEntry.mk (keyHash P (s A 20)) (.str (s A 20) 171) (.ref 4)), (DictEntry.mk (keyHash P (s A 21)) (.str (s A 21) 173) (.str (s A 1) 172)), (DictEntry.mk (keyHash P (s A 22)) (.str (s A 22) 174) .none), (DictEntry.mk (keyHash P (s A 23)) (.str (s A 23) 193) (.ref 21)), (DictEntry.mk (keyHash P (s A 0)) (.str (s A 0) 213) (.ref 31)), (DictEntry.mk (keyHash P (s A 24)) (.str (s A 24) 229) (.ref 44)), (DictEntry.mk (keyHash P (s A 25)) (.str (s A 25) 245) (.ref 56))] 13) #[])
def o_87 (A : AT) (P : Params) : Obj := (Obj.mk .none none (.fields #[(.int 1 0), (.int 0 0), (.ref 20), (.int 5 0), (.int 0 0), (.ref 27), (.int 7 0), (.int 0 0), (.ref 40), (.int 9 0), (.int 0 0), (.ref 52)]) #[])
def o_88 (A : AT) (P : Params) : Obj := (Obj.mk (.type (t A 10)) none (.cls (ClassData.mk (s A 0) [(.type (t A 11))] [(.ref 31), (.type (t A 11)), (.type (t A 12)), (.type (t A 13)), (.type (t A 14))] 30 (s A 0) true [] [(.ref 44), (.ref 56)] false none false)) #[(some (.ref 22)), none, (some (.str (s A 0) 196)), (some (.str (s A 0) 204)), (some (.builtin (t A 15))), (some (.bool true))])
def o_89 (A : AT) (P : Params) : Obj := (Obj.mk (.type (t A 2)) none (.seq #[(.ref 31)] 0) #[])
def o_90 (A : AT) (P : Params) : Obj := (Obj.mk (.type (t A 3)) none (.fields #[(.builtin (t A 20)), (.type (t A 10))]) #[])
def o_91 (A : AT) (P : Params) : Obj := (Obj.mk (.type (t A 5)) none (.dict #[(DictEntry.mk (keyHash P (s A 60)) (.str (s A 60) 237) (.str (s A 61) 194)), (DictEntry.mk (keyHash P (s A 71)) (.str (s A 71) 239) (.str (s A 25) 238)), (DictEntry.mk (keyHash P (s A 62)) (.str (s A 62) 241) (.int 9 240)), (DictEntry.mk (keyHash P (s A 63)) (.str (s A 63) 242) (.ref 54))] 4) #[])
def o_92 (A : AT) (P : Params) : Obj := (Obj.mk (.type (t A 2)) none (.seq #[] 0) #[])
def o_93 (A : AT) (P : Params) : Obj := (Obj.mk .none none (.fields #[]) #[])
def o_94 (A : AT) (P : Params) : Obj := (Obj.mk (.type (t A 0)) none (.fields #[(.str (s A 25) 232), (.str (s A 25) 233), (.str (s A 1) 234), (.int 9 0), (.int 0 0), (.int 0 0), (.int 0 0), (.int 0 0), (.ref 50), (.bool false), (.int 181 0), (.ref 51), .none, .none, .none, .none, (.int 235 0), (.int 9 0), (.str (s A 1) 236)]) #[])
def o_95 (A : AT) (P : Params) : Obj := (Obj.mk (.type (t A 18)) none .plain #[(some (.ref 52)), (some (.ref 3)), (some (.ref 49)), none, (some (.str (s A 61) 194)), none, (some (.ref 0))])
def o_96 (A : AT) (P : Params) : Obj := (Obj.mk (.type (t A 2)) none (.seq #[] 0) #[])
def o_97 (A : AT) (P : Params) : Obj := (Obj.mk (.type (t A 5)) none (.dict #[(DictEntry.mk (keyHash P (s A 60)) (.str (s A 60) 237) (.str (s A 61) 194)), (DictEntry.mk (keyHash P (s A 62)) (.str (s A 62) 241) (.int 9 240)), (DictEntry.mk (keyHash P (s A 63)) (.str (s A 63) 242) (.ref 54)), (DictEntry.mk (keyHash P (s A 15)) (.str (s A 15) 243) .none)] 2) #[])
def o_98 (A : AT) (P : Params) : Obj := (Obj.mk (.type (t A 10)) none (.cls (ClassData.mk (s A 25) [(.ref 31)] [(.ref 56), (.ref 31), (.type (t A 11)), (.type (t A 12)), (.type (t A 13)), (.type (t A 14))] 55 (s A 25) true [] [] false none false)) #[(some (.ref 47)), none, (some (.str (s A 25) 230)), (some (.str (s A 25) 238)), (some (.builtin (t A 15))), (some (.bool true))])
def o_99 (A : AT) (P : Params) : Obj := (Obj.mk (.type (t A 16)) none (.fields #[(.ref 56), (.ref 56), (.ref 56)]) #[])
def o_100 (A : AT) (P : Params) : Obj := (Obj.mk (.type (t A 3)) none (.fields #[(.builtin (t A 4)), (.ref 56)]) #[])
def o_101 (A : AT) (P : Params) : Obj := (Obj.mk (.type (t A 5)) none (.dict #[(DictEntry.mk (keyHash P (s A 13)) (.str (s A 13) 165) (.str (s A 61) 194)), (DictEntry.mk (keyHash P (s A 15)) (.str (s A 15) 166) .none), (DictEntry.mk (keyHash P (s A 16)) (.str (s A 16) 167) .none), (DictEntry.mk (keyHash P (s A 17)) (.str (s A 17) 168) (.builtin (t A 6))), (DictEntry.mk (keyHash P (s A 18)) (.str (s A 18) 169) .none), (DictEntry.mk (keyHash P (s A 19)) (.str (s A 19) 170) (.ref 6)), (DictEntry.mk (keyHash P (s A 20)) (.str (s A 20) 171) (.ref 4)), (DictEntry.mk (keyHash P (s A 21)) (.str (s A 21) 173) (.str (s A 1) 172)), (DictEntry.mk (keyHash P (s A 22)) (.str (s A 22) 174) .none), (DictEntry.mk (keyHash P (s A 23)) (.str (s A 23) 193) (.ref 21)), (DictEntry.mk (keyHash P (s A 0)) (.str (s A 0) 213) (.ref 31)), (DictEntry.mk (keyHash P (s A 24)) (.str (s A 24) 229) (.ref 44)), (DictEntry.mk (keyHash P (s A 25)) (.str (s A 25) 245) (.ref 56)), (DictEntry.mk (keyHash P (s A 26)) (.str (s A 26) 261) (.ref 68))] 14) #[])
def o_102 (A : AT) (P : Params) : Obj := (Obj.mk .none none (.fields #[(.int 1 0), (.int 0 0), (.ref 20), (.int 5 0), (.int 0 0), (.ref 27), (.int 7 0), (.int 0 0), (.ref 40), (.int 9 0), (.int 0 0), (.ref 52), (.int 11 0), (.int 0 0), (.ref 64)]) #[])
def o_103 (A : AT) (P : Params) : Obj := (Obj.mk (.type (t A 10)) none (.cls (ClassData.mk (s A 0) [(.type (t A 11))] [(.ref 31), (.type (t A 11)), (.type (t A 12)), (.type (t A 13)), (.type (t A 14))] 30 (s A 0) true [] [(.ref 44), (.ref 56), (.ref 68)] false none false)) #[(some (.ref 22)), none, (some (.str (s A 0) 196)), (some (.str (s A 0) 204)), (some (.builtin (t A 15))), (some (.bool true))])
def o_104 (A : AT) (P : Params) : Obj := (Obj.mk (.type (t A 2)) none (.seq #[(.ref 31)] 0) #[])
def o_105 (A : AT) (P : Params) : Obj := (Obj.mk (.type (t A 3)) none (.fields #[(.builtin (t A 20)), (.type (t A 10))]) #[])
def o_106 (A : AT) (P : Params) : Obj := (Obj.mk (.type (t A 5)) none (.dict #[(DictEntry.mk (keyHash P (s A 60)) (.str (s A 60) 253) (.str (s A 61) 194)), (DictEntry.mk (keyHash P (s A 71)) (.str (s A 71) 255) (.str (s A 26) 254)), (DictEntry.mk (keyHash P (s A 62)) (.str (s A 62) 257) (.int 11 256)), (DictEntry.mk (keyHash P (s A 63)) (.str (s A 63) 258) (.ref 66))] 4) #[])
def o_107 (A : AT) (P : Params) : Obj := (Obj.mk (.type (t A 2)) none (.seq #[] 0) #[])
def o_108 (A : AT) (P : Params) : Obj := (Obj.mk .none none (.fields #[]) #[])
def o_109 (A : AT) (P : Params) : Obj := (Obj.mk (.type (t A 0)) none (.fields #[(.str (s A 26) 248), (.str (s A 26) 249), (.str (s A 1) 250), (.int 11 0), (.int 0 0), (.int 0 0), (.int 0 0), (.int 0 0), (.ref 62), (.bool false), (.int 181 0), (.ref 63), .none, .none, .none, .none, (.int 251 0), (.int 11 0), (.str (s A 1) 252)]) #[])
def o_110 (A : AT) (P : Params) : Obj := (Obj.mk (.type (t A 18)) none .plain #[(some (.ref 64)), (some (.ref 3)), (some (.ref 61)), none, (some (.str (s A 61) 194)), none, (some (.ref 0))])
def o_111 (A : AT) (P : Params) : Obj := (Obj.mk (.type (t A 2)) none (.seq #[] 0) #[])
def o_112 (A : AT) (P : Params) : Obj := (Obj.mk (.type (t A 5)) none (.dict #[(DictEntry.mk (keyHash P (s A 60)) (.str (s A 60) 253) (.str (s A 61) 194)), (DictEntry.mk (keyHash P (s A 62)) (.str (s A 62) 257) (.int 11 256)), (DictEntry.mk (keyHash P (s A 63)) (.str (s A 63) 258) (.ref 66)), (DictEntry.mk (keyHash P (s A 15)) (.str (s A 15) 259) .none)] 2) #[])
def o_113 (A : AT) (P : Params) : Obj := (Obj.mk (.type (t A 10)) none (.cls (ClassData.mk (s A 26) [(.ref 31)] [(.ref 68), (.ref 31), (.type (t A 11)), (.type (t A 12)), (.type (t A 13)), (.type (t A 14))] 67 (s A 26) true [] [] false none false)) #[(some (.ref 59)), none, (some (.str (s A 26) 246)), (some (.str (s A 26) 254)), (some (.builtin (t A 15))), (some (.bool true))])
def o_114 (A : AT) (P : Params) : Obj := (Obj.mk (.type (t A 16)) none (.fields #[(.ref 68), (.ref 68), (.ref 68)]) #[])
def o_115 (A : AT) (P : Params) : Obj := (Obj.mk (.type (t A 3)) none (.fields #[(.builtin (t A 4)), (.ref 68)]) #[])
def o_116 (A : AT) (P : Params) : Obj := (Obj.mk (.type (t A 5)) none (.dict #[(DictEntry.mk (keyHash P (s A 13)) (.str (s A 13) 165) (.str (s A 61) 194)), (DictEntry.mk (keyHash P (s A 15)) (.str (s A 15) 166) .none), (DictEntry.mk (keyHash P (s A 16)) (.str (s A 16) 167) .none), (DictEntry.mk (keyHash P (s A 17)) (.str (s A 17) 168) (.builtin (t A 6))), (DictEntry.mk (keyHash P (s A 18)) (.str (s A 18) 169) .none), (DictEntry.mk (keyHash P (s A 19)) (.str (s A 19) 170) (.ref 6)), (DictEntry.mk (keyHash P (s A 20)) (.str (s A 20) 171) (.ref 4)), (DictEntry.mk (keyHash P (s A 21)) (.str (s A 21) 173) (.str (s A 1) 172)), (DictEntry.mk (keyHash P (s A 22)) (.str (s A 22) 174) .none), (DictEntry.mk (keyHash P (s A 23)) (.str (s A 23) 193) (.ref 21)), (DictEntry.mk (keyHash P (s A 0)) (.str (s A 0) 213) (.ref 31)), (DictEntry.mk (keyHash P (s A 24)) (.str (s A 24) 229) (.ref 44)), (DictEntry.mk (keyHash P (s A 25)) (.str (s A 25) 245) (.ref 56)), (DictEntry.mk (keyHash P (s A 26)) (.str (s A 26) 261) (.ref 68)), (DictEntry.mk (keyHash P (s A 27)) (.str (s A 27) 277) (.ref 80))] 15) #[])
def o_117 (A : AT) (P : Params) : Obj := (Obj.mk .none none (.fields #[(.int 1 0), (.int 0 0), (.ref 20), (.int 5 0), (.int 0 0), (.ref 27), (.int 7 0), (.int 0 0), (.ref 40), (.int 9 0), (.int 0 0), (.ref 52), (.int 11 0), (.int 0 0), (.ref 64), (.int 13 0), (.int 0 0), (.ref 76)]) #[])
def o_118 (A : AT) (P : Params) : Obj := (Obj.mk (.type (t A 10)) none (.cls (ClassData.mk (s A 0) [(.type (t A 11))] [(.ref 31), (.type (t A 11)), (.type (t A 12)), (.type (t A 13)), (.type (t A 14))] 30 (s A 0) true [] [(.ref 44), (.ref 56), (.ref 68), (.ref 80)] false none false)) #[(some (.ref 22)), none, (some (.str (s A 0) 196)), (some (.str (s A 0) 204)), (some (.builtin (t A 15))), (some (.bool true))])
def o_119 (A : AT) (P : Params) : Obj := (Obj.mk (.type (t A 2)) none (.seq #[(.ref 31)] 0) #[])
def o_120 (A : AT) (P : Params) : Obj := (Obj.mk (.type (t A 3)) none (.fields #[(.builtin (t A 20)), (.type (t A 10))]) #[])
def o_121 (A : AT) (P : Params) : Obj := (Obj.mk (.type (t A 5)) none (.dict #[(DictEntry.mk (keyHash P (s A 60)) (.str (s A 60) 269) (.str (s A 61) 194)), (DictEntry.mk (keyHash P (s A 71)) (.str (s A 71) 271) (.str (s A 27) 270)), (DictEntry.mk (keyHash P (s A 62)) (.str (s A 62) 273) (.int 13 272)), (DictEntry.mk (keyHash P (s A 63)) (.str (s A 63) 274) (.ref 78))] 4) #[])
def o_122 (A : AT) (P : Params) : Obj := (Obj.mk (.type (t A 2)) none (.seq #[] 0) #[])
def o_123 (A : AT) (P : Params) : Obj := (Obj.mk .none none (.fields #[]) #[])
def o_124 (A : AT) (P : Params) : Obj := (Obj.mk (.type (t A 0)) none (.fields #[(.str (s A 27) 264), (.str (s A 27) 265), (.str (s A 1) 266), (.int 13 0), (.int 0 0), (.int 0 0), (.int 0 0), (.int 0 0), (.ref 74), (.bool false), (.int 181 0), (.ref 75), .none, .none, .none, .none, (.int 267 0), (.int 13 0), (.str (s A 1) 268)]) #[])
def o_125 (A : AT) (P : Params) : Obj := (Obj.mk (.type (t A 18)) none .plain #[(some (.ref 76)), (some (.ref 3)), (some (.ref 73)), none, (some (.str (s A 61) 194)), none, (some (.ref 0))])
def o_126 (A : AT) (P : Params) : Obj := (Obj.mk (.type (t A 2)) none (.seq #[] 0) #[])
def o_127 (A : AT) (P : Params) : Obj := (Obj.mk (.type (t A 5)) none (.dict #[(DictEntry.mk (keyHash P (s A 60)) (.str (s A 60) 269) (.str (s A 61) 194)), (DictEntry.mk (keyHash P (s A 62)) (.str (s A 62) 273) (.int 13 272)), (DictEntry.mk (keyHash P (s A 63)) (.str (s A 63) 274) (.ref 78)), (DictEntry.mk (keyHash P (s A 15)) (.str (s A 15) 275) .none)] 2) #[])
def o_128 (A : AT) (P : Params) : Obj := (Obj.mk (.type (t A 10)) none (.cls (ClassData.mk (s A 27) [(.ref 31)] [(.ref 80), (.ref 31), (.type (t A 11)), (.type (t A 12)), (.type (t A 13)), (.type (t A 14))] 79 (s A 27) true [] [] false none false)) #[(some (.ref 71)), none, (some (.str (s A 27) 262)), (some (.str (s A 27) 270)), (some (.builtin (t A 15))), (some (.bool true))])
def o_129 (A : AT) (P : Params) : Obj := (Obj.mk (.type (t A 16)) none (.fields #[(.ref 80), (.ref 80), (.ref 80)]) #[])
def o_130 (A : AT) (P : Params) : Obj := (Obj.mk (.type (t A 3)) none (.fields #[(.builtin (t A 4)), (.ref 80)]) #[])
def o_131 (A : AT) (P : Params) : Obj := (Obj.mk (.type (t A 5)) none (.dict #[(DictEntry.mk (keyHash P (s A 13)) (.str (s A 13) 165) (.str (s A 93) 330)), (DictEntry.mk (keyHash P (s A 15)) (.str (s A 15) 166) .none), (DictEntry.mk (keyHash P (s A 16)) (.str (s A 16) 167) .none), (DictEntry.mk (keyHash P (s A 17)) (.str (s A 17) 168) (.builtin (t A 6))), (DictEntry.mk (keyHash P (s A 18)) (.str (s A 18) 169) .none), (DictEntry.mk (keyHash P (s A 19)) (.str (s A 19) 170) (.ref 6)), (DictEntry.mk (keyHash P (s A 20)) (.str (s A 20) 171) (.ref 4)), (DictEntry.mk (keyHash P (s A 21)) (.str (s A 21) 173) (.str (s A 1) 172)), (DictEntry.mk (keyHash P (s A 22)) (.str (s A 22) 174) .none), (DictEntry.mk (keyHash P (s A 23)) (.str (s A 23) 193) (.ref 21)), (DictEntry.mk (keyHash P (s A 0)) (.str (s A 0) 213) (.ref 31)), (DictEntry.mk (keyHash P (s A 24)) (.str (s A 24) 229) (.ref 44)), (DictEntry.mk (keyHash P (s A 25)) (.str (s A 25) 245) (.ref 56)), (DictEntry.mk (keyHash P (s A 26)) (.str (s A 26) 261) (.ref 68)), (DictEntry.mk (keyHash P (s A 27)) (.str (s A 27) 277) (.ref 80)), (DictEntry.mk (keyHash P (s A 28)) (.str (s A 28) 303) (.ref 100)), (DictEntry.mk (keyHash P (s A 29)) (.str (s A 29) 312) (.ref 109)), (DictEntry.mk (keyHash P (s A 12)) (.str (s A 12) 321) (.ref 116)), (DictEntry.mk (keyHash P (s A 30)) (.str (s A 30) 329) (.ref 123)), (DictEntry.mk (keyHash P (s A 31)) (.str (s A 31) 333) (.int 60 332)), (DictEntry.mk (keyHash P (s A 32)) (.str (s A 32) 335) (.int 1440 334))] 21) #[])
def o_132 (A : AT) (P : Params) : Obj := (Obj.mk .none none (.fields #[(.int 1 0), (.int 0 0), (.ref 20), (.int 5 0), (.int 0 0), (.ref 27), (.int 7 0), (.int 0 0), (.ref 40), (.int 9 0), (.int 0 0), (.ref 52), (.int 11 0), (.int 0 0), (.ref 64), (.int 13 0), (.int 0 0), (.ref 76), (.int 15 0), (.int 0 0), (.ref 88), (.int 20 0), (.int 0 0), (.ref 108), (.int 22 0), (.int 0 0), (.ref 115), (.int 24 0), (.int 0 0), (.ref 122)]) #[])
def o_133 (A : AT) (P : Params) : Obj := (Obj.mk (.type (t A 10)) none (.cls (ClassData.mk (s A 0) [(.type (t A 11))] [(.ref 31), (.type (t A 11)), (.type (t A 12)), (.type (t A 13)), (.type (t A 14))] 30 (s A 0) true [] [(.ref 44), (.ref 56), (.ref 68), (.ref 80), (.ref 100)] false none false)) #[(some (.ref 22)), none, (some (.str (s A 0) 196)), (some (.str (s A 0) 204)), (some (.builtin (t A 15))), (some (.bool true))])
def o_134 (A : AT) (P : Params) : Obj := (Obj.mk (.type (t A 2)) none (.seq #[(.ref 31)] 0) #[])
def o_135 (A : AT) (P : Params) : Obj := (Obj.mk (.type (t A 3)) none (.fields #[(.builtin (t A 20)), (.type (t A 10))]) #[])
def o_136 (A : AT) (P : Params) : Obj := (Obj.mk (.type (t A 5)) none (.dict #[(DictEntry.mk (keyHash P (s A 60)) (.str (s A 60) 285) (.str (s A 61) 194)), (DictEntry.mk (keyHash P (s A 71)) (.str (s A 71) 287) (.str (s A 28) 286)), (DictEntry.mk (keyHash P (s A 62)) (.str (s A 62) 289) (.int 15 288)), (DictEntry.mk (keyHash P (s A 56)) (.str (s A 56) 298) (.ref 97)), (DictEntry.mk (keyHash P (s A 63)) (.str (s A 63) 300) (.ref 98))] 5) #[])
def o_137 (A : AT) (P : Params) : Obj := (Obj.mk (.type (t A 2)) none (.seq #[] 0) #[])
def o_138 (A : AT) (P : Params) : Obj := (Obj.mk .none none (.fields #[(.int 17 0), (.int 4 0), (.ref 96)]) #[])
def o_139 (A : AT) (P : Params) : Obj := (Obj.mk (.type (t A 0)) none (.fields #[(.str (s A 28) 280), (.str (s A 28) 281), (.str (s A 1) 282), (.int 15 0), (.int 0 0), (.int 0 0), (.int 0 0), (.int 0 0), (.ref 86), (.bool false), (.int 181 0), (.ref 87), .none, .none, .none, .none, (.int 283 0), (.int 15 0), (.str (s A 1) 284)]) #[])
def o_140 (A : AT) (P : Params) : Obj := (Obj.mk (.type (t A 18)) none .plain #[(some (.ref 88)), (some (.ref 3)), (some (.ref 85)), none, (some (.str (s A 61) 194)), none, (some (.ref 0))])
def o_141 (A : AT) (P : Params) : Obj := (Obj.mk (.type (t A 2)) none (.seq #[(.int 0 290)] 0) #[])
def o_142 (A : AT) (P : Params) : Obj := (Obj.mk (.type (t A 2)) none (.seq #[] 0) #[])
def o_143 (A : AT) (P : Params) : Obj := (Obj.mk .none none (.fields #[]) #[])
def o_144 (A : AT) (P : Params) : Obj := (Obj.mk (.type (t A 2)) none (.seq #[(.str (s A 8) 294), (.str (s A 128) 295)] 0) #[])
def o_145 (A : AT) (P : Params) : Obj := (Obj.mk (.type (t A 2)) none (.seq #[] 0) #[])
def o_146 (A : AT) (P : Params) : Obj := (Obj.mk .none none (.func (FuncData.mk (s A 56) (s A 72) (defArgs (inClass (stm A 7) 0)) (FuncBody.stmts (defBody (inClass (stm A 7) 0))) (defScope (inClass (stm A 7) 0)) 0 [] .none .none .none .none none .none .none 0)) #[])
def o_147 (A : AT) (P : Params) : Obj := (Obj.mk (.type (t A 0)) none (.fields #[(.str (s A 56) 291), (.str (s A 72) 292), (.str (s A 1) 293), (.int 17 0), (.int 2 0), (.int 0 0), (.int 0 0), (.int 3 0), (.ref 91), (.bool true), (.int 181 0), (.ref 92), .none, (.ref 93), (.ref 94), (.ref 95), (.int 296 0), (.int 17 0), (.str (s A 1) 297)]) #[])
def o_148 (A : AT) (P : Params) : Obj := (Obj.mk (.type (t A 1)) none (.func (FuncData.mk (s A 56) (s A 72) (defArgs (inClass (stm A 7) 0)) (FuncBody.stmts (defBody (inClass (stm A 7) 0))) (defScope (inClass (stm A 7) 0)) 3 [] (.ref 90) .none .none (.str (s A 61) 194) none (.ref 96) .none 0)) #[])
def o_149 (A : AT) (P : Params) : Obj := (Obj.mk (.type (t A 2)) none (.seq #[(.str (s A 128) 299)] 0) #[])
def o_150 (A : AT) (P : Params) : Obj := (Obj.mk (.type (t A 5)) none (.dict #[(DictEntry.mk (keyHash P (s A 60)) (.str (s A 60) 285) (.str (s A 61) 194)), (DictEntry.mk (keyHash P (s A 62)) (.str (s A 62) 289) (.int 15 288)), (DictEntry.mk (keyHash P (s A 56)) (.str (s A 56) 298) (.ref 97)), (DictEntry.mk (keyHash P (s A 63)) (.str (s A 63) 300) (.ref 98)), (DictEntry.mk (keyHash P (s A 15)) (.str (s A 15) 301) .none)] 2) #[])
def o_151 (A : AT) (P : Params) : Obj := (Obj.mk (.type (t A 10)) none (.cls (ClassData.mk (s A 28) [(.ref 31)] [(.ref 100), (.ref 31), (.type (t A 11)), (.type (t A 12)), (.type (t A 13)), (.type (t A 14))] 99 (s A 28) true [] [] false none false)) #[(some (.ref 83)), none, (some (.str (s A 28) 278)), (some (.str (s A 28) 286)), (some (.builtin (t A 15))), (some (.bool true))])
def o_152 (A : AT) (P : Params) : Obj := (Obj.mk (.type (t A 16)) none (.fields #[(.ref 100), (.ref 100), (.ref 100)]) #[])
def o_153 (A : AT) (P : Params) : Obj := (Obj.mk (.type (t A 3)) none (.fields #[(.builtin (t A 4)), (.ref 100)]) #[])
def o_154 (A : AT) (P : Params) : Obj := (Obj.mk (.type (t A 2)) none (.seq #[] 0) #[])
def o_155 (A : AT) (P : Params) : Obj := (Obj.mk .none none (.fields #[]) #[])
def o_156 (A : AT) (P : Params) : Obj := (Obj.mk (.type (t A 2)) none (.seq #[(.str (s A 81) 309)] 0) #[])
def o_157 (A : AT) (P : Params) : Obj := (Obj.mk (.type (t A 2)) none (.seq #[] 0) #[])
def o_158 (A : AT) (P : Params) : Obj := (Obj.mk .none none (.func (FuncData.mk (s A 29) (s A 29) (defArgs (stm A 9)) (FuncBody.stmts (defBody (stm A 9))) (defScope (stm A 9)) 0 [] .none .none .none .none none .none .none 0)) #[])
def o_159 (A : AT) (P : Params) : Obj := (Obj.mk (.type (t A 0)) none (.fields #[(.str (s A 29) 306), (.str (s A 29) 307), (.str (s A 1) 308), (.int 20 0), (.int 1 0), (.int 0 0), (.int 0 0), (.int 3 0), (.ref 103), (.bool true), (.int 181 0), (.ref 104), .none, (.ref 105), (.ref 106), (.ref 107), (.int 310 0), (.int 20 0), (.str (s A 1) 311)]) #[])
def o_160 (A : AT) (P : Params) : Obj := (Obj.mk (.type (t A 1)) none (.func (FuncData.mk (s A 29) (s A 29) (defArgs (stm A 9)) (FuncBody.stmts (defBody (stm A 9))) (defScope (stm A 9)) 3 [] .none .none .none (.str (s A 59) 304) none (.ref 108) .none 0)) #[])
def o_161 (A : AT) (P : Params) : Obj := (Obj.mk (.type (t A 2)) none (.seq #[] 0) #[])
def o_162 (A : AT) (P : Params) : Obj := (Obj.mk .none none (.fields #[]) #[])
def o_163 (A : AT) (P : Params) : Obj := (Obj.mk (.type (t A 2)) none (.seq #[(.str (s A 81) 316), (.str (s A 111) 317), (.str (s A 129) 318)] 0) #[])
def o_164 (A : AT) (P : Params) : Obj := (Obj.mk (.type (t A 2)) none (.seq #[] 0) #[])
def o_165 (A : AT) (P : Params) : Obj := (Obj.mk .none none (.func (FuncData.mk (s A 12) (s A 12) (defArgs (stm A 10)) (FuncBody.stmts (defBody (stm A 10))) (defScope (stm A 10)) 0 [] .none .none .none .none none .none .none 0)) #[])
def o_166 (A : AT) (P : Params) : Obj := (Obj.mk (.type (t A 0)) none (.fields #[(.str (s A 12) 313), (.str (s A 12) 314), (.str (s A 1) 315), (.int 22 0), (.int 3 0), (.int 0 0), (.int 0 0), (.int 3 0), (.ref 110), (.bool true), (.int 181 0), (.ref 111), .none, (.ref 112), (.ref 113), (.ref 114), (.int 319 0), (.int 22 0), (.str (s A 1) 320)]) #[])
def o_167 (A : AT) (P : Params) : Obj := (Obj.mk (.type (t A 1)) none (.func (FuncData.mk (s A 12) (s A 12) (defArgs (stm A 10)) (FuncBody.stmts (defBody (stm A 10))) (defScope (stm A 10)) 3 [] .none .none .none (.str (s A 59) 304) none (.ref 115) .none 0)) #[])
def o_168 (A : AT) (P : Params) : Obj := (Obj.mk (.type (t A 2)) none (.seq #[] 0) #[])
def o_169 (A : AT) (P : Params) : Obj := (Obj.mk .none none (.fields #[]) #[])
def o_170 (A : AT) (P : Params) : Obj := (Obj.mk (.type (t A 2)) none (.seq #[(.str (s A 81) 325), (.str (s A 111) 326)] 0) #[])
def o_171 (A : AT) (P : Params) : Obj := (Obj.mk (.type (t A 2)) none (.seq #[] 0) #[])
def o_172 (A : AT) (P : Params) : Obj := (Obj.mk .none none (.func (FuncData.mk (s A 30) (s A 30) (defArgs (stm A 11)) (FuncBody.stmts (defBody (stm A 11))) (defScope (stm A 11)) 0 [] .none .none .none .none none .none .none 0)) #[])
def o_173 (A : AT) (P : Params) : Obj := (Obj.mk (.type (t A 0)) none (.fields #[(.str (s A 30) 322), (.str (s A 30) 323), (.str (s A 1) 324), (.int 24 0), (.int 2 0), (.int 0 0), (.int 0 0), (.int 3 0), (.ref 117), (.bool true), (.int 181 0), (.ref 118), .none, (.ref 119), (.ref 120), (.ref 121), (.int 327 0), (.int 24 0), (.str (s A 1) 328)]) #[])
def o_174 (A : AT) (P : Params) : Obj := (Obj.mk (.type (t A 1)) none (.func (FuncData.mk (s A 30) (s A 30) (defArgs (stm A 11)) (FuncBody.stmts (defBody (stm A 11))) (defScope (stm A 11)) 3 [] .none .none .none (.str (s A 59) 304) none (.ref 122) .none 0)) #[])
def o_175 (A : AT) (P : Params) : Obj := (Obj.mk (.type (t A 5)) none (.dict #[(DictEntry.mk (keyHash P (s A 13)) (.str (s A 13) 165) (.str (s A 55) 391)), (DictEntry.mk (keyHash P (s A 15)) (.str (s A 15) 166) .none), (DictEntry.mk (keyHash P (s A 16)) (.str (s A 16) 167) .none), (DictEntry.mk (keyHash P (s A 17)) (.str (s A 17) 168) (.builtin (t A 6))), (DictEntry.mk (keyHash P (s A 18)) (.str (s A 18) 169) .none), (DictEntry.mk (keyHash P (s A 19)) (.str (s A 19) 170) (.ref 6)), (DictEntry.mk (keyHash P (s A 20)) (.str (s A 20) 171) (.ref 4)), (DictEntry.mk (keyHash P (s A 21)) (.str (s A 21) 173) (.str (s A 1) 172)), (DictEntry.mk (keyHash P (s A 22)) (.str (s A 22) 174) .none), (DictEntry.mk (keyHash P (s A 23)) (.str (s A 23) 193) (.ref 21)), (DictEntry.mk (keyHash P (s A 0)) (.str (s A 0) 213) (.ref 31)), (DictEntry.mk (keyHash P (s A 24)) (.str (s A 24) 229) (.ref 44)), (DictEntry.mk (keyHash P (s A 25)) (.str (s A 25) 245) (.ref 56)), (DictEntry.mk (keyHash P (s A 26)) (.str (s A 26) 261) (.ref 68)), (DictEntry.mk (keyHash P (s A 27)) (.str (s A 27) 277) (.ref 80)), (DictEntry.mk (keyHash P (s A 28)) (.str (s A 28) 303) (.ref 100)), (DictEntry.mk (keyHash P (s A 29)) (.str (s A 29) 312) (.ref 109)), (DictEntry.mk (keyHash P (s A 12)) (.str (s A 12) 321) (.ref 116)), (DictEntry.mk (keyHash P (s A 30)) (.str (s A 30) 329) (.ref 123)), (DictEntry.mk (keyHash P (s A 31)) (.str (s A 31) 333) (.int 60 332)), (DictEntry.mk (keyHash P (s A 32)) (.str (s A 32) 335) (.int 1440 334)), (DictEntry.mk (keyHash P (s A 33)) (.str (s A 33) 342) (.ref 130)), (DictEntry.mk (keyHash P (s A 34)) (.str (s A 34) 349) (.ref 137)), (DictEntry.mk (keyHash P (s A 35)) (.str (s A 35) 356) (.ref 144)), (DictEntry.mk (keyHash P (s A 36)) (.str (s A 36) 363) (.ref 151)), (DictEntry.mk (keyHash P (s A 37)) (.str (s A 37) 370) (.ref 158)), (DictEntry.mk (keyHash P (s A 38)) (.str (s A 38) 374) (.str (s A 39) 373)), (DictEntry.mk (keyHash P (s A 40)) (.str (s A 40) 376) (.int 8 375)), (DictEntry.mk (keyHash P (s A 41)) (.str (s A 41) 382) (.ref 163)), (DictEntry.mk (keyHash P (s A 6)) (.str (s A 6) 390) (.ref 168))] 30) #[])
def o_176 (A : AT) (P : Params) : Obj := (Obj.mk .none none (.fields #[(.int 1 0), (.int 0 0), (.ref 20), (.int 5 0), (.int 0 0), (.ref 27), (.int 7 0), (.int 0 0), (.ref 40), (.int 9 0), (.int 0 0), (.ref 52), (.int 11 0), (.int 0 0), (.ref 64), (.int 13 0), (.int 0 0), (.ref 76), (.int 15 0), (.int 0 0), (.ref 88), (.int 20 0), (.int 0 0), (.ref 108), (.int 22 0), (.int 0 0), (.ref 115), (.int 24 0), (.int 0 0), (.ref 122), (.int 29 0), (.int 0 0), (.ref 129), (.int 31 0), (.int 0 0), (.ref 136), (.int 37 0), (.int 0 0), (.ref 143), (.int 40 0), (.int 0 0), (.ref 150), (.int 43 0), (.int 0 0), (.ref 157), (.int 49 0), (.int 0 0), (.ref 162), (.int 54 0), (.int 0 0), (.ref 167)]) #[])
def o_177 (A : AT) (P : Params) : Obj := (Obj.mk (.type (t A 2)) none (.seq #[] 0) #[])
def o_178 (A : AT) (P : Params) : Obj := (Obj.mk .none none (.fields #[]) #[])
def o_179 (A : AT) (P : Params) : Obj := (Obj.mk (.type (t A 2)) none (.seq #[(.str (s A 81) 339)] 0) #[])
def o_180 (A : AT) (P : Params) : Obj := (Obj.mk (.type (t A 2)) none (.seq #[] 0) #[])
def o_181 (A : AT) (P : Params) : Obj := (Obj.mk .none none (.func (FuncData.mk (s A 33) (s A 33) (defArgs (stm A 15)) (FuncBody.stmts (defBody (stm A 15))) (defScope (stm A 15)) 0 [] .none .none .none .none none .none .none 0)) #[])
def o_182 (A : AT) (P : Params) : Obj := (Obj.mk (.type (t A 0)) none (.fields #[(.str (s A 33) 336), (.str (s A 33) 337), (.str (s A 1) 338), (.int 29 0), (.int 1 0), (.int 0 0), (.int 0 0), (.int 3 0), (.ref 124), (.bool true), (.int 181 0), (.ref 125), .none, (.ref 126), (.ref 127), (.ref 128), (.int 340 0), (.int 29 0), (.str (s A 1) 341)]) #[])
def o_183 (A : AT) (P : Params) : Obj := (Obj.mk (.type (t A 1)) none (.func (FuncData.mk (s A 33) (s A 33) (defArgs (stm A 15)) (FuncBody.stmts (defBody (stm A 15))) (defScope (stm A 15)) 3 [] .none .none .none (.str (s A 93) 330) none (.ref 129) .none 0)) #[])
def o_184 (A : AT) (P : Params) : Obj := (Obj.mk (.type (t A 2)) none (.seq #[] 0) #[])
def o_185 (A : AT) (P : Params) : Obj := (Obj.mk .none none (.fields #[]) #[])
def o_186 (A : AT) (P : Params) : Obj := (Obj.mk (.type (t A 2)) none (.seq #[(.str (s A 81) 346)] 0) #[])
def o_187 (A : AT) (P : Params) : Obj := (Obj.mk (.type (t A 2)) none (.seq #[] 0) #[])
def o_188 (A : AT) (P : Params) : Obj := (Obj.mk .none none (.func (FuncData.mk (s A 34) (s A 34) (defArgs (stm A 16)) (FuncBody.stmts (defBody (stm A 16))) (defScope (stm A 16)) 0 [] .none .none .none .none none .none .none 0)) #[])
def o_189 (A : AT) (P : Params) : Obj := (Obj.mk (.type (t A 0)) none (.fields #[(.str (s A 34) 343), (.str (s A 34) 344), (.str (s A 1) 345), (.int 31 0), (.int 1 0), (.int 0 0), (.int 0 0), (.int 3 0), (.ref 131), (.bool true), (.int 181 0), (.ref 132), .none, (.ref 133), (.ref 134), (.ref 135), (.int 347 0), (.int 31 0), (.str (s A 1) 348)]) #[])
def o_190 (A : AT) (P : Params) : Obj := (Obj.mk (.type (t A 1)) none (.func (FuncData.mk (s A 34) (s A 34) (defArgs (stm A 16)) (FuncBody.stmts (defBody (stm A 16))) (defScope (stm A 16)) 3 [] .none .none .none (.str (s A 93) 330) none (.ref 136) .none 0)) #[])
def o_191 (A : AT) (P : Params) : Obj := (Obj.mk (.type (t A 2)) none (.seq #[] 0) #[])
def o_192 (A : AT) (P : Params) : Obj := (Obj.mk .none none (.fields #[]) #[])
def o_193 (A : AT) (P : Params) : Obj := (Obj.mk (.type (t A 2)) none (.seq #[(.str (s A 69) 353)] 0) #[])
def o_194 (A : AT) (P : Params) : Obj := (Obj.mk (.type (t A 2)) none (.seq #[] 0) #[])
def o_195 (A : AT) (P : Params) : Obj := (Obj.mk .none none (.func (FuncData.mk (s A 35) (s A 35) (defArgs (stm A 17)) (FuncBody.stmts (defBody (stm A 17))) (defScope (stm A 17)) 0 [] .none .none .none .none none .none .none 0)) #[])
def o_196 (A : AT) (P : Params) : Obj := (Obj.mk (.type (t A 0)) none (.fields #[(.str (s A 35) 350), (.str (s A 35) 351), (.str (s A 1) 352), (.int 37 0), (.int 1 0), (.int 0 0), (.int 0 0), (.int 3 0), (.ref 138), (.bool true), (.int 181 0), (.ref 139), .none, (.ref 140), (.ref 141), (.ref 142), (.int 354 0), (.int 37 0), (.str (s A 1) 355)]) #[])
def o_197 (A : AT) (P : Params) : Obj := (Obj.mk (.type (t A 1)) none (.func (FuncData.mk (s A 35) (s A 35) (defArgs (stm A 17)) (FuncBody.stmts (defBody (stm A 17))) (defScope (stm A 17)) 3 [] .none .none .none (.str (s A 93) 330) none (.ref 143) .none 0)) #[])
def o_198 (A : AT) (P : Params) : Obj := (Obj.mk (.type (t A 2)) none (.seq #[] 0) #[])
def o_199 (A : AT) (P : Params) : Obj := (Obj.mk .none none (.fields #[]) #[])
def o_200 (A : AT) (P : Params) : Obj := (Obj.mk (.type (t A 2)) none (.seq #[(.str (s A 77) 360)] 0) #[])
def o_201 (A : AT) (P : Params) : Obj := (Obj.mk (.type (t A 2)) none (.seq #[] 0) #[])
def o_202 (A : AT) (P : Params) : Obj := (Obj.mk .none none (.func (FuncData.mk (s A 36) (s A 36) (defArgs (stm A 18)) (FuncBody.stmts (defBody (stm A 18))) (defScope (stm A 18)) 0 [] .none .none .none .none none .none .none 0)) #[])
def o_203 (A : AT) (P : Params) : Obj := (Obj.mk (.type (t A 0)) none (.fields #[(.str (s A 36) 357), (.str (s A 36) 358), (.str (s A 1) 359), (.int 40 0), (.int 1 0), (.int 0 0), (.int 0 0), (.int 3 0), (.ref 145), (.bool true), (.int 181 0), (.ref 146), .none, (.ref 147), (.ref 148), (.ref 149), (.int 361 0), (.int 40 0), (.str (s A 1) 362)]) #[])
def o_204 (A : AT) (P : Params) : Obj := (Obj.mk (.type (t A 1)) none (.func (FuncData.mk (s A 36) (s A 36) (defArgs (stm A 18)) (FuncBody.stmts (defBody (stm A 18))) (defScope (stm A 18)) 3 [] .none .none .none (.str (s A 93) 330) none (.ref 150) .none 0)) #[])
def o_205 (A : AT) (P : Params) : Obj := (Obj.mk (.type (t A 2)) none (.seq #[] 0) #[])
def o_206 (A : AT) (P : Params) : Obj := (Obj.mk .none none (.fields #[]) #[])
def o_207 (A : AT) (P : Params) : Obj := (Obj.mk (.type (t A 2)) none (.seq #[(.str (s A 91) 367)] 0) #[])
def o_208 (A : AT) (P : Params) : Obj := (Obj.mk (.type (t A 2)) none (.seq #[] 0) #[])
def o_209 (A : AT) (P : Params) : Obj := (Obj.mk .none none (.func (FuncData.mk (s A 37) (s A 37) (defArgs (stm A 19)) (FuncBody.stmts (defBody (stm A 19))) (defScope (stm A 19)) 0 [] .none .none .none .none none .none .none 0)) #[])
def o_210 (A : AT) (P : Params) : Obj := (Obj.mk (.type (t A 0)) none (.fields #[(.str (s A 37) 364), (.str (s A 37) 365), (.str (s A 1) 366), (.int 43 0), (.int 1 0), (.int 0 0), (.int 0 0), (.int 3 0), (.ref 152), (.bool true), (.int 181 0), (.ref 153), .none, (.ref 154), (.ref 155), (.ref 156), (.int 368 0), (.int 43 0), (.str (s A 1) 369)]) #[])
def o_211 (A : AT) (P : Params) : Obj := (Obj.mk (.type (t A 1)) none (.func (FuncData.mk (s A 37) (s A 37) (defArgs (stm A 19)) (FuncBody.stmts (defBody (stm A 19))) (defScope (stm A 19)) 3 [] .none .none .none (.str (s A 93) 330) none (.ref 157) .none 0)) #[])
def o_212 (A : AT) (P : Params) : Obj := (Obj.mk (.type (t A 2)) none (.seq #[] 0) #[])
def o_213 (A : AT) (P : Params) : Obj := (Obj.mk .none none (.fields #[]) #[])
def o_214 (A : AT) (P : Params) : Obj := (Obj.mk .none none (.func (FuncData.mk (s A 41) (s A 41) (defArgs (stm A 23)) (FuncBody.stmts (defBody (stm A 23))) (defScope (stm A 23)) 0 [] .none .none .none .none none .none .none 0)) #[])
def o_215 (A : AT) (P : Params) : Obj := (Obj.mk (.type (t A 0)) none (.fields #[(.str (s A 41) 377), (.str (s A 41) 378), (.str (s A 1) 379), (.int 49 0), (.int 1 0), (.int 0 0), (.int 0 0), (.int 3 0), (.ref 159), (.bool true), (.int 181 0), (.ref 160), .none, .none, .none, (.ref 161), (.int 380 0), (.int 49 0), (.str (s A 1) 381)]) #[])
def o_216 (A : AT) (P : Params) : Obj := (Obj.mk (.type (t A 1)) none (.func (FuncData.mk (s A 41) (s A 41) (defArgs (stm A 23)) (FuncBody.stmts (defBody (stm A 23))) (defScope (stm A 23)) 3 [] .none .none .none (.str (s A 123) 371) none (.ref 162) .none 0)) #[])
def o_217 (A : AT) (P : Params) : Obj := (Obj.mk (.type (t A 2)) none (.seq #[] 0) #[])
def o_218 (A : AT) (P : Params) : Obj := (Obj.mk .none none (.fields #[]) #[])
def o_219 (A : AT) (P : Params) : Obj := (Obj.mk .none none (.func (FuncData.mk (s A 6) (s A 6) (defArgs (stm A 25)) (FuncBody.stmts (defBody (stm A 25))) (defScope (stm A 25)) 0 [] .none .none .none .none none .none .none 0)) #[])
def o_220 (A : AT) (P : Params) : Obj := (Obj.mk (.type (t A 0)) none (.fields #[(.str (s A 6) 385), (.str (s A 6) 386), (.str (s A 1) 387), (.int 54 0), (.int 1 0), (.int 0 0), (.int 0 0), (.int 3 0), (.ref 164), (.bool true), (.int 181 0), (.ref 165), .none, .none, .none, (.ref 166), (.int 388 0), (.int 54 0), (.str (s A 1) 389)]) #[])
def o_221 (A : AT) (P : Params) : Obj := (Obj.mk (.type (t A 1)) none (.func (FuncData.mk (s A 6) (s A 6) (defArgs (stm A 25)) (FuncBody.stmts (defBody (stm A 25))) (defScope (stm A 25)) 3 [] .none .none .none (.str (s A 7) 383) none (.ref 167) .none 0)) #[])
def o_222 (A : AT) (P : Params) : Obj := (Obj.mk (.type (t A 5)) none (.dict #[(DictEntry.mk (keyHash P (s A 13)) (.str (s A 13) 165) (.str (s A 55) 391)), (DictEntry.mk (keyHash P (s A 15)) (.str (s A 15) 166) .none), (DictEntry.mk (keyHash P (s A 16)) (.str (s A 16) 167) .none), (DictEntry.mk (keyHash P (s A 17)) (.str (s A 17) 168) (.builtin (t A 6))), (DictEntry.mk (keyHash P (s A 18)) (.str (s A 18) 169) .none), (DictEntry.mk (keyHash P (s A 19)) (.str (s A 19) 170) (.ref 6)), (DictEntry.mk (keyHash P (s A 20)) (.str (s A 20) 171) (.ref 4)), (DictEntry.mk (keyHash P (s A 21)) (.str (s A 21) 173) (.str (s A 1) 172)), (DictEntry.mk (keyHash P (s A 22)) (.str (s A 22) 174) .none), (DictEntry.mk (keyHash P (s A 23)) (.str (s A 23) 193) (.ref 21)), (DictEntry.mk (keyHash P (s A 0)) (.str (s A 0) 213) (.ref 31)), (DictEntry.mk (keyHash P (s A 24)) (.str (s A 24) 229) (.ref 44)), (DictEntry.mk (keyHash P (s A 25)) (.str (s A 25) 245) (.ref 56)), (DictEntry.mk (keyHash P (s A 26)) (.str (s A 26) 261) (.ref 68)), (DictEntry.mk (keyHash P (s A 27)) (.str (s A 27) 277) (.ref 80)), (DictEntry.mk (keyHash P (s A 28)) (.str (s A 28) 303) (.ref 100)), (DictEntry.mk (keyHash P (s A 29)) (.str (s A 29) 312) (.ref 109)), (DictEntry.mk (keyHash P (s A 12)) (.str (s A 12) 321) (.ref 116)), (DictEntry.mk (keyHash P (s A 30)) (.str (s A 30) 329) (.ref 123)), (DictEntry.mk (keyHash P (s A 31)) (.str (s A 31) 333) (.int 60 332)), (DictEntry.mk (keyHash P (s A 32)) (.str (s A 32) 335) (.int 1440 334)), (DictEntry.mk (keyHash P (s A 33)) (.str (s A 33) 342) (.ref 130)), (DictEntry.mk (keyHash P (s A 34)) (.str (s A 34) 349) (.ref 137)), (DictEntry.mk (keyHash P (s A 35)) (.str (s A 35) 356) (.ref 144)), (DictEntry.mk (keyHash P (s A 36)) (.str (s A 36) 363) (.ref 151)), (DictEntry.mk (keyHash P (s A 37)) (.str (s A 37) 370) (.ref 158)), (DictEntry.mk (keyHash P (s A 38)) (.str (s A 38) 374) (.str (s A 39) 373)), (DictEntry.mk (keyHash P (s A 40)) (.str (s A 40) 376) (.int 8 375)), (DictEntry.mk (keyHash P (s A 41)) (.str (s A 41) 382) (.ref 163)), (DictEntry.mk (keyHash P (s A 6)) (.str (s A 6) 390) (.ref 168)), (DictEntry.mk (keyHash P (s A 42)) (.str (s A 42) 412) (.ref 178))] 31) #[])
def o_223 (A : AT) (P : Params) : Obj := (Obj.mk .none none (.fields #[(.int 1 0), (.int 0 0), (.ref 20), (.int 5 0), (.int 0 0), (.ref 27), (.int 7 0), (.int 0 0), (.ref 40), (.int 9 0), (.int 0 0), (.ref 52), (.int 11 0), (.int 0 0), (.ref 64), (.int 13 0), (.int 0 0), (.ref 76), (.int 15 0), (.int 0 0), (.ref 88), (.int 20 0), (.int 0 0), (.ref 108), (.int 22 0), (.int 0 0), (.ref 115), (.int 24 0), (.int 0 0), (.ref 122), (.int 29 0), (.int 0 0), (.ref 129), (.int 31 0), (.int 0 0), (.ref 136), (.int 37 0), (.int 0 0), (.ref 143), (.int 40 0), (.int 0 0), (.ref 150), (.int 43 0), (.int 0 0), (.ref 157), (.int 49 0), (.int 0 0), (.ref 162), (.int 54 0), (.int 0 0), (.ref 167), (.int 59 0), (.int 0 0), (.ref 174)]) #[])
def o_224 (A : AT) (P : Params) : Obj := (Obj.mk (.type (t A 2)) none (.seq #[] 0) #[])
def o_225 (A : AT) (P : Params) : Obj := (Obj.mk (.type (t A 3)) none (.fields #[(.builtin (t A 20)), (.type (t A 10))]) #[])
def o_226 (A : AT) (P : Params) : Obj := (Obj.mk (.type (t A 5)) none (.dict #[(DictEntry.mk (keyHash P (s A 60)) (.str (s A 60) 400) (.str (s A 55) 391)), (DictEntry.mk (keyHash P (s A 71)) (.str (s A 71) 402) (.str (s A 42) 401)), (DictEntry.mk (keyHash P (s A 62)) (.str (s A 62) 404) (.int 59 403)), (DictEntry.mk (keyHash P (s A 63)) (.str (s A 63) 405) (.ref 176))] 4) #[])
def o_227 (A : AT) (P : Params) : Obj := (Obj.mk (.type (t A 2)) none (.seq #[] 0) #[])
def o_228 (A : AT) (P : Params) : Obj := (Obj.mk .none none (.fields #[]) #[])
def o_229 (A : AT) (P : Params) : Obj := (Obj.mk (.type (t A 0)) none (.fields #[(.str (s A 42) 395), (.str (s A 42) 396), (.str (s A 1) 397), (.int 59 0), (.int 0 0), (.int 0 0), (.int 0 0), (.int 0 0), (.ref 172), (.bool false), (.int 181 0), (.ref 173), .none, .none, .none, .none, (.int 398 0), (.int 59 0), (.str (s A 1) 399)]) #[])
def o_230 (A : AT) (P : Params) : Obj := (Obj.mk (.type (t A 18)) none .plain #[(some (.ref 174)), (some (.ref 3)), (some (.ref 171)), none, (some (.str (s A 55) 391)), none, (some (.ref 0))])
def o_231 (A : AT) (P : Params) : Obj := (Obj.mk (.type (t A 2)) none (.seq #[] 0) #[])
def o_232 (A : AT) (P : Params) : Obj := (Obj.mk (.type (t A 5)) none (.dict #[(DictEntry.mk (keyHash P (s A 60)) (.str (s A 60) 400) (.str (s A 55) 391)), (DictEntry.mk (keyHash P (s A 62)) (.str (s A 62) 404) (.int 59 403)), (DictEntry.mk (keyHash P (s A 63)) (.str (s A 63) 405) (.ref 176)), (DictEntry.mk (keyHash P (s A 52)) (.str (s A 52) 407) (.ref 179)), (DictEntry.mk (keyHash P (s A 75)) (.str (s A 75) 409) (.ref 180)), (DictEntry.mk (keyHash P (s A 15)) (.str (s A 15) 410) .none)] 4) #[])
def o_233 (A : AT) (P : Params) : Obj := (Obj.mk (.type (t A 10)) none (.cls (ClassData.mk (s A 42) [(.type (t A 14))] [(.ref 178), (.type (t A 14))] 177 (s A 42) true [] [] false none false)) #[none, none, (some (.str (s A 42) 393)), (some (.str (s A 42) 401)), (some (.builtin (t A 19))), (some (.bool true))])
def o_234 (A : AT) (P : Params) : Obj := (Obj.mk (.type (t A 7)) none (.fields #[(.str (s A 52) 406), (.ref 178), (.builtin (t A 8)), (.builtin (t A 9))]) #[])
def o_235 (A : AT) (P : Params) : Obj := (Obj.mk (.type (t A 7)) none (.fields #[(.str (s A 75) 408), (.ref 178), (.builtin (t A 17)), .none]) #[])
def o_236 (A : AT) (P : Params) : Obj := (Obj.mk (.type (t A 16)) none (.fields #[(.ref 178), (.ref 178), (.ref 178)]) #[])
def o_237 (A : AT) (P : Params) : Obj := (Obj.mk (.type (t A 3)) none (.fields #[(.builtin (t A 4)), (.ref 178)]) #[])
def o_238 (A : AT) (P : Params) : Obj := (Obj.mk (.type (t A 5)) none (.dict #[(DictEntry.mk (keyHash P (s A 13)) (.str (s A 13) 165) (.str (s A 78) 457)), (DictEntry.mk (keyHash P (s A 15)) (.str (s A 15) 166) .none), (DictEntry.mk (keyHash P (s A 16)) (.str (s A 16) 167) .none), (DictEntry.mk (keyHash P (s A 17)) (.str (s A 17) 168) (.builtin (t A 6))), (DictEntry.mk (keyHash P (s A 18)) (.str (s A 18) 169) .none), (DictEntry.mk (keyHash P (s A 19)) (.str (s A 19) 170) (.ref 6)), (DictEntry.mk (keyHash P (s A 20)) (.str (s A 20) 171) (.ref 4)), (DictEntry.mk (keyHash P (s A 21)) (.str (s A 21) 173) (.str (s A 1) 172)), (DictEntry.mk (keyHash P (s A 22)) (.str (s A 22) 174) .none), (DictEntry.mk (keyHash P (s A 23)) (.str (s A 23) 193) (.ref 21)), (DictEntry.mk (keyHash P (s A 0)) (.str (s A 0) 213) (.ref 31)), (DictEntry.mk (keyHash P (s A 24)) (.str (s A 24) 229) (.ref 44)), (DictEntry.mk (keyHash P (s A 25)) (.str (s A 25) 245) (.ref 56)), (DictEntry.mk (keyHash P (s A 26)) (.str (s A 26) 261) (.ref 68)), (DictEntry.mk (keyHash P (s A 27)) (.str (s A 27) 277) (.ref 80)), (DictEntry.mk (keyHash P (s A 28)) (.str (s A 28) 303) (.ref 100)), (DictEntry.mk (keyHash P (s A 29)) (.str (s A 29) 312) (.ref 109)), (DictEntry.mk (keyHash P (s A 12)) (.str (s A 12) 321) (.ref 116)), (DictEntry.mk (keyHash P (s A 30)) (.str (s A 30) 329) (.ref 123)), (DictEntry.mk (keyHash P (s A 31)) (.str (s A 31) 333) (.int 60 332)), (DictEntry.mk (keyHash P (s A 32)) (.str (s A 32) 335) (.int 1440 334)), (DictEntry.mk (keyHash P (s A 33)) (.str (s A 33) 342) (.ref 130)), (DictEntry.mk (keyHash P (s A 34)) (.str (s A 34) 349) (.ref 137)), (DictEntry.mk (keyHash P (s A 35)) (.str (s A 35) 356) (.ref 144)), (DictEntry.mk (keyHash P (s A 36)) (.str (s A 36) 363) (.ref 151)), (DictEntry.mk (keyHash P (s A 37)) (.str (s A 37) 370) (.ref 158)), (DictEntry.mk (keyHash P (s A 38)) (.str (s A 38) 374) (.str (s A 39) 373)), (DictEntry.mk (keyHash P (s A 40)) (.str (s A 40) 376) (.int 8 375)), (DictEntry.mk (keyHash P (s A 41)) (.str (s A 41) 382) (.ref 163)), (DictEntry.mk (keyHash P (s A 6)) (.str (s A 6) 390) (.ref 168)), (DictEntry.mk (keyHash P (s A 42)) (.str (s A 42) 412) (.ref 178)), (DictEntry.mk (keyHash P (s A 43)) (.str (s A 43) 456) (.ref 213))] 32) #[])
def o_239 (A : AT) (P : Params) : Obj := (Obj.mk .none none (.fields #[(.int 1 0), (.int 0 0), (.ref 20), (.int 5 0), (.int 0 0), (.ref 27), (.int 7 0), (.int 0 0), (.ref 40), (.int 9 0), (.int 0 0), (.ref 52), (.int 11 0), (.int 0 0), (.ref 64), (.int 13 0), (.int 0 0), (.ref 76), (.int 15 0), (.int 0 0), (.ref 88), (.int 20 0), (.int 0 0), (.ref 108), (.int 22 0), (.int 0 0), (.ref 115), (.int 24 0), (.int 0 0), (.ref 122), (.int 29 0), (.int 0 0), (.ref 129), (.int 31 0), (.int 0 0), (.ref 136), (.int 37 0), (.int 0 0), (.ref 143), (.int 40 0), (.int 0 0), (.ref 150), (.int 43 0), (.int 0 0), (.ref 157), (.int 49 0), (.int 0 0), (.ref 162), (.int 54 0), (.int 0 0), (.ref 167), (.int 59 0), (.int 0 0), (.ref 174), (.int 61 0), (.int 0 0), (.ref 188)]) #[])
def o_240 (A : AT) (P : Params) : Obj := (Obj.mk (.type (t A 10)) none (.cls (ClassData.mk (s A 42) [(.type (t A 14))] [(.ref 178), (.type (t A 14))] 177 (s A 42) true [] [(.ref 213)] false none false)) #[none, none, (some (.str (s A 42) 393)), (some (.str (s A 42) 401)), (some (.builtin (t A 19))), (some (.bool true))])
def o_241 (A : AT) (P : Params) : Obj := (Obj.mk (.type (t A 2)) none (.seq #[(.ref 178)] 0) #[])
def o_242 (A : AT) (P : Params) : Obj := (Obj.mk (.type (t A 3)) none (.fields #[(.builtin (t A 20)), (.type (t A 10))]) #[])
def o_243 (A : AT) (P : Params) : Obj := (Obj.mk (.type (t A 5)) none (.dict #[(DictEntry.mk (keyHash P (s A 60)) (.str (s A 60) 420) (.str (s A 55) 391)), (DictEntry.mk (keyHash P (s A 71)) (.str (s A 71) 422) (.str (s A 43) 421)), (DictEntry.mk (keyHash P (s A 62)) (.str (s A 62) 424) (.int 61 423)), (DictEntry.mk (keyHash P (s A 73)) (.str (s A 73) 432) (.ref 196)), (DictEntry.mk (keyHash P (s A 88)) (.str (s A 88) 442) (.ref 203)), (DictEntry.mk (keyHash P (s A 53)) (.str (s A 53) 452) (.ref 210)), (DictEntry.mk (keyHash P (s A 63)) (.str (s A 63) 453) (.ref 211))] 7) #[])
def o_244 (A : AT) (P : Params) : Obj := (Obj.mk (.type (t A 2)) none (.seq #[] 0) #[])
def o_245 (A : AT) (P : Params) : Obj := (Obj.mk .none none (.fields #[(.int 63 0), (.int 4 0), (.ref 195), (.int 66 0), (.int 4 0), (.ref 202), (.int 69 0), (.int 4 0), (.ref 209)]) #[])
def o_246 (A : AT) (P : Params) : Obj := (Obj.mk (.type (t A 0)) none (.fields #[(.str (s A 43) 415), (.str (s A 43) 416), (.str (s A 1) 417), (.int 61 0), (.int 0 0), (.int 0 0), (.int 0 0), (.int 0 0), (.ref 186), (.bool false), (.int 181 0), (.ref 187), .none, .none, .none, .none, (.int 418 0), (.int 61 0), (.str (s A 1) 419)]) #[])
def o_247 (A : AT) (P : Params) : Obj := (Obj.mk (.type (t A 18)) none .plain #[(some (.ref 188)), (some (.ref 3)), (some (.ref 185)), none, (some (.str (s A 55) 391)), none, (some (.ref 0))])
def o_248 (A : AT) (P : Params) : Obj := (Obj.mk (.type (t A 2)) none (.seq #[] 0) #[])
def o_249 (A : AT) (P : Params) : Obj := (Obj.mk .none none (.fields #[]) #[])
def o_250 (A : AT) (P : Params) : Obj := (Obj.mk (.type (t A 2)) none (.seq #[(.str (s A 8) 428), (.str (s A 119) 429)] 0) #[])
def o_251 (A : AT) (P : Params) : Obj := (Obj.mk (.type (t A 2)) none (.seq #[] 0) #[])
def o_252 (A : AT) (P : Params) : Obj := (Obj.mk .none none (.func (FuncData.mk (s A 73) (s A 74) (defArgs (inClass (stm A 28) 0)) (FuncBody.stmts (defBody (inClass (stm A 28) 0))) (defScope (inClass (stm A 28) 0)) 0 [] .none .none .none .none none .none .none 0)) #[])
def o_253 (A : AT) (P : Params) : Obj := (Obj.mk (.type (t A 0)) none (.fields #[(.str (s A 73) 425), (.str (s A 74) 426), (.str (s A 1) 427), (.int 63 0), (.int 2 0), (.int 0 0), (.int 0 0), (.int 3 0), (.ref 190), (.bool true), (.int 181 0), (.ref 191), .none, (.ref 192), (.ref 193), (.ref 194), (.int 430 0), (.int 63 0), (.str (s A 1) 431)]) #[])
def o_254 (A : AT) (P : Params) : Obj := (Obj.mk (.type (t A 1)) none (.func (FuncData.mk (s A 73) (s A 74) (defArgs (inClass (stm A 28) 0)) (FuncBody.stmts (defBody (inClass (stm A 28) 0))) (defScope (inClass (stm A 28) 0)) 3 [] .none .none .none (.str (s A 55) 391) none (.ref 195) .none 0)) #[])
def o_255 (A : AT) (P : Params) : Obj := (Obj.mk (.type (t A 2)) none (.seq #[] 0) #[])
def o_256 (A : AT) (P : Params) : Obj := (Obj.mk .none none (.fields #[]) #[])
def o_257 (A : AT) (P : Params) : Obj := (Obj.mk (.type (t A 2)) none (.seq #[(.str (s A 8) 436), (.str (s A 85) 437), (.str (s A 86) 438), (.str (s A 87) 439)] 0) #[])
def o_258 (A : AT) (P : Params) : Obj := (Obj.mk (.type (t A 2)) none (.seq #[] 0) #[])
def o_259 (A : AT) (P : Params) : Obj := (Obj.mk .none none (.func (FuncData.mk (s A 88) (s A 89) (defArgs (inClass (stm A 28) 1)) (FuncBody.stmts (defBody (inClass (stm A 28) 1))) (defScope (inClass (stm A 28) 1)) 0 [] .none .none .none .none none .none .none 0)) #[])
def o_260 (A : AT) (P : Params) : Obj := (Obj.mk (.type (t A 0)) none (.fields #[(.str (s A 88) 433), (.str (s A 89) 434), (.str (s A 1) 435), (.int 66 0), (.int 4 0), (.int 0 0), (.int 0 0), (.int 3 0), (.ref 197), (.bool true), (.int 181 0), (.ref 198), .none, (.ref 199), (.ref 200), (.ref 201), (.int 440 0), (.int 66 0), (.str (s A 1) 441)]) #[])
def o_261 (A : AT) (P : Params) : Obj := (Obj.mk (.type (t A 1)) none (.func (FuncData.mk (s A 88) (s A 89) (defArgs (inClass (stm A 28) 1)) (FuncBody.stmts (defBody (inClass (stm A 28) 1))) (defScope (inClass (stm A 28) 1)) 3 [] .none .none .none (.str (s A 55) 391) none (.ref 202) .none 0)) #[])
def o_262 (A : AT) (P : Params) : Obj := (Obj.mk (.type (t A 2)) none (.seq #[] 0) #[])
def o_263 (A : AT) (P : Params) : Obj := (Obj.mk .none none (.fields #[]) #[])
def o_264 (A : AT) (P : Params) : Obj := (Obj.mk (.type (t A 2)) none (.seq #[(.str (s A 8) 446), (.str (s A 9) 447), (.str (s A 10) 448), (.str (s A 11) 449)] 0) #[])
def o_265 (A : AT) (P : Params) : Obj := (Obj.mk (.type (t A 2)) none (.seq #[] 0) #[])
def o_266 (A : AT) (P : Params) : Obj := (Obj.mk .none none (.func (FuncData.mk (s A 53) (s A 54) (defArgs (inClass (stm A 28) 2)) (FuncBody.stmts (defBody (inClass (stm A 28) 2))) (defScope (inClass (stm A 28) 2)) 0 [] .none .none .none .none none .none .none 0)) #[])
def o_267 (A : AT) (P : Params) : Obj := (Obj.mk (.type (t A 0)) none (.fields #[(.str (s A 53) 443), (.str (s A 54) 444), (.str (s A 1) 445), (.int 69 0), (.int 4 0), (.int 0 0), (.int 0 0), (.int 3 0), (.ref 204), (.bool true), (.int 181 0), (.ref 205), .none, (.ref 206), (.ref 207), (.ref 208), (.int 450 0), (.int 69 0), (.str (s A 1) 451)]) #[])
def o_268 (A : AT) (P : Params) : Obj := (Obj.mk (.type (t A 1)) none (.func (FuncData.mk (s A 53) (s A 54) (defArgs (inClass (stm A 28) 2)) (FuncBody.stmts (defBody (inClass (stm A 28) 2))) (defScope (inClass (stm A 28) 2)) 3 [] .none .none .none (.str (s A 55) 391) none (.ref 209) .none 0)) #[])
def o_269 (A : AT) (P : Params) : Obj := (Obj.mk (.type (t A 2)) none (.seq #[] 0) #[])
def o_270 (A : AT) (P : Params) : Obj := (Obj.mk (.type (t A 5)) none (.dict #[(DictEntry.mk (keyHash P (s A 60)) (.str (s A 60) 420) (.str (s A 55) 391)), (DictEntry.mk (keyHash P (s A 62)) (.str (s A 62) 424) (.int 61 423)), (DictEntry.mk (keyHash P (s A 73)) (.str (s A 73) 432) (.ref 196)), (DictEntry.mk (keyHash P (s A 88)) (.str (s A 88) 442) (.ref 203)), (DictEntry.mk (keyHash P (s A 53)) (.str (s A 53) 452) (.ref 210)), (DictEntry.mk (keyHash P (s A 63)) (.str (s A 63) 453) (.ref 211)), (DictEntry.mk (keyHash P (s A 15)) (.str (s A 15) 454) .none)] 2) #[])
def o_271 (A : AT) (P : Params) : Obj := (Obj.mk (.type (t A 10)) none (.cls (ClassData.mk (s A 43) [(.ref 178)] [(.ref 213), (.ref 178), (.type (t A 14))] 212 (s A 43) true [] [] false none false)) #[(some (.ref 183)), none, (some (.str (s A 43) 413)), (some (.str (s A 43) 421)), (some (.builtin (t A 19))), (some (.bool true))])
def o_272 (A : AT) (P : Params) : Obj := (Obj.mk (.type (t A 16)) none (.fields #[(.ref 213), (.ref 213), (.ref 213)]) #[])
def o_273 (A : AT) (P : Params) : Obj := (Obj.mk (.type (t A 3)) none (.fields #[(.builtin (t A 4)), (.ref 213)]) #[])
def o_274 (A : AT) (P : Params) : Obj := (Obj.mk (.type (t A 5)) none (.dict #[(DictEntry.mk (keyHash P (s A 13)) (.str (s A 13) 165) (.str (s A 78) 457)), (DictEntry.mk (keyHash P (s A 15)) (.str (s A 15) 166) .none), (DictEntry.mk (keyHash P (s A 16)) (.str (s A 16) 167) .none), (DictEntry.mk (keyHash P (s A 17)) (.str (s A 17) 168) (.builtin (t A 6))), (DictEntry.mk (keyHash P (s A 18)) (.str (s A 18) 169) .none), (DictEntry.mk (keyHash P (s A 19)) (.str (s A 19) 170) (.ref 6)), (DictEntry.mk (keyHash P (s A 20)) (.str (s A 20) 171) (.ref 4)), (DictEntry.mk (keyHash P (s A 21)) (.str (s A 21) 173) (.str (s A 1) 172)), (DictEntry.mk (keyHash P (s A 22)) (.str (s A 22) 174) .none), (DictEntry.mk (keyHash P (s A 23)) (.str (s A 23) 193) (.ref 21)), (DictEntry.mk (keyHash P (s A 0)) (.str (s A 0) 213) (.ref 31)), (DictEntry.mk (keyHash P (s A 24)) (.str (s A 24) 229) (.ref 44)), (DictEntry.mk (keyHash P (s A 25)) (.str (s A 25) 245) (.ref 56)), (DictEntry.mk (keyHash P (s A 26)) (.str (s A 26) 261) (.ref 68)), (DictEntry.mk (keyHash P (s A 27)) (.str (s A 27) 277) (.ref 80)), (DictEntry.mk (keyHash P (s A 28)) (.str (s A 28) 303) (.ref 100)), (DictEntry.mk (keyHash P (s A 29)) (.str (s A 29) 312) (.ref 109)), (DictEntry.mk (keyHash P (s A 12)) (.str (s A 12) 321) (.ref 116)), (DictEntry.mk (keyHash P (s A 30)) (.str (s A 30) 329) (.ref 123)), (DictEntry.mk (keyHash P (s A 31)) (.str (s A 31) 333) (.int 60 332)), (DictEntry.mk (keyHash P (s A 32)) (.str (s A 32) 335) (.int 1440 334)), (DictEntry.mk (keyHash P (s A 33)) (.str (s A 33) 342) (.ref 130)), (DictEntry.mk (keyHash P (s A 34)) (.str (s A 34) 349) (.ref 137)), (DictEntry.mk (keyHash P (s A 35)) (.str (s A 35) 356) (.ref 144)), (DictEntry.mk (keyHash P (s A 36)) (.str (s A 36) 363) (.ref 151)), (DictEntry.mk (keyHash P (s A 37)) (.str (s A 37) 370) (.ref 158)), (DictEntry.mk (keyHash P (s A 38)) (.str (s A 38) 374) (.str (s A 39) 373)), (DictEntry.mk (keyHash P (s A 40)) (.str (s A 40) 376) (.int 8 375)), (DictEntry.mk (keyHash P (s A 41)) (.str (s A 41) 382) (.ref 163)), (DictEntry.mk (keyHash P (s A 6)) (.str (s A 6) 390) (.ref 168)), (DictEntry.mk (keyHash P (s A 42)) (.str (s A 42) 412) (.ref 178)), (DictEntry.mk (keyHash P (s A 43)) (.str (s A 43) 456) (.ref 213)), (DictEntry.mk (keyHash P (s A 44)) (.str (s A 44) 478) (.ref 225))] 33) #[])
def o_275 (A : AT) (P : Params) : Obj := (Obj.mk .none none (.fields #[(.int 1 0), (.int 0 0), (.ref 20), (.int 5 0), (.int 0 0), (.ref 27), (.int 7 0), (.int 0 0), (.ref 40), (.int 9 0), (.int 0 0), (.ref 52), (.int 11 0), (.int 0 0), (.ref 64), (.int 13 0), (.int 0 0), (.ref 76), (.int 15 0), (.int 0 0), (.ref 88), (.int 20 0), (.int 0 0), (.ref 108), (.int 22 0), (.int 0 0), (.ref 115), (.int 24 0), (.int 0 0), (.ref 122), (.int 29 0), (.int 0 0), (.ref 129), (.int 31 0), (.int 0 0), (.ref 136), (.int 37 0), (.int 0 0), (.ref 143), (.int 40 0), (.int 0 0), (.ref 150), (.int 43 0), (.int 0 0), (.ref 157), (.int 49 0), (.int 0 0), (.ref 162), (.int 54 0), (.int 0 0), (.ref 167), (.int 59 0), (.int 0 0), (.ref 174), (.int 61 0), (.int 0 0), (.ref 188), (.int 72 0), (.int 0 0), (.ref 221)]) #[])
def o_276 (A : AT) (P : Params) : Obj := (Obj.mk (.type (t A 2)) none (.seq #[] 0) #[])
def o_277 (A : AT) (P : Params) : Obj := (Obj.mk (.type (t A 3)) none (.fields #[(.builtin (t A 20)), (.type (t A 10))]) #[])
def o_278 (A : AT) (P : Params) : Obj := (Obj.mk (.type (t A 5)) none (.dict #[(DictEntry.mk (keyHash P (s A 60)) (.str (s A 60) 466) (.str (s A 78) 457)), (DictEntry.mk (keyHash P (s A 71)) (.str (s A 71) 468) (.str (s A 44) 467)), (DictEntry.mk (keyHash P (s A 62)) (.str (s A 62) 470) (.int 72 469)), (DictEntry.mk (keyHash P (s A 63)) (.str (s A 63) 471) (.ref 223))] 4) #[])
def o_279 (A : AT) (P : Params) : Obj := (Obj.mk (.type (t A 2)) none (.seq #[] 0) #[])
def o_280 (A : AT) (P : Params) : Obj := (Obj.mk .none none (.fields #[]) #[])
def o_281 (A : AT) (P : Params) : Obj := (Obj.mk (.type (t A 0)) none (.fields #[(.str (s A 44) 461), (.str (s A 44) 462), (.str (s A 1) 463), (.int 72 0), (.int 0 0), (.int 0 0), (.int 0 0), (.int 0 0), (.ref 219), (.bool false), (.int 181 0), (.ref 220), .none, .none, .none, .none, (.int 464 0), (.int 72 0), (.str (s A 1) 465)]) #[])
def o_282 (A : AT) (P : Params) : Obj := (Obj.mk (.type (t A 18)) none .plain #[(some (.ref 221)), (some (.ref 3)), (some (.ref 218)), none, (some (.str (s A 78) 457)), none, (some (.ref 0))])
def o_283 (A : AT) (P : Params) : Obj := (Obj.mk (.type (t A 2)) none (.seq #[] 0) #[])
def o_284 (A : AT) (P : Params) : Obj := (Obj.mk (.type (t A 5)) none (.dict #[(DictEntry.mk (keyHash P (s A 60)) (.str (s A 60) 466) (.str (s A 78) 457)), (DictEntry.mk (keyHash P (s A 62)) (.str (s A 62) 470) (.int 72 469)), (DictEntry.mk (keyHash P (s A 63)) (.str (s A 63) 471) (.ref 223)), (DictEntry.mk (keyHash P (s A 52)) (.str (s A 52) 473) (.ref 226)), (DictEntry.mk (keyHash P (s A 75)) (.str (s A 75) 475) (.ref 227)), (DictEntry.mk (keyHash P (s A 15)) (.str (s A 15) 476) .none)] 4) #[])
def o_285 (A : AT) (P : Params) : Obj := (Obj.mk (.type (t A 10)) none (.cls (ClassData.mk (s A 44) [(.type (t A 14))] [(.ref 225), (.type (t A 14))] 224 (s A 44) true [] [] false none false)) #[none, none, (some (.str (s A 44) 459)), (some (.str (s A 44) 467)), (some (.builtin (t A 19))), (some (.bool true))])
def o_286 (A : AT) (P : Params) : Obj := (Obj.mk (.type (t A 7)) none (.fields #[(.str (s A 52) 472), (.ref 225), (.builtin (t A 8)), (.builtin (t A 9))]) #[])
def o_287 (A : AT) (P : Params) : Obj := (Obj.mk (.type (t A 7)) none (.fields #[(.str (s A 75) 474), (.ref 225), (.builtin (t A 17)), .none]) #[])
def o_288 (A : AT) (P : Params) : Obj := (Obj.mk (.type (t A 16)) none (.fields #[(.ref 225), (.ref 225), (.ref 225)]) #[])
def o_289 (A : AT) (P : Params) : Obj := (Obj.mk (.type (t A 3)) none (.fields #[(.builtin (t A 4)), (.ref 225)]) #[])
def o_290 (A : AT) (P : Params) : Obj := (Obj.mk (.type (t A 5)) none (.dict #[(DictEntry.mk (keyHash P (s A 13)) (.str (s A 13) 165) (.str (s A 78) 457)), (DictEntry.mk (keyHash P (s A 15)) (.str (s A 15) 166) .none), (DictEntry.mk (keyHash P (s A 16)) (.str (s A 16) 167) .none), (DictEntry.mk (keyHash P (s A 17)) (.str (s A 17) 168) (.builtin (t A 6))), (DictEntry.mk (keyHash P (s A 18)) (.str (s A 18) 169) .none), (DictEntry.mk (keyHash P (s A 19)) (.str (s A 19) 170) (.ref 6)), (DictEntry.mk (keyHash P (s A 20)) (.str (s A 20) 171) (.ref 4)), (DictEntry.mk (keyHash P (s A 21)) (.str (s A 21) 173) (.str (s A 1) 172)), (DictEntry.mk (keyHash P (s A 22)) (.str (s A 22) 174) .none), (DictEntry.mk (keyHash P (s A 23)) (.str (s A 23) 193) (.ref 21)), (DictEntry.mk (keyHash P (s A 0)) (.str (s A 0) 213) (.ref 31)), (DictEntry.mk (keyHash P (s A 24)) (.str (s A 24) 229) (.ref 44)), (DictEntry.mk (keyHash P (s A 25)) (.str (s A 25) 245) (.ref 56)), (DictEntry.mk (keyHash P (s A 26)) (.str (s A 26) 261) (.ref 68)), (DictEntry.mk (keyHash P (s A 27)) (.str (s A 27) 277) (.ref 80)), (DictEntry.mk (keyHash P (s A 28)) (.str (s A 28) 303) (.ref 100)), (DictEntry.mk (keyHash P (s A 29)) (.str (s A 29) 312) (.ref 109)), (DictEntry.mk (keyHash P (s A 12)) (.str (s A 12) 321) (.ref 116)), (DictEntry.mk (keyHash P (s A 30)) (.str (s A 30) 329) (.ref 123)), (DictEntry.mk (keyHash P (s A 31)) (.str (s A 31) 333) (.int 60 332)), (DictEntry.mk (keyHash P (s A 32)) (.str (s A 32) 335) (.int 1440 334)), (DictEntry.mk (keyHash P (s A 33)) (.str (s A 33) 342) (.ref 130)), (DictEntry.mk (keyHash P (s A 34)) (.str (s A 34) 349) (.ref 137)), (DictEntry.mk (keyHash P (s A 35)) (.str (s A 35) 356) (.ref 144)), (DictEntry.mk (keyHash P (s A 36)) (.str (s A 36) 363) (.ref 151)), (DictEntry.mk (keyHash P (s A 37)) (.str (s A 37) 370) (.ref 158)), (DictEntry.mk (keyHash P (s A 38)) (.str (s A 38) 374) (.str (s A 39) 373)), (DictEntry.mk (keyHash P (s A 40)) (.str (s A 40) 376) (.int 8 375)), (DictEntry.mk (keyHash P (s A 41)) (.str (s A 41) 382) (.ref 163)), (DictEntry.mk (keyHash P (s A 6)) (.str (s A 6) 390) (.ref 168)), (DictEntry.mk (keyHash P (s A 42)) (.str (s A 42) 412) (.ref 178)), (DictEntry.mk (keyHash P (s A 43)) (.str (s A 43) 456) (.ref 213)), (DictEntry.mk (keyHash P (s A 44)) (.str (s A 44) 478) (.ref 225)), (DictEntry.mk (keyHash P (s A 45)) (.str (s A 45) 519) (.ref 260))] 34) #[])
def o_291 (A : AT) (P : Params) : Obj := (Obj.mk .none none (.fields #[(.int 1 0), (.int 0 0), (.ref 20), (.int 5 0), (.int 0 0), (.ref 27), (.int 7 0), (.int 0 0), (.ref 40), (.int 9 0), (.int 0 0), (.ref 52), (.int 11 0), (.int 0 0), (.ref 64), (.int 13 0), (.int 0 0), (.ref 76), (.int 15 0), (.int 0 0), (.ref 88), (.int 20 0), (.int 0 0), (.ref 108), (.int 22 0), (.int 0 0), (.ref 115), (.int 24 0), (.int 0 0), (.ref 122), (.int 29 0), (.int 0 0), (.ref 129), (.int 31 0), (.int 0 0), (.ref 136), (.int 37 0), (.int 0 0), (.ref 143), (.int 40 0), (.int 0 0), (.ref 150), (.int 43 0), (.int 0 0), (.ref 157), (.int 49 0), (.int 0 0), (.ref 162), (.int 54 0), (.int 0 0), (.ref 167), (.int 59 0), (.int 0 0), (.ref 174), (.int 61 0), (.int 0 0), (.ref 188), (.int 72 0), (.int 0 0), (.ref 221), (.int 74 0), (.int 0 0), (.ref 235)]) #[])
def o_292 (A : AT) (P : Params) : Obj := (Obj.mk (.type (t A 10)) none (.cls (ClassData.mk (s A 44) [(.type (t A 14))] [(.ref 225), (.type (t A 14))] 224 (s A 44) true [] [(.ref 260)] false none false)) #[none, none, (some (.str (s A 44) 459)), (some (.str (s A 44) 467)), (some (.builtin (t A 19))), (some (.bool true))])
def o_293 (A : AT) (P : Params) : Obj := (Obj.mk (.type (t A 2)) none (.seq #[(.ref 225)] 0) #[])
def o_294 (A : AT) (P : Params) : Obj := (Obj.mk (.type (t A 3)) none (.fields #[(.builtin (t A 20)), (.type (t A 10))]) #[])
def o_295 (A : AT) (P : Params) : Obj := (Obj.mk (.type (t A 5)) none (.dict #[(DictEntry.mk (keyHash P (s A 60)) (.str (s A 60) 486) (.str (s A 78) 457)), (DictEntry.mk (keyHash P (s A 71)) (.str (s A 71) 488) (.str (s A 45) 487)), (DictEntry.mk (keyHash P (s A 62)) (.str (s A 62) 490) (.int 74 489)), (DictEntry.mk (keyHash P (s A 56)) (.str (s A 56) 498) (.ref 243)), (DictEntry.mk (keyHash P (s A 84)) (.str (s A 84) 507) (.ref 250)), (DictEntry.mk (keyHash P (s A 82)) (.str (s A 82) 514) (.ref 257)), (DictEntry.mk (keyHash P (s A 63)) (.str (s A 63) 516) (.ref 258))] 7) #[])
def o_296 (A : AT) (P : Params) : Obj := (Obj.mk (.type (t A 2)) none (.seq #[] 0) #[])
def o_297 (A : AT) (P : Params) : Obj := (Obj.mk .none none (.fields #[(.int 76 0), (.int 4 0), (.ref 242), (.int 80 0), (.int 4 0), (.ref 249), (.int 83 0), (.int 4 0), (.ref 256)]) #[])
def o_298 (A : AT) (P : Params) : Obj := (Obj.mk (.type (t A 0)) none (.fields #[(.str (s A 45) 481), (.str (s A 45) 482), (.str (s A 1) 483), (.int 74 0), (.int 0 0), (.int 0 0), (.int 0 0), (.int 0 0), (.ref 233), (.bool false), (.int 181 0), (.ref 234), .none, .none, .none, .none, (.int 484 0), (.int 74 0), (.str (s A 1) 485)]) #[])
def o_299 (A : AT) (P : Params) : Obj := (Obj.mk (.type (t A 18)) none .plain #[(some (.ref 235)), (some (.ref 3)), (some (.ref 232)), none, (some (.str (s A 78) 457)), none, (some (.ref 0))])
def o_300 (A : AT) (P : Params) : Obj := (Obj.mk (.type (t A 2)) none (.seq #[] 0) #[])
def o_301 (A : AT) (P : Params) : Obj := (Obj.mk .none none (.fields #[]) #[])
def o_302 (A : AT) (P : Params) : Obj := (Obj.mk (.type (t A 2)) none (.seq #[(.str (s A 8) 494), (.str (s A 91) 495)] 0) #[])
def o_303 (A : AT) (P : Params) : Obj := (Obj.mk (.type (t A 2)) none (.seq #[] 0) #[])
def o_304 (A : AT) (P : Params) : Obj := (Obj.mk .none none (.func (FuncData.mk (s A 56) (s A 118) (defArgs (inClass (stm A 31) 0)) (FuncBody.stmts (defBody (inClass (stm A 31) 0))) (defScope (inClass (stm A 31) 0)) 0 [] .none .none .none .none none .none .none 0)) #[])
def o_305 (A : AT) (P : Params) : Obj := (Obj.mk (.type (t A 0)) none (.fields #[(.str (s A 56) 491), (.str (s A 118) 492), (.str (s A 1) 493), (.int 76 0), (.int 2 0), (.int 0 0), (.int 0 0), (.int 3 0), (.ref 237), (.bool true), (.int 181 0), (.ref 238), .none, (.ref 239), (.ref 240), (.ref 241), (.int 496 0), (.int 76 0), (.str (s A 1) 497)]) #[])
def o_306 (A : AT) (P : Params) : Obj := (Obj.mk (.type (t A 1)) none (.func (FuncData.mk (s A 56) (s A 118) (defArgs (inClass (stm A 31) 0)) (FuncBody.stmts (defBody (inClass (stm A 31) 0))) (defScope (inClass (stm A 31) 0)) 3 [] .none .none .none (.str (s A 78) 457) none (.ref 242) .none 0)) #[])
def o_307 (A : AT) (P : Params) : Obj := (Obj.mk (.type (t A 2)) none (.seq #[] 0) #[])
def o_308 (A : AT) (P : Params) : Obj := (Obj.mk .none none (.fields #[]) #[])
def o_309 (A : AT) (P : Params) : Obj := (Obj.mk (.type (t A 2)) none (.seq #[(.str (s A 8) 502), (.str (s A 122) 503), (.str (s A 69) 504)] 0) #[])
def o_310 (A : AT) (P : Params) : Obj := (Obj.mk (.type (t A 2)) none (.seq #[] 0) #[])
def o_311 (A : AT) (P : Params) : Obj := (Obj.mk .none none (.func (FuncData.mk (s A 84) (s A 124) (defArgs (inClass (stm A 31) 1)) (FuncBody.stmts (defBody (inClass (stm A 31) 1))) (defScope (inClass (stm A 31) 1)) 0 [] .none .none .none .none none .none .none 0)) #[])
def o_312 (A : AT) (P : Params) : Obj := (Obj.mk (.type (t A 0)) none (.fields #[(.str (s A 84) 499), (.str (s A 124) 500), (.str (s A 1) 501), (.int 80 0), (.int 3 0), (.int 0 0), (.int 0 0), (.int 3 0), (.ref 244), (.bool true), (.int 181 0), (.ref 245), .none, (.ref 246), (.ref 247), (.ref 248), (.int 505 0), (.int 80 0), (.str (s A 1) 506)]) #[])
def o_313 (A : AT) (P : Params) : Obj := (Obj.mk (.type (t A 1)) none (.func (FuncData.mk (s A 84) (s A 124) (defArgs (inClass (stm A 31) 1)) (FuncBody.stmts (defBody (inClass (stm A 31) 1))) (defScope (inClass (stm A 31) 1)) 3 [] .none .none .none (.str (s A 78) 457) none (.ref 249) .none 0)) #[])
def o_314 (A : AT) (P : Params) : Obj := (Obj.mk (.type (t A 2)) none (.seq #[] 0) #[])
def o_315 (A : AT) (P : Params) : Obj := (Obj.mk .none none (.fields #[]) #[])
def o_316 (A : AT) (P : Params) : Obj := (Obj.mk (.type (t A 2)) none (.seq #[(.str (s A 8) 511)] 0) #[])
def o_317 (A : AT) (P : Params) : Obj := (Obj.mk (.type (t A 2)) none (.seq #[] 0) #[])
def o_318 (A : AT) (P : Params) : Obj := (Obj.mk .none none (.func (FuncData.mk (s A 82) (s A 90) (defArgs (inClass (stm A 31) 2)) (FuncBody.stmts (defBody (inClass (stm A 31) 2))) (defScope (inClass (stm A 31) 2)) 0 [] .none .none .none .none none .none .none 0)) #[])
def o_319 (A : AT) (P : Params) : Obj := (Obj.mk (.type (t A 0)) none (.fields #[(.str (s A 82) 508), (.str (s A 90) 509), (.str (s A 1) 510), (.int 83 0), (.int 1 0), (.int 0 0), (.int 0 0), (.int 3 0), (.ref 251), (.bool true), (.int 181 0), (.ref 252), .none, (.ref 253), (.ref 254), (.ref 255), (.int 512 0), (.int 83 0), (.str (s A 1) 513)]) #[])
def o_320 (A : AT) (P : Params) : Obj := (Obj.mk (.type (t A 1)) none (.func (FuncData.mk (s A 82) (s A 90) (defArgs (inClass (stm A 31) 2)) (FuncBody.stmts (defBody (inClass (stm A 31) 2))) (defScope (inClass (stm A 31) 2)) 3 [] .none .none .none (.str (s A 78) 457) none (.ref 256) .none 0)) #[])
def o_321 (A : AT) (P : Params) : Obj := (Obj.mk (.type (t A 2)) none (.seq #[(.str (s A 91) 515)] 0) #[])
def o_322 (A : AT) (P : Params) : Obj := (Obj.mk (.type (t A 5)) none (.dict #[(DictEntry.mk (keyHash P (s A 60)) (.str (s A 60) 486) (.str (s A 78) 457)), (DictEntry.mk (keyHash P (s A 62)) (.str (s A 62) 490) (.int 74 489)), (DictEntry.mk (keyHash P (s A 56)) (.str (s A 56) 498) (.ref 243)), (DictEntry.mk (keyHash P (s A 84)) (.str (s A 84) 507) (.ref 250)), (DictEntry.mk (keyHash P (s A 82)) (.str (s A 82) 514) (.ref 257)), (DictEntry.mk (keyHash P (s A 63)) (.str (s A 63) 516) (.ref 258)), (DictEntry.mk (keyHash P (s A 15)) (.str (s A 15) 517) .none)] 2) #[])
def o_323 (A : AT) (P : Params) : Obj := (Obj.mk (.type (t A 10)) none (.cls (ClassData.mk (s A 45) [(.ref 225)] [(.ref 260), (.ref 225), (.type (t A 14))] 259 (s A 45) true [] [] false none false)) #[(some (.ref 230)), none, (some (.str (s A 45) 479)), (some (.str (s A 45) 487)), (some (.builtin (t A 19))), (some (.bool true))])
def o_324 (A : AT) (P : Params) : Obj := (Obj.mk (.type (t A 16)) none (.fields #[(.ref 260), (.ref 260), (.ref 260)]) #[])
def o_325 (A : AT) (P : Params) : Obj := (Obj.mk (.type (t A 3)) none (.fields #[(.builtin (t A 4)), (.ref 260)]) #[])
def o_326 (A : AT) (P : Params) : Obj := (Obj.mk (.type (t A 5)) none (.dict #[(DictEntry.mk (keyHash P (s A 13)) (.str (s A 13) 165) (.str (s A 14) 552)), (DictEntry.mk (keyHash P (s A 15)) (.str (s A 15) 166) .none), (DictEntry.mk (keyHash P (s A 16)) (.str (s A 16) 167) .none), (DictEntry.mk (keyHash P (s A 17)) (.str (s A 17) 168) (.builtin (t A 6))), (DictEntry.mk (keyHash P (s A 18)) (.str (s A 18) 169) .none), (DictEntry.mk (keyHash P (s A 19)) (.str (s A 19) 170) (.ref 6)), (DictEntry.mk (keyHash P (s A 20)) (.str (s A 20) 171) (.ref 4)), (DictEntry.mk (keyHash P (s A 21)) (.str (s A 21) 173) (.str (s A 1) 172)), (DictEntry.mk (keyHash P (s A 22)) (.str (s A 22) 174) .none), (DictEntry.mk (keyHash P (s A 23)) (.str (s A 23) 193) (.ref 21)), (DictEntry.mk (keyHash P (s A 0)) (.str (s A 0) 213) (.ref 31)), (DictEntry.mk (keyHash P (s A 24)) (.str (s A 24) 229) (.ref 44)), (DictEntry.mk (keyHash P (s A 25)) (.str (s A 25) 245) (.ref 56)), (DictEntry.mk (keyHash P (s A 26)) (.str (s A 26) 261) (.ref 68)), (DictEntry.mk (keyHash P (s A 27)) (.str (s A 27) 277) (.ref 80)), (DictEntry.mk (keyHash P (s A 28)) (.str (s A 28) 303) (.ref 100)), (DictEntry.mk (keyHash P (s A 29)) (.str (s A 29) 312) (.ref 109)), (DictEntry.mk (keyHash P (s A 12)) (.str (s A 12) 321) (.ref 116)), (DictEntry.mk (keyHash P (s A 30)) (.str (s A 30) 329) (.ref 123)), (DictEntry.mk (keyHash P (s A 31)) (.str (s A 31) 333) (.int 60 332)), (DictEntry.mk (keyHash P (s A 32)) (.str (s A 32) 335) (.int 1440 334)), (DictEntry.mk (keyHash P (s A 33)) (.str (s A 33) 342) (.ref 130)), (DictEntry.mk (keyHash P (s A 34)) (.str (s A 34) 349) (.ref 137)), (DictEntry.mk (keyHash P (s A 35)) (.str (s A 35) 356) (.ref 144)), (DictEntry.mk (keyHash P (s A 36)) (.str (s A 36) 363) (.ref 151)), (DictEntry.mk (keyHash P (s A 37)) (.str (s A 37) 370) (.ref 158)), (DictEntry.mk (keyHash P (s A 38)) (.str (s A 38) 374) (.str (s A 39) 373)), (DictEntry.mk (keyHash P (s A 40)) (.str (s A 40) 376) (.int 8 375)), (DictEntry.mk (keyHash P (s A 41)) (.str (s A 41) 382) (.ref 163)), (DictEntry.mk (keyHash P (s A 6)) (.str (s A 6) 390) (.ref 168)), (DictEntry.mk (keyHash P (s A 42)) (.str (s A 42) 412) (.ref 178)), (DictEntry.mk (keyHash P (s A 43)) (.str (s A 43) 456) (.ref 213)), (DictEntry.mk (keyHash P (s A 44)) (.str (s A 44) 478) (.ref 225)), (DictEntry.mk (keyHash P (s A 45)) (.str (s A 45) 519) (.ref 260)), (DictEntry.mk (keyHash P (s A 46)) (.str (s A 46) 551) (.ref 286))] 35) #[])
def o_327 (A : AT) (P : Params) : Obj := (Obj.mk .none none (.fields #[(.int 1 0), (.int 0 0), (.ref 20), (.int 5 0), (.int 0 0), (.ref 27), (.int 7 0), (.int 0 0), (.ref 40), (.int 9 0), (.int 0 0), (.ref 52), (.int 11 0), (.int 0 0), (.ref 64), (.int 13 0), (.int 0 0), (.ref 76), (.int 15 0), (.int 0 0), (.ref 88), (.int 20 0), (.int 0 0), (.ref 108), (.int 22 0), (.int 0 0), (.ref 115), (.int 24 0), (.int 0 0), (.ref 122), (.int 29 0), (.int 0 0), (.ref 129), (.int 31 0), (.int 0 0), (.ref 136), (.int 37 0), (.int 0 0), (.ref 143), (.int 40 0), (.int 0 0), (.ref 150), (.int 43 0), (.int 0 0), (.ref 157), (.int 49 0), (.int 0 0), (.ref 162), (.int 54 0), (.int 0 0), (.ref 167), (.int 59 0), (.int 0 0), (.ref 174), (.int 61 0), (.int 0 0), (.ref 188), (.int 72 0), (.int 0 0), (.ref 221), (.int 74 0), (.int 0 0), (.ref 235), (.int 85 0), (.int 0 0), (.ref 268)]) #[])
def o_328 (A : AT) (P : Params) : Obj := (Obj.mk (.type (t A 10)) none (.cls (ClassData.mk (s A 44) [(.type (t A 14))] [(.ref 225), (.type (t A 14))] 224 (s A 44) true [] [(.ref 260), (.ref 286)] false none false)) #[none, none, (some (.str (s A 44) 459)), (some (.str (s A 44) 467)), (some (.builtin (t A 19))), (some (.bool true))])
def o_329 (A : AT) (P : Params) : Obj := (Obj.mk (.type (t A 2)) none (.seq #[(.ref 225)] 0) #[])
def o_330 (A : AT) (P : Params) : Obj := (Obj.mk (.type (t A 3)) none (.fields #[(.builtin (t A 20)), (.type (t A 10))]) #[])
def o_331 (A : AT) (P : Params) : Obj := (Obj.mk (.type (t A 5)) none (.dict #[(DictEntry.mk (keyHash P (s A 60)) (.str (s A 60) 527) (.str (s A 78) 457)), (DictEntry.mk (keyHash P (s A 71)) (.str (s A 71) 529) (.str (s A 46) 528)), (DictEntry.mk (keyHash P (s A 62)) (.str (s A 62) 531) (.int 85 530)), (DictEntry.mk (keyHash P (s A 84)) (.str (s A 84) 540) (.ref 276)), (DictEntry.mk (keyHash P (s A 82)) (.str (s A 82) 547) (.ref 283)), (DictEntry.mk (keyHash P (s A 63)) (.str (s A 63) 548) (.ref 284))] 6) #[])
def o_332 (A : AT) (P : Params) : Obj := (Obj.mk (.type (t A 2)) none (.seq #[] 0) #[])
def o_333 (A : AT) (P : Params) : Obj := (Obj.mk .none none (.fields #[(.int 87 0), (.int 4 0), (.ref 275), (.int 90 0), (.int 4 0), (.ref 282)]) #[])
def o_334 (A : AT) (P : Params) : Obj := (Obj.mk (.type (t A 0)) none (.fields #[(.str (s A 46) 522), (.str (s A 46) 523), (.str (s A 1) 524), (.int 85 0), (.int 0 0), (.int 0 0), (.int 0 0), (.int 0 0), (.ref 266), (.bool false), (.int 181 0), (.ref 267), .none, .none, .none, .none, (.int 525 0), (.int 85 0), (.str (s A 1) 526)]) #[])
def o_335 (A : AT) (P : Params) : Obj := (Obj.mk (.type (t A 18)) none .plain #[(some (.ref 268)), (some (.ref 3)), (some (.ref 265)), none, (some (.str (s A 78) 457)), none, (some (.ref 0))])
def o_336 (A : AT) (P : Params) : Obj := (Obj.mk (.type (t A 2)) none (.seq #[] 0) #[])
def o_337 (A : AT) (P : Params) : Obj := (Obj.mk .none none (.fields #[]) #[])
def o_338 (A : AT) (P : Params) : Obj := (Obj.mk (.type (t A 2)) none (.seq #[(.str (s A 8) 535), (.str (s A 122) 536), (.str (s A 69) 537)] 0) #[])
def o_339 (A : AT) (P : Params) : Obj := (Obj.mk (.type (t A 2)) none (.seq #[] 0) #[])
def o_340 (A : AT) (P : Params) : Obj := (Obj.mk .none none (.func (FuncData.mk (s A 84) (s A 96) (defArgs (inClass (stm A 32) 0)) (FuncBody.stmts (defBody (inClass (stm A 32) 0))) (defScope (inClass (stm A 32) 0)) 0 [] .none .none .none .none none .none .none 0)) #[])
def o_341 (A : AT) (P : Params) : Obj := (Obj.mk (.type (t A 0)) none (.fields #[(.str (s A 84) 532), (.str (s A 96) 533), (.str (s A 1) 534), (.int 87 0), (.int 3 0), (.int 0 0), (.int 0 0), (.int 3 0), (.ref 270), (.bool true), (.int 181 0), (.ref 271), .none, (.ref 272), (.ref 273), (.ref 274), (.int 538 0), (.int 87 0), (.str (s A 1) 539)]) #[])
def o_342 (A : AT) (P : Params) : Obj := (Obj.mk (.type (t A 1)) none (.func (FuncData.mk (s A 84) (s A 96) (defArgs (inClass (stm A 32) 0)) (FuncBody.stmts (defBody (inClass (stm A 32) 0))) (defScope (inClass (stm A 32) 0)) 3 [] .none .none .none (.str (s A 78) 457) none (.ref 275) .none 0)) #[])
def o_343 (A : AT) (P : Params) : Obj := (Obj.mk (.type (t A 2)) none (.seq #[] 0) #[])
def o_344 (A : AT) (P : Params) : Obj := (Obj.mk .none none (.fields #[]) #[])
def o_345 (A : AT) (P : Params) : Obj := (Obj.mk (.type (t A 2)) none (.seq #[(.str (s A 8) 544)] 0) #[])
def o_346 (A : AT) (P : Params) : Obj := (Obj.mk (.type (t A 2)) none (.seq #[] 0) #[])
def o_347 (A : AT) (P : Params) : Obj := (Obj.mk .none none (.func (FuncData.mk (s A 82) (s A 83) (defArgs (inClass (stm A 32) 1)) (FuncBody.stmts (defBody (inClass (stm A 32) 1))) (defScope (inClass (stm A 32) 1)) 0 [] .none .none .none .none none .none .none 0)) #[])
def o_348 (A : AT) (P : Params) : Obj := (Obj.mk (.type (t A 0)) none (.fields #[(.str (s A 82) 541), (.str (s A 83) 542), (.str (s A 1) 543), (.int 90 0), (.int 1 0), (.int 0 0), (.int 0 0), (.int 3 0), (.ref 277), (.bool true), (.int 181 0), (.ref 278), .none, (.ref 279), (.ref 280), (.ref 281), (.int 545 0), (.int 90 0), (.str (s A 1) 546)]) #[])
def o_349 (A : AT) (P : Params) : Obj := (Obj.mk (.type (t A 1)) none (.func (FuncData.mk (s A 82) (s A 83) (defArgs (inClass (stm A 32) 1)) (FuncBody.stmts (defBody (inClass (stm A 32) 1))) (defScope (inClass (stm A 32) 1)) 3 [] .none .none .none (.str (s A 78) 457) none (.ref 282) .none 0)) #[])
def o_350 (A : AT) (P : Params) : Obj := (Obj.mk (.type (t A 2)) none (.seq #[] 0) #[])
def o_351 (A : AT) (P : Params) : Obj := (Obj.mk (.type (t A 5)) none (.dict #[(DictEntry.mk (keyHash P (s A 60)) (.str (s A 60) 527) (.str (s A 78) 457)), (DictEntry.mk (keyHash P (s A 62)) (.str (s A 62) 531) (.int 85 530)), (DictEntry.mk (keyHash P (s A 84)) (.str (s A 84) 540) (.ref 276)), (DictEntry.mk (keyHash P (s A 82)) (.str (s A 82) 547) (.ref 283)), (DictEntry.mk (keyHash P (s A 63)) (.str (s A 63) 548) (.ref 284)), (DictEntry.mk (keyHash P (s A 15)) (.str (s A 15) 549) .none)] 2) #[])
def o_352 (A : AT) (P : Params) : Obj := (Obj.mk (.type (t A 10)) none (.cls (ClassData.mk (s A 46) [(.ref 225)] [(.ref 286), (.ref 225), (.type (t A 14))] 285 (s A 46) true [] [] false none false)) #[(some (.ref 263)), none, (some (.str (s A 46) 520)), (some (.str (s A 46) 528)), (some (.builtin (t A 19))), (some (.bool true))])
def o_353 (A : AT) (P : Params) : Obj := (Obj.mk (.type (t A 16)) none (.fields #[(.ref 286), (.ref 286), (.ref 286)]) #[])
def o_354 (A : AT) (P : Params) : Obj := (Obj.mk (.type (t A 3)) none (.fields #[(.builtin (t A 4)), (.ref 286)]) #[])
def o_355 (A : AT) (P : Params) : Obj := (Obj.mk (.type (t A 5)) none (.dict #[(DictEntry.mk (keyHash P (s A 13)) (.str (s A 13) 165) (.str (s A 14) 552)), (DictEntry.mk (keyHash P (s A 15)) (.str (s A 15) 166) .none), (DictEntry.mk (keyHash P (s A 16)) (.str (s A 16) 167) .none), (DictEntry.mk (keyHash P (s A 17)) (.str (s A 17) 168) (.builtin (t A 6))), (DictEntry.mk (keyHash P (s A 18)) (.str (s A 18) 169) .none), (DictEntry.mk (keyHash P (s A 19)) (.str (s A 19) 170) (.ref 6)), (DictEntry.mk (keyHash P (s A 20)) (.str (s A 20) 171) (.ref 4)), (DictEntry.mk (keyHash P (s A 21)) (.str (s A 21) 173) (.str (s A 1) 172)), (DictEntry.mk (keyHash P (s A 22)) (.str (s A 22) 174) .none), (DictEntry.mk (keyHash P (s A 23)) (.str (s A 23) 193) (.ref 21)), (DictEntry.mk (keyHash P (s A 0)) (.str (s A 0) 213) (.ref 31)), (DictEntry.mk (keyHash P (s A 24)) (.str (s A 24) 229) (.ref 44)), (DictEntry.mk (keyHash P (s A 25)) (.str (s A 25) 245) (.ref 56)), (DictEntry.mk (keyHash P (s A 26)) (.str (s A 26) 261) (.ref 68)), (DictEntry.mk (keyHash P (s A 27)) (.str (s A 27) 277) (.ref 80)), (DictEntry.mk (keyHash P (s A 28)) (.str (s A 28) 303) (.ref 100)), (DictEntry.mk (keyHash P (s A 29)) (.str (s A 29) 312) (.ref 109)), (DictEntry.mk (keyHash P (s A 12)) (.str (s A 12) 321) (.ref 116)), (DictEntry.mk (keyHash P (s A 30)) (.str (s A 30) 329) (.ref 123)), (DictEntry.mk (keyHash P (s A 31)) (.str (s A 31) 333) (.int 60 332)), (DictEntry.mk (keyHash P (s A 32)) (.str (s A 32) 335) (.int 1440 334)), (DictEntry.mk (keyHash P (s A 33)) (.str (s A 33) 342) (.ref 130)), (DictEntry.mk (keyHash P (s A 34)) (.str (s A 34) 349) (.ref 137)), (DictEntry.mk (keyHash P (s A 35)) (.str (s A 35) 356) (.ref 144)), (DictEntry.mk (keyHash P (s A 36)) (.str (s A 36) 363) (.ref 151)), (DictEntry.mk (keyHash P (s A 37)) (.str (s A 37) 370) (.ref 158)), (DictEntry.mk (keyHash P (s A 38)) (.str (s A 38) 374) (.str (s A 39) 373)), (DictEntry.mk (keyHash P (s A 40)) (.str (s A 40) 376) (.int 8 375)), (DictEntry.mk (keyHash P (s A 41)) (.str (s A 41) 382) (.ref 163)), (DictEntry.mk (keyHash P (s A 6)) (.str (s A 6) 390) (.ref 168)), (DictEntry.mk (keyHash P (s A 42)) (.str (s A 42) 412) (.ref 178)), (DictEntry.mk (keyHash P (s A 43)) (.str (s A 43) 456) (.ref 213)), (DictEntry.mk (keyHash P (s A 44)) (.str (s A 44) 478) (.ref 225)), (DictEntry.mk (keyHash P (s A 45)) (.str (s A 45) 519) (.ref 260)), (DictEntry.mk (keyHash P (s A 46)) (.str (s A 46) 551) (.ref 286)), (DictEntry.mk (keyHash P (s A 47)) (.str (s A 47) 586) (.ref 306))] 36) #[])
def o_356 (A : AT) (P : Params) : Obj := (Obj.mk .none none (.fields #[(.int 1 0), (.int 0 0), (.ref 20), (.int 5 0), (.int 0 0), (.ref 27), (.int 7 0), (.int 0 0), (.ref 40), (.int 9 0), (.int 0 0), (.ref 52), (.int 11 0), (.int 0 0), (.ref 64), (.int 13 0), (.int 0 0), (.ref 76), (.int 15 0), (.int 0 0), (.ref 88), (.int 20 0), (.int 0 0), (.ref 108), (.int 22 0), (.int 0 0), (.ref 115), (.int 24 0), (.int 0 0), (.ref 122), (.int 29 0), (.int 0 0), (.ref 129), (.int 31 0), (.int 0 0), (.ref 136), (.int 37 0), (.int 0 0), (.ref 143), (.int 40 0), (.int 0 0), (.ref 150), (.int 43 0), (.int 0 0), (.ref 157), (.int 49 0), (.int 0 0), (.ref 162), (.int 54 0), (.int 0 0), (.ref 167), (.int 59 0), (.int 0 0), (.ref 174), (.int 61 0), (.int 0 0), (.ref 188), (.int 72 0), (.int 0 0), (.ref 221), (.int 74 0), (.int 0 0), (.ref 235), (.int 85 0), (.int 0 0), (.ref 268), (.int 93 0), (.int 0 0), (.ref 294)]) #[])
def o_357 (A : AT) (P : Params) : Obj := (Obj.mk (.type (t A 2)) none (.seq #[] 0) #[])
def o_358 (A : AT) (P : Params) : Obj := (Obj.mk (.type (t A 3)) none (.fields #[(.builtin (t A 20)), (.type (t A 10))]) #[])
def o_359 (A : AT) (P : Params) : Obj := (Obj.mk (.type (t A 5)) none (.dict #[(DictEntry.mk (keyHash P (s A 60)) (.str (s A 60) 561) (.str (s A 14) 552)), (DictEntry.mk (keyHash P (s A 71)) (.str (s A 71) 563) (.str (s A 47) 562)), (DictEntry.mk (keyHash P (s A 62)) (.str (s A 62) 565) (.int 93 564)), (DictEntry.mk (keyHash P (s A 56)) (.str (s A 56) 575) (.ref 303)), (DictEntry.mk (keyHash P (s A 63)) (.str (s A 63) 579) (.ref 304))] 5) #[])
def o_360 (A : AT) (P : Params) : Obj := (Obj.mk (.type (t A 2)) none (.seq #[] 0) #[])
def o_361 (A : AT) (P : Params) : Obj := (Obj.mk .none none (.fields #[(.int 95 0), (.int 4 0), (.ref 302)]) #[])
def o_362 (A : AT) (P : Params) : Obj := (Obj.mk (.type (t A 0)) none (.fields #[(.str (s A 47) 556), (.str (s A 47) 557), (.str (s A 1) 558), (.int 93 0), (.int 0 0), (.int 0 0), (.int 0 0), (.int 0 0), (.ref 292), (.bool false), (.int 181 0), (.ref 293), .none, .none, .none, .none, (.int 559 0), (.int 93 0), (.str (s A 1) 560)]) #[])
def o_363 (A : AT) (P : Params) : Obj := (Obj.mk (.type (t A 18)) none .plain #[(some (.ref 294)), (some (.ref 3)), (some (.ref 291)), none, (some (.str (s A 14) 552)), none, (some (.ref 0))])
def o_364 (A : AT) (P : Params) : Obj := (Obj.mk (.type (t A 2)) none (.seq #[.none] 0) #[])
def o_365 (A : AT) (P : Params) : Obj := (Obj.mk (.type (t A 2)) none (.seq #[] 0) #[])
def o_366 (A : AT) (P : Params) : Obj := (Obj.mk .none none (.fields #[]) #[])
def o_367 (A : AT) (P : Params) : Obj := (Obj.mk (.type (t A 2)) none (.seq #[(.str (s A 8) 569), (.str (s A 99) 570), (.str (s A 100) 571), (.str (s A 101) 572)] 0) #[])
def o_368 (A : AT) (P : Params) : Obj := (Obj.mk (.type (t A 2)) none (.seq #[] 0) #[])
def o_369 (A : AT) (P : Params) : Obj := (Obj.mk .none none (.func (FuncData.mk (s A 56) (s A 95) (defArgs (inClass (stm A 34) 0)) (FuncBody.stmts (defBody (inClass (stm A 34) 0))) (defScope (inClass (stm A 34) 0)) 0 [] .none .none .none .none none .none .none 0)) #[])
def o_370 (A : AT) (P : Params) : Obj := (Obj.mk (.type (t A 0)) none (.fields #[(.str (s A 56) 566), (.str (s A 95) 567), (.str (s A 1) 568), (.int 95 0), (.int 4 0), (.int 0 0), (.int 0 0), (.int 3 0), (.ref 297), (.bool true), (.int 181 0), (.ref 298), .none, (.ref 299), (.ref 300), (.ref 301), (.int 573 0), (.int 95 0), (.str (s A 1) 574)]) #[])
def o_371 (A : AT) (P : Params) : Obj := (Obj.mk (.type (t A 1)) none (.func (FuncData.mk (s A 56) (s A 95) (defArgs (inClass (stm A 34) 0)) (FuncBody.stmts (defBody (inClass (stm A 34) 0))) (defScope (inClass (stm A 34) 0)) 3 [] (.ref 296) .none .none (.str (s A 14) 552) none (.ref 302) .none 0)) #[])
def o_372 (A : AT) (P : Params) : Obj := (Obj.mk (.type (t A 2)) none (.seq #[(.str (s A 99) 576), (.str (s A 100) 577), (.str (s A 101) 578)] 0) #[])
def o_373 (A : AT) (P : Params) : Obj := (Obj.mk (.type (t A 5)) none (.dict #[(DictEntry.mk (keyHash P (s A 60)) (.str (s A 60) 561) (.str (s A 14) 552)), (DictEntry.mk (keyHash P (s A 62)) (.str (s A 62) 565) (.int 93 564)), (DictEntry.mk (keyHash P (s A 56)) (.str (s A 56) 575) (.ref 303)), (DictEntry.mk (keyHash P (s A 63)) (.str (s A 63) 579) (.ref 304)), (DictEntry.mk (keyHash P (s A 52)) (.str (s A 52) 581) (.ref 307)), (DictEntry.mk (keyHash P (s A 75)) (.str (s A 75) 583) (.ref 308)), (DictEntry.mk (keyHash P (s A 15)) (.str (s A 15) 584) .none)] 4) #[])
def o_374 (A : AT) (P : Params) : Obj := (Obj.mk (.type (t A 10)) none (.cls (ClassData.mk (s A 47) [(.type (t A 14))] [(.ref 306), (.type (t A 14))] 305 (s A 47) true [] [] false none false)) #[none, none, (some (.str (s A 47) 554)), (some (.str (s A 47) 562)), (some (.builtin (t A 19))), (some (.bool true))])
def o_375 (A : AT) (P : Params) : Obj := (Obj.mk (.type (t A 7)) none (.fields #[(.str (s A 52) 580), (.ref 306), (.builtin (t A 8)), (.builtin (t A 9))]) #[])
def o_376 (A : AT) (P : Params) : Obj := (Obj.mk (.type (t A 7)) none (.fields #[(.str (s A 75) 582), (.ref 306), (.builtin (t A 17)), .none]) #[])
def o_377 (A : AT) (P : Params) : Obj := (Obj.mk (.type (t A 16)) none (.fields #[(.ref 306), (.ref 306), (.ref 306)]) #[])
def o_378 (A : AT) (P : Params) : Obj := (Obj.mk (.type (t A 3)) none (.fields #[(.builtin (t A 4)), (.ref 306)]) #[])
def o_379 (A : AT) (P : Params) : Obj := (Obj.mk (.type (t A 5)) none (.dict #[(DictEntry.mk (keyHash P (s A 13)) (.str (s A 13) 165) (.str (s A 14) 552)), (DictEntry.mk (keyHash P (s A 15)) (.str (s A 15) 166) .none), (DictEntry.mk (keyHash P (s A 16)) (.str (s A 16) 167) .none), (DictEntry.mk (keyHash P (s A 17)) (.str (s A 17) 168) (.builtin (t A 6))), (DictEntry.mk (keyHash P (s A 18)) (.str (s A 18) 169) .none), (DictEntry.mk (keyHash P (s A 19)) (.str (s A 19) 170) (.ref 6)), (DictEntry.mk (keyHash P (s A 20)) (.str (s A 20) 171) (.ref 4)), (DictEntry.mk (keyHash P (s A 21)) (.str (s A 21) 173) (.str (s A 1) 172)), (DictEntry.mk (keyHash P (s A 22)) (.str (s A 22) 174) .none), (DictEntry.mk (keyHash P (s A 23)) (.str (s A 23) 193) (.ref 21)), (DictEntry.mk (keyHash P (s A 0)) (.str (s A 0) 213) (.ref 31)), (DictEntry.mk (keyHash P (s A 24)) (.str (s A 24) 229) (.ref 44)), (DictEntry.mk (keyHash P (s A 25)) (.str (s A 25) 245) (.ref 56)), (DictEntry.mk (keyHash P (s A 26)) (.str (s A 26) 261) (.ref 68)), (DictEntry.mk (keyHash P (s A 27)) (.str (s A 27) 277) (.ref 80)), (DictEntry.mk (keyHash P (s A 28)) (.str (s A 28) 303) (.ref 100)), (DictEntry.mk (keyHash P (s A 29)) (.str (s A 29) 312) (.ref 109)), (DictEntry.mk (keyHash P (s A 12)) (.str (s A 12) 321) (.ref 116)), (DictEntry.mk (keyHash P (s A 30)) (.str (s A 30) 329) (.ref 123)), (DictEntry.mk (keyHash P (s A 31)) (.str (s A 31) 333) (.int 60 332)), (DictEntry.mk (keyHash P (s A 32)) (.str (s A 32) 335) (.int 1440 334)), (DictEntry.mk (keyHash P (s A 33)) (.str (s A 33) 342) (.ref 130)), (DictEntry.mk (keyHash P (s A 34)) (.str (s A 34) 349) (.ref 137)), (DictEntry.mk (keyHash P (s A 35)) (.str (s A 35) 356) (.ref 144)), (DictEntry.mk (keyHash P (s A 36)) (.str (s A 36) 363) (.ref 151)), (DictEntry.mk (keyHash P (s A 37)) (.str (s A 37) 370) (.ref 158)), (DictEntry.mk (keyHash P (s A 38)) (.str (s A 38) 374) (.str (s A 39) 373)), (DictEntry.mk (keyHash P (s A 40)) (.str (s A 40) 376) (.int 8 375)), (DictEntry.mk (keyHash P (s A 41)) (.str (s A 41) 382) (.ref 163)), (DictEntry.mk (keyHash P (s A 6)) (.str (s A 6) 390) (.ref 168)), (DictEntry.mk (keyHash P (s A 42)) (.str (s A 42) 412) (.ref 178)), (DictEntry.mk (keyHash P (s A 43)) (.str (s A 43) 456) (.ref 213)), (DictEntry.mk (keyHash P (s A 44)) (.str (s A 44) 478) (.ref 225)), (DictEntry.mk (keyHash P (s A 45)) (.str (s A 45) 519) (.ref 260)), (DictEntry.mk (keyHash P (s A 46)) (.str (s A 46) 551) (.ref 286)), (DictEntry.mk (keyHash P (s A 47)) (.str (s A 47) 586) (.ref 306)), (DictEntry.mk (keyHash P (s A 48)) (.str (s A 48) 623) (.ref 328)), (DictEntry.mk (keyHash P (s A 49)) (.str (s A 49) 633) (.ref 339))] 38) #[])
def o_380 (A : AT) (P : Params) : Obj := (Obj.mk .none none (.fields #[(.int 1 0), (.int 0 0), (.ref 20), (.int 5 0), (.int 0 0), (.ref 27), (.int 7 0), (.int 0 0), (.ref 40), (.int 9 0), (.int 0 0), (.ref 52), (.int 11 0), (.int 0 0), (.ref 64), (.int 13 0), (.int 0 0), (.ref 76), (.int 15 0), (.int 0 0), (.ref 88), (.int 20 0), (.int 0 0), (.ref 108), (.int 22 0), (.int 0 0), (.ref 115), (.int 24 0), (.int 0 0), (.ref 122), (.int 29 0), (.int 0 0), (.ref 129), (.int 31 0), (.int 0 0), (.ref 136), (.int 37 0), (.int 0 0), (.ref 143), (.int 40 0), (.int 0 0), (.ref 150), (.int 43 0), (.int 0 0), (.ref 157), (.int 49 0), (.int 0 0), (.ref 162), (.int 54 0), (.int 0 0), (.ref 167), (.int 59 0), (.int 0 0), (.ref 174), (.int 61 0), (.int 0 0), (.ref 188), (.int 72 0), (.int 0 0), (.ref 221), (.int 74 0), (.int 0 0), (.ref 235), (.int 85 0), (.int 0 0), (.ref 268), (.int 93 0), (.int 0 0), (.ref 294), (.int 105 0), (.int 0 0), (.ref 316), (.int 124 0), (.int 0 0), (.ref 338)]) #[])
def o_381 (A : AT) (P : Params) : Obj := (Obj.mk (.type (t A 2)) none (.seq #[] 0) #[])
def o_382 (A : AT) (P : Params) : Obj := (Obj.mk (.type (t A 3)) none (.fields #[(.builtin (t A 20)), (.type (t A 10))]) #[])
def o_383 (A : AT) (P : Params) : Obj := (Obj.mk (.type (t A 5)) none (.dict #[(DictEntry.mk (keyHash P (s A 60)) (.str (s A 60) 594) (.str (s A 14) 552)), (DictEntry.mk (keyHash P (s A 71)) (.str (s A 71) 596) (.str (s A 48) 595)), (DictEntry.mk (keyHash P (s A 62)) (.str (s A 62) 598) (.int 105 597)), (DictEntry.mk (keyHash P (s A 56)) (.str (s A 56) 610) (.ref 325)), (DictEntry.mk (keyHash P (s A 63)) (.str (s A 63) 616) (.ref 326))] 5) #[])
def o_384 (A : AT) (P : Params) : Obj := (Obj.mk (.type (t A 2)) none (.seq #[] 0) #[])
def o_385 (A : AT) (P : Params) : Obj := (Obj.mk .none none (.fields #[(.int 107 0), (.int 4 0), (.ref 324)]) #[])
def o_386 (A : AT) (P : Params) : Obj := (Obj.mk (.type (t A 0)) none (.fields #[(.str (s A 48) 589), (.str (s A 48) 590), (.str (s A 1) 591), (.int 105 0), (.int 0 0), (.int 0 0), (.int 0 0), (.int 0 0), (.ref 314), (.bool false), (.int 181 0), (.ref 315), .none, .none, .none, .none, (.int 592 0), (.int 105 0), (.str (s A 1) 593)]) #[])
def o_387 (A : AT) (P : Params) : Obj := (Obj.mk (.type (t A 18)) none .plain #[(some (.ref 316)), (some (.ref 3)), (some (.ref 313)), none, (some (.str (s A 14) 552)), none, (some (.ref 0))])
def o_388 (A : AT) (P : Params) : Obj := (Obj.mk (.type (t A 2)) none (.seq #[(.bool false), .none] 0) #[])
def o_389 (A : AT) (P : Params) : Obj := (Obj.mk (.type (t A 2)) none (.seq #[] 0) #[])
def o_390 (A : AT) (P : Params) : Obj := (Obj.mk .none none (.fields #[]) #[])
def o_391 (A : AT) (P : Params) : Obj := (Obj.mk (.type (t A 2)) none (.seq #[(.str (s A 8) 602), (.str (s A 64) 603), (.str (s A 68) 604), (.str (s A 66) 605), (.str (s A 67) 606), (.str (s A 65) 607)] 0) #[])
def o_392 (A : AT) (P : Params) : Obj := (Obj.mk (.type (t A 2)) none (.seq #[] 0) #[])
def o_393 (A : AT) (P : Params) : Obj := (Obj.mk .none none (.func (FuncData.mk (s A 56) (s A 57) (defArgs (inClass (stm A 35) 0)) (FuncBody.stmts (defBody (inClass (stm A 35) 0))) (defScope (inClass (stm A 35) 0)) 0 [] .none .none .none .none none .none .none 0)) #[])
def o_394 (A : AT) (P : Params) : Obj := (Obj.mk (.type (t A 0)) none (.fields #[(.str (s A 56) 599), (.str (s A 57) 600), (.str (s A 1) 601), (.int 107 0), (.int 6 0), (.int 0 0), (.int 0 0), (.int 3 0), (.ref 319), (.bool true), (.int 181 0), (.ref 320), .none, (.ref 321), (.ref 322), (.ref 323), (.int 608 0), (.int 107 0), (.str (s A 1) 609)]) #[])
def o_395 (A : AT) (P : Params) : Obj := (Obj.mk (.type (t A 1)) none (.func (FuncData.mk (s A 56) (s A 57) (defArgs (inClass (stm A 35) 0)) (FuncBody.stmts (defBody (inClass (stm A 35) 0))) (defScope (inClass (stm A 35) 0)) 3 [] (.ref 318) .none .none (.str (s A 14) 552) none (.ref 324) .none 0)) #[])
def o_396 (A : AT) (P : Params) : Obj := (Obj.mk (.type (t A 2)) none (.seq #[(.str (s A 64) 611), (.str (s A 65) 612), (.str (s A 66) 613), (.str (s A 67) 614), (.str (s A 68) 615)] 0) #[])
def o_397 (A : AT) (P : Params) : Obj := (Obj.mk (.type (t A 5)) none (.dict #[(DictEntry.mk (keyHash P (s A 60)) (.str (s A 60) 594) (.str (s A 14) 552)), (DictEntry.mk (keyHash P (s A 62)) (.str (s A 62) 598) (.int 105 597)), (DictEntry.mk (keyHash P (s A 56)) (.str (s A 56) 610) (.ref 325)), (DictEntry.mk (keyHash P (s A 63)) (.str (s A 63) 616) (.ref 326)), (DictEntry.mk (keyHash P (s A 52)) (.str (s A 52) 618) (.ref 329)), (DictEntry.mk (keyHash P (s A 75)) (.str (s A 75) 620) (.ref 330)), (DictEntry.mk (keyHash P (s A 15)) (.str (s A 15) 621) .none)] 4) #[])
def o_398 (A : AT) (P : Params) : Obj := (Obj.mk (.type (t A 10)) none (.cls (ClassData.mk (s A 48) [(.type (t A 14))] [(.ref 328), (.type (t A 14))] 327 (s A 48) true [] [] false none false)) #[none, none, (some (.str (s A 48) 587)), (some (.str (s A 48) 595)), (some (.builtin (t A 19))), (some (.bool true))])
def o_399 (A : AT) (P : Params) : Obj := (Obj.mk (.type (t A 7)) none (.fields #[(.str (s A 52) 617), (.ref 328), (.builtin (t A 8)), (.builtin (t A 9))]) #[])
def o_400 (A : AT) (P : Params) : Obj := (Obj.mk (.type (t A 7)) none (.fields #[(.str (s A 75) 619), (.ref 328), (.builtin (t A 17)), .none]) #[])
def o_401 (A : AT) (P : Params) : Obj := (Obj.mk (.type (t A 16)) none (.fields #[(.ref 328), (.ref 328), (.ref 328)]) #[])
def o_402 (A : AT) (P : Params) : Obj := (Obj.mk (.type (t A 3)) none (.fields #[(.builtin (t A 4)), (.ref 328)]) #[])
def o_403 (A : AT) (P : Params) : Obj := (Obj.mk (.type (t A 2)) none (.seq #[] 0) #[])
def o_404 (A : AT) (P : Params) : Obj := (Obj.mk .none none (.fields #[]) #[])
def o_405 (A : AT) (P : Params) : Obj := (Obj.mk (.type (t A 2)) none (.seq #[(.str (s A 68) 627), (.str (s A 66) 628), (.str (s A 67) 629), (.str (s A 65) 630)] 0) #[])
def o_406 (A : AT) (P : Params) : Obj := (Obj.mk (.type (t A 2)) none (.seq #[] 0) #[])
def o_407 (A : AT) (P : Params) : Obj := (Obj.mk .none none (.func (FuncData.mk (s A 49) (s A 49) (defArgs (stm A 36)) (FuncBody.stmts (defBody (stm A 36))) (defScope (stm A 36)) 0 [] .none .none .none .none none .none .none 0)) #[])
def o_408 (A : AT) (P : Params) : Obj := (Obj.mk (.type (t A 0)) none (.fields #[(.str (s A 49) 624), (.str (s A 49) 625), (.str (s A 1) 626), (.int 124 0), (.int 4 0), (.int 0 0), (.int 0 0), (.int 3 0), (.ref 333), (.bool true), (.int 181 0), (.ref 334), .none, (.ref 335), (.ref 336), (.ref 337), (.int 631 0), (.int 124 0), (.str (s A 1) 632)]) #[])
def o_409 (A : AT) (P : Params) : Obj := (Obj.mk (.type (t A 1)) none (.func (FuncData.mk (s A 49) (s A 49) (defArgs (stm A 36)) (FuncBody.stmts (defBody (stm A 36))) (defScope (stm A 36)) 3 [] .none .none .none (.str (s A 14) 552) none (.ref 338) .none 0)) #[])
def o_410 (A : AT) (P : Params) : Obj := (Obj.mk (.type (t A 5)) none (.dict #[(DictEntry.mk (keyHash P (s A 13)) (.str (s A 13) 165) (.str (s A 14) 552)), (DictEntry.mk (keyHash P (s A 15)) (.str (s A 15) 166) .none), (DictEntry.mk (keyHash P (s A 16)) (.str (s A 16) 167) .none), (DictEntry.mk (keyHash P (s A 17)) (.str (s A 17) 168) (.builtin (t A 6))), (DictEntry.mk (keyHash P (s A 18)) (.str (s A 18) 169) .none), (DictEntry.mk (keyHash P (s A 19)) (.str (s A 19) 170) (.ref 6)), (DictEntry.mk (keyHash P (s A 20)) (.str (s A 20) 171) (.ref 4)), (DictEntry.mk (keyHash P (s A 21)) (.str (s A 21) 173) (.str (s A 1) 172)), (DictEntry.mk (keyHash P (s A 22)) (.str (s A 22) 174) .none), (DictEntry.mk (keyHash P (s A 23)) (.str (s A 23) 193) (.ref 21)), (DictEntry.mk (keyHash P (s A 0)) (.str (s A 0) 213) (.ref 31)), (DictEntry.mk (keyHash P (s A 24)) (.str (s A 24) 229) (.ref 44)), (DictEntry.mk (keyHash P (s A 25)) (.str (s A 25) 245) (.ref 56)), (DictEntry.mk (keyHash P (s A 26)) (.str (s A 26) 261) (.ref 68)), (DictEntry.mk (keyHash P (s A 27)) (.str (s A 27) 277) (.ref 80)), (DictEntry.mk (keyHash P (s A 28)) (.str (s A 28) 303) (.ref 100)), (DictEntry.mk (keyHash P (s A 29)) (.str (s A 29) 312) (.ref 109)), (DictEntry.mk (keyHash P (s A 12)) (.str (s A 12) 321) (.ref 116)), (DictEntry.mk (keyHash P (s A 30)) (.str (s A 30) 329) (.ref 123)), (DictEntry.mk (keyHash P (s A 31)) (.str (s A 31) 333) (.int 60 332)), (DictEntry.mk (keyHash P (s A 32)) (.str (s A 32) 335) (.int 1440 334)), (DictEntry.mk (keyHash P (s A 33)) (.str (s A 33) 342) (.ref 130)), (DictEntry.mk (keyHash P (s A 34)) (.str (s A 34) 349) (.ref 137)), (DictEntry.mk (keyHash P (s A 35)) (.str (s A 35) 356) (.ref 144)), (DictEntry.mk (keyHash P (s A 36)) (.str (s A 36) 363) (.ref 151)), (DictEntry.mk (keyHash P (s A 37)) (.str (s A 37) 370) (.ref 158)), (DictEntry.mk (keyHash P (s A 38)) (.str (s A 38) 374) (.str (s A 39) 373)), (DictEntry.mk (keyHash P (s A 40)) (.str (s A 40) 376) (.int 8 375)), (DictEntry.mk (keyHash P (s A 41)) (.str (s A 41) 382) (.ref 163)), (DictEntry.mk (keyHash P (s A 6)) (.str (s A 6) 390) (.ref 168)), (DictEntry.mk (keyHash P (s A 42)) (.str (s A 42) 412) (.ref 178)), (DictEntry.mk (keyHash P (s A 43)) (.str (s A 43) 456) (.ref 213)), (DictEntry.mk (keyHash P (s A 44)) (.str (s A 44) 478) (.ref 225)), (DictEntry.mk (keyHash P (s A 45)) (.str (s A 45) 519) (.ref 260)), (DictEntry.mk (keyHash P (s A 46)) (.str (s A 46) 551) (.ref 286)), (DictEntry.mk (keyHash P (s A 47)) (.str (s A 47) 586) (.ref 306)), (DictEntry.mk (keyHash P (s A 48)) (.str (s A 48) 623) (.ref 328)), (DictEntry.mk (keyHash P (s A 49)) (.str (s A 49) 633) (.ref 339)), (DictEntry.mk (keyHash P (s A 50)) (.str (s A 50) 700) (.ref 385)), (DictEntry.mk (keyHash P (s A 51)) (.str (s A 51) 708) (.ref 396))] 40) #[])
def o_411 (A : AT) (P : Params) : Obj := (Obj.mk .none none (.fields #[(.int 1 0), (.int 0 0), (.ref 20), (.int 5 0), (.int 0 0), (.ref 27), (.int 7 0), (.int 0 0), (.ref 40), (.int 9 0), (.int 0 0), (.ref 52), (.int 11 0), (.int 0 0), (.ref 64), (.int 13 0), (.int 0 0), (.ref 76), (.int 15 0), (.int 0 0), (.ref 88), (.int 20 0), (.int 0 0), (.ref 108), (.int 22 0), (.int 0 0), (.ref 115), (.int 24 0), (.int 0 0), (.ref 122), (.int 29 0), (.int 0 0), (.ref 129), (.int 31 0), (.int 0 0), (.ref 136), (.int 37 0), (.int 0 0), (.ref 143), (.int 40 0), (.int 0 0), (.ref 150), (.int 43 0), (.int 0 0), (.ref 157), (.int 49 0), (.int 0 0), (.ref 162), (.int 54 0), (.int 0 0), (.ref 167), (.int 59 0), (.int 0 0), (.ref 174), (.int 61 0), (.int 0 0), (.ref 188), (.int 72 0), (.int 0 0), (.ref 221), (.int 74 0), (.int 0 0), (.ref 235), (.int 85 0), (.int 0 0), (.ref 268), (.int 93 0), (.int 0 0), (.ref 294), (.int 105 0), (.int 0 0), (.ref 316), (.int 124 0), (.int 0 0), (.ref 338), (.int 130 0), (.int 0 0), (.ref 345), (.int 153 0), (.int 0 0), (.ref 395)]) #[])
def o_412 (A : AT) (P : Params) : Obj := (Obj.mk (.type (t A 2)) none (.seq #[] 0) #[])
def o_413 (A : AT) (P : Params) : Obj := (Obj.mk (.type (t A 3)) none (.fields #[(.builtin (t A 20)), (.type (t A 10))]) #[])
def o_414 (A : AT) (P : Params) : Obj := (Obj.mk (.type (t A 5)) none (.dict #[(DictEntry.mk (keyHash P (s A 60)) (.str (s A 60) 641) (.str (s A 14) 552)), (DictEntry.mk (keyHash P (s A 71)) (.str (s A 71) 643) (.str (s A 50) 642)), (DictEntry.mk (keyHash P (s A 62)) (.str (s A 62) 645) (.int 130 644)), (DictEntry.mk (keyHash P (s A 56)) (.str (s A 56) 657) (.ref 354)), (DictEntry.mk (keyHash P (s A 103)) (.str (s A 103) 665) (.ref 361)), (DictEntry.mk (keyHash P (s A 104)) (.str (s A 104) 673) (.ref 368)), (DictEntry.mk (keyHash P (s A 105)) (.str (s A 105) 681) (.ref 375)), (DictEntry.mk (keyHash P (s A 2)) (.str (s A 2) 688) (.ref 382)), (DictEntry.mk (keyHash P (s A 63)) (.str (s A 63) 693) (.ref 383))] 9) #[])
def o_415 (A : AT) (P : Params) : Obj := (Obj.mk (.type (t A 2)) none (.seq #[] 0) #[])
def o_416 (A : AT) (P : Params) : Obj := (Obj.mk .none none (.fields #[(.int 132 0), (.int 4 0), (.ref 353), (.int 142 0), (.int 4 0), (.ref 360), (.int 145 0), (.int 4 0), (.ref 367), (.int 148 0), (.int 4 0), (.ref 374), (.int 151 0), (.int 4 0), (.ref 381)]) #[])
def o_417 (A : AT) (P : Params) : Obj := (Obj.mk (.type (t A 0)) none (.fields #[(.str (s A 50) 636), (.str (s A 50) 637), (.str (s A 1) 638), (.int 130 0), (.int 0 0), (.int 0 0), (.int 0 0), (.int 0 0), (.ref 343), (.bool false), (.int 181 0), (.ref 344), .none, .none, .none, .none, (.int 639 0), (.int 130 0), (.str (s A 1) 640)]) #[])
def o_418 (A : AT) (P : Params) : Obj := (Obj.mk (.type (t A 18)) none .plain #[(some (.ref 345)), (some (.ref 3)), (some (.ref 342)), none, (some (.str (s A 14) 552)), none, (some (.ref 0))])
def o_419 (A : AT) (P : Params) : Obj := (Obj.mk (.type (t A 2)) none (.seq #[(.int 0 646), .none, .none, .none] 0) #[])
def o_420 (A : AT) (P : Params) : Obj := (Obj.mk (.type (t A 2)) none (.seq #[] 0) #[])
def o_421 (A : AT) (P : Params) : Obj := (Obj.mk .none none (.fields #[]) #[])
def o_422 (A : AT) (P : Params) : Obj := (Obj.mk (.type (t A 2)) none (.seq #[(.str (s A 8) 650), (.str (s A 69) 651), (.str (s A 77) 652), (.str (s A 80) 653), (.str (s A 79) 654)] 0) #[])
def o_423 (A : AT) (P : Params) : Obj := (Obj.mk (.type (t A 2)) none (.seq #[] 0) #[])
def o_424 (A : AT) (P : Params) : Obj := (Obj.mk .none none (.func (FuncData.mk (s A 56) (s A 107) (defArgs (inClass (stm A 37) 0)) (FuncBody.stmts (defBody (inClass (stm A 37) 0))) (defScope (inClass (stm A 37) 0)) 0 [] .none .none .none .none none .none .none 0)) #[])
def o_425 (A : AT) (P : Params) : Obj := (Obj.mk (.type (t A 0)) none (.fields #[(.str (s A 56) 647), (.str (s A 107) 648), (.str (s A 1) 649), (.int 132 0), (.int 5 0), (.int 0 0), (.int 0 0), (.int 3 0), (.ref 348), (.bool true), (.int 181 0), (.ref 349), .none, (.ref 350), (.ref 351), (.ref 352), (.int 655 0), (.int 132 0), (.str (s A 1) 656)]) #[])
def o_426 (A : AT) (P : Params) : Obj := (Obj.mk (.type (t A 1)) none (.func (FuncData.mk (s A 56) (s A 107) (defArgs (inClass (stm A 37) 0)) (FuncBody.stmts (defBody (inClass (stm A 37) 0))) (defScope (inClass (stm A 37) 0)) 3 [] (.ref 347) .none .none (.str (s A 14) 552) none (.ref 353) .none 0)) #[])
def o_427 (A : AT) (P : Params) : Obj := (Obj.mk (.type (t A 2)) none (.seq #[] 0) #[])
def o_428 (A : AT) (P : Params) : Obj := (Obj.mk .none none (.fields #[]) #[])
def o_429 (A : AT) (P : Params) : Obj := (Obj.mk (.type (t A 2)) none (.seq #[(.str (s A 8) 661), (.str (s A 119) 662)] 0) #[])
def o_430 (A : AT) (P : Params) : Obj := (Obj.mk (.type (t A 2)) none (.seq #[] 0) #[])
def o_431 (A : AT) (P : Params) : Obj := (Obj.mk .none none (.func (FuncData.mk (s A 103) (s A 127) (defArgs (inClass (stm A 37) 1)) (FuncBody.stmts (defBody (inClass (stm A 37) 1))) (defScope (inClass (stm A 37) 1)) 0 [] .none .none .none .none none .none .none 0)) #[])
def o_432 (A : AT) (P : Params) : Obj := (Obj.mk (.type (t A 0)) none (.fields #[(.str (s A 103) 658), (.str (s A 127) 659), (.str (s A 1) 660), (.int 142 0), (.int 2 0), (.int 0 0), (.int 0 0), (.int 3 0), (.ref 355), (.bool true), (.int 181 0), (.ref 356), .none, (.ref 357), (.ref 358), (.ref 359), (.int 663 0), (.int 142 0), (.str (s A 1) 664)]) #[])
def o_433 (A : AT) (P : Params) : Obj := (Obj.mk (.type (t A 1)) none (.func (FuncData.mk (s A 103) (s A 127) (defArgs (inClass (stm A 37) 1)) (FuncBody.stmts (defBody (inClass (stm A 37) 1))) (defScope (inClass (stm A 37) 1)) 3 [] .none .none .none (.str (s A 14) 552) none (.ref 360) .none 0)) #[])
def o_434 (A : AT) (P : Params) : Obj := (Obj.mk (.type (t A 2)) none (.seq #[] 0) #[])
def o_435 (A : AT) (P : Params) : Obj := (Obj.mk .none none (.fields #[]) #[])
def o_436 (A : AT) (P : Params) : Obj := (Obj.mk (.type (t A 2)) none (.seq #[(.str (s A 8) 669), (.str (s A 119) 670)] 0) #[])
def o_437 (A : AT) (P : Params) : Obj := (Obj.mk (.type (t A 2)) none (.seq #[] 0) #[])
def o_438 (A : AT) (P : Params) : Obj := (Obj.mk .none none (.func (FuncData.mk (s A 104) (s A 117) (defArgs (inClass (stm A 37) 2)) (FuncBody.stmts (defBody (inClass (stm A 37) 2))) (defScope (inClass (stm A 37) 2)) 0 [] .none .none .none .none none .none .none 0)) #[])
def o_439 (A : AT) (P : Params) : Obj := (Obj.mk (.type (t A 0)) none (.fields #[(.str (s A 104) 666), (.str (s A 117) 667), (.str (s A 1) 668), (.int 145 0), (.int 2 0), (.int 0 0), (.int 0 0), (.int 3 0), (.ref 362), (.bool true), (.int 181 0), (.ref 363), .none, (.ref 364), (.ref 365), (.ref 366), (.int 671 0), (.int 145 0), (.str (s A 1) 672)]) #[])
def o_440 (A : AT) (P : Params) : Obj := (Obj.mk (.type (t A 1)) none (.func (FuncData.mk (s A 104) (s A 117) (defArgs (inClass (stm A 37) 2)) (FuncBody.stmts (defBody (inClass (stm A 37) 2))) (defScope (inClass (stm A 37) 2)) 3 [] .none .none .none (.str (s A 14) 552) none (.ref 367) .none 0)) #[])
def o_441 (A : AT) (P : Params) : Obj := (Obj.mk (.type (t A 2)) none (.seq #[] 0) #[])
def o_442 (A : AT) (P : Params) : Obj := (Obj.mk .none none (.fields #[]) #[])
def o_443 (A : AT) (P : Params) : Obj := (Obj.mk (.type (t A 2)) none (.seq #[(.str (s A 8) 677), (.str (s A 137) 678)] 0) #[])
def o_444 (A : AT) (P : Params) : Obj := (Obj.mk (.type (t A 2)) none (.seq #[] 0) #[])
def o_445 (A : AT) (P : Params) : Obj := (Obj.mk .none none (.func (FuncData.mk (s A 105) (s A 109) (defArgs (inClass (stm A 37) 3)) (FuncBody.stmts (defBody (inClass (stm A 37) 3))) (defScope (inClass (stm A 37) 3)) 0 [] .none .none .none .none none .none .none 0)) #[])
def o_446 (A : AT) (P : Params) : Obj := (Obj.mk (.type (t A 0)) none (.fields #[(.str (s A 105) 674), (.str (s A 109) 675), (.str (s A 1) 676), (.int 148 0), (.int 2 0), (.int 0 0), (.int 0 0), (.int 3 0), (.ref 369), (.bool true), (.int 181 0), (.ref 370), .none, (.ref 371), (.ref 372), (.ref 373), (.int 679 0), (.int 148 0), (.str (s A 1) 680)]) #[])
def o_447 (A : AT) (P : Params) : Obj := (Obj.mk (.type (t A 1)) none (.func (FuncData.mk (s A 105) (s A 109) (defArgs (inClass (stm A 37) 3)) (FuncBody.stmts (defBody (inClass (stm A 37) 3))) (defScope (inClass (stm A 37) 3)) 3 [] .none .none .none (.str (s A 14) 552) none (.ref 374) .none 0)) #[])
def o_448 (A : AT) (P : Params) : Obj := (Obj.mk (.type (t A 2)) none (.seq #[] 0) #[])
def o_449 (A : AT) (P : Params) : Obj := (Obj.mk .none none (.fields #[]) #[])
def o_450 (A : AT) (P : Params) : Obj := (Obj.mk (.type (t A 2)) none (.seq #[(.str (s A 8) 685)] 0) #[])
def o_451 (A : AT) (P : Params) : Obj := (Obj.mk (.type (t A 2)) none (.seq #[] 0) #[])
def o_452 (A : AT) (P : Params) : Obj := (Obj.mk .none none (.func (FuncData.mk (s A 2) (s A 3) (defArgs (inClass (stm A 37) 4)) (FuncBody.stmts (defBody (inClass (stm A 37) 4))) (defScope (inClass (stm A 37) 4)) 0 [] .none .none .none .none none .none .none 0)) #[])
def o_453 (A : AT) (P : Params) : Obj := (Obj.mk (.type (t A 0)) none (.fields #[(.str (s A 2) 682), (.str (s A 3) 683), (.str (s A 1) 684), (.int 151 0), (.int 1 0), (.int 0 0), (.int 0 0), (.int 3 0), (.ref 376), (.bool true), (.int 181 0), (.ref 377), .none, (.ref 378), (.ref 379), (.ref 380), (.int 686 0), (.int 151 0), (.str (s A 1) 687)]) #[])
def o_454 (A : AT) (P : Params) : Obj := (Obj.mk (.type (t A 1)) none (.func (FuncData.mk (s A 2) (s A 3) (defArgs (inClass (stm A 37) 4)) (FuncBody.stmts (defBody (inClass (stm A 37) 4))) (defScope (inClass (stm A 37) 4)) 3 [] .none .none .none (.str (s A 14) 552) none (.ref 381) .none 0)) #[])
def o_455 (A : AT) (P : Params) : Obj := (Obj.mk (.type (t A 2)) none (.seq #[(.str (s A 79) 689), (.str (s A 77) 690), (.str (s A 80) 691), (.str (s A 69) 692)] 0) #[])
def o_456 (A : AT) (P : Params) : Obj := (Obj.mk (.type (t A 5)) none (.dict #[(DictEntry.mk (keyHash P (s A 60)) (.str (s A 60) 641) (.str (s A 14) 552)), (DictEntry.mk (keyHash P (s A 62)) (.str (s A 62) 645) (.int 130 644)), (DictEntry.mk (keyHash P (s A 56)) (.str (s A 56) 657) (.ref 354)), (DictEntry.mk (keyHash P (s A 103)) (.str (s A 103) 665) (.ref 361)), (DictEntry.mk (keyHash P (s A 104)) (.str (s A 104) 673) (.ref 368)), (DictEntry.mk (keyHash P (s A 105)) (.str (s A 105) 681) (.ref 375)), (DictEntry.mk (keyHash P (s A 2)) (.str (s A 2) 688) (.ref 382)), (DictEntry.mk (keyHash P (s A 63)) (.str (s A 63) 693) (.ref 383)), (DictEntry.mk (keyHash P (s A 52)) (.str (s A 52) 695) (.ref 386)), (DictEntry.mk (keyHash P (s A 75)) (.str (s A 75) 697) (.ref 387)), (DictEntry.mk (keyHash P (s A 15)) (.str (s A 15) 698) .none)] 4) #[])
def o_457 (A : AT) (P : Params) : Obj := (Obj.mk (.type (t A 10)) none (.cls (ClassData.mk (s A 50) [(.type (t A 14))] [(.ref 385), (.type (t A 14))] 384 (s A 50) true [] [] false none false)) #[none, none, (some (.str (s A 50) 634)), (some (.str (s A 50) 642)), (some (.builtin (t A 19))), (some (.bool true))])
def o_458 (A : AT) (P : Params) : Obj := (Obj.mk (.type (t A 7)) none (.fields #[(.str (s A 52) 694), (.ref 385), (.builtin (t A 8)), (.builtin (t A 9))]) #[])
def o_459 (A : AT) (P : Params) : Obj := (Obj.mk (.type (t A 7)) none (.fields #[(.str (s A 75) 696), (.ref 385), (.builtin (t A 17)), .none]) #[])
def o_460 (A : AT) (P : Params) : Obj := (Obj.mk (.type (t A 16)) none (.fields #[(.ref 385), (.ref 385), (.ref 385)]) #[])
def o_461 (A : AT) (P : Params) : Obj := (Obj.mk (.type (t A 3)) none (.fields #[(.builtin (t A 4)), (.ref 385)]) #[])
def o_462 (A : AT) (P : Params) : Obj := (Obj.mk (.type (t A 2)) none (.seq #[] 0) #[])
def o_463 (A : AT) (P : Params) : Obj := (Obj.mk .none none (.fields #[]) #[])
def o_464 (A : AT) (P : Params) : Obj := (Obj.mk (.type (t A 2)) none (.seq #[(.str (s A 80) 704), (.str (s A 77) 705)] 0) #[])
def o_465 (A : AT) (P : Params) : Obj := (Obj.mk (.type (t A 2)) none (.seq #[] 0) #[])
def o_466 (A : AT) (P : Params) : Obj := (Obj.mk .none none (.func (FuncData.mk (s A 51) (s A 51) (defArgs (stm A 38)) (FuncBody.stmts (defBody (stm A 38))) (defScope (stm A 38)) 0 [] .none .none .none .none none .none .none 0)) #[])
def o_467 (A : AT) (P : Params) : Obj := (Obj.mk (.type (t A 0)) none (.fields #[(.str (s A 51) 701), (.str (s A 51) 702), (.str (s A 1) 703), (.int 153 0), (.int 2 0), (.int 0 0), (.int 0 0), (.int 3 0), (.ref 390), (.bool true), (.int 181 0), (.ref 391), .none, (.ref 392), (.ref 393), (.ref 394), (.int 706 0), (.int 153 0), (.str (s A 1) 707)]) #[])
def o_468 (A : AT) (P : Params) : Obj := (Obj.mk (.type (t A 1)) none (.func (FuncData.mk (s A 51) (s A 51) (defArgs (stm A 38)) (FuncBody.stmts (defBody (stm A 38))) (defScope (stm A 38)) 3 [] .none .none .none (.str (s A 14) 552) none (.ref 395) .none 0)) #[])
def o_469 (A : AT) (P : Params) : Obj := (Obj.mk (.type (t A 5)) none (.dict #[(DictEntry.mk (keyHash P (s A 13)) (.str (s A 13) 165) (.str (s A 5) 715)), (DictEntry.mk (keyHash P (s A 15)) (.str (s A 15) 166) .none), (DictEntry.mk (keyHash P (s A 16)) (.str (s A 16) 167) .none), (DictEntry.mk (keyHash P (s A 17)) (.str (s A 17) 168) (.builtin (t A 6))), (DictEntry.mk (keyHash P (s A 18)) (.str (s A 18) 169) .none), (DictEntry.mk (keyHash P (s A 19)) (.str (s A 19) 170) (.ref 6)), (DictEntry.mk (keyHash P (s A 20)) (.str (s A 20) 171) (.ref 4)), (DictEntry.mk (keyHash P (s A 21)) (.str (s A 21) 173) (.str (s A 1) 172)), (DictEntry.mk (keyHash P (s A 22)) (.str (s A 22) 174) .none), (DictEntry.mk (keyHash P (s A 23)) (.str (s A 23) 193) (.ref 21)), (DictEntry.mk (keyHash P (s A 0)) (.str (s A 0) 213) (.ref 31)), (DictEntry.mk (keyHash P (s A 24)) (.str (s A 24) 229) (.ref 44)), (DictEntry.mk (keyHash P (s A 25)) (.str (s A 25) 245) (.ref 56)), (DictEntry.mk (keyHash P (s A 26)) (.str (s A 26) 261) (.ref 68)), (DictEntry.mk (keyHash P (s A 27)) (.str (s A 27) 277) (.ref 80)), (DictEntry.mk (keyHash P (s A 28)) (.str (s A 28) 303) (.ref 100)), (DictEntry.mk (keyHash P (s A 29)) (.str (s A 29) 312) (.ref 109)), (DictEntry.mk (keyHash P (s A 12)) (.str (s A 12) 321) (.ref 116)), (DictEntry.mk (keyHash P (s A 30)) (.str (s A 30) 329) (.ref 123)), (DictEntry.mk (keyHash P (s A 31)) (.str (s A 31) 333) (.int 60 332)), (DictEntry.mk (keyHash P (s A 32)) (.str (s A 32) 335) (.int 1440 334)), (DictEntry.mk (keyHash P (s A 33)) (.str (s A 33) 342) (.ref 130)), (DictEntry.mk (keyHash P (s A 34)) (.str (s A 34) 349) (.ref 137)), (DictEntry.mk (keyHash P (s A 35)) (.str (s A 35) 356) (.ref 144)), (DictEntry.mk (keyHash P (s A 36)) (.str (s A 36) 363) (.ref 151)), (DictEntry.mk (keyHash P (s A 37)) (.str (s A 37) 370) (.ref 158)), (DictEntry.mk (keyHash P (s A 38)) (.str (s A 38) 374) (.str (s A 39) 373)), (DictEntry.mk (keyHash P (s A 40)) (.str (s A 40) 376) (.int 8 375)), (DictEntry.mk (keyHash P (s A 41)) (.str (s A 41) 382) (.ref 163)), (DictEntry.mk (keyHash P (s A 6)) (.str (s A 6) 390) (.ref 168)), (DictEntry.mk (keyHash P (s A 42)) (.str (s A 42) 412) (.ref 178)), (DictEntry.mk (keyHash P (s A 43)) (.str (s A 43) 456) (.ref 213)), (DictEntry.mk (keyHash P (s A 44)) (.str (s A 44) 478) (.ref 225)), (DictEntry.mk (keyHash P (s A 45)) (.str (s A 45) 519) (.ref 260)), (DictEntry.mk (keyHash P (s A 46)) (.str (s A 46) 551) (.ref 286)), (DictEntry.mk (keyHash P (s A 47)) (.str (s A 47) 586) (.ref 306)), (DictEntry.mk (keyHash P (s A 48)) (.str (s A 48) 623) (.ref 328)), (DictEntry.mk (keyHash P (s A 49)) (.str (s A 49) 633) (.ref 339)), (DictEntry.mk (keyHash P (s A 50)) (.str (s A 50) 700) (.ref 385)), (DictEntry.mk (keyHash P (s A 51)) (.str (s A 51) 708) (.ref 396)), (DictEntry.mk (keyHash P (s A 97)) (.str (s A 97) 714) (.ref 401)), (DictEntry.mk (keyHash P (s A 4)) (.str (s A 4) 724) (.ref 408)), (DictEntry.mk (keyHash P (s A 98)) (.str (s A 98) 731) (.ref 415)), (DictEntry.mk (keyHash P (s A 112)) (.str (s A 112) 741) (.ref 422)), (DictEntry.mk (keyHash P (s A 92)) (.str (s A 92) 749) (.ref 429)), (DictEntry.mk (keyHash P (s A 115)) (.str (s A 115) 761) (.ref 436)), (DictEntry.mk (keyHash P (s A 70)) (.str (s A 70) 768) (.ref 443)), (DictEntry.mk (keyHash P (s A 108)) (.str (s A 108) 776) (.ref 450)), (DictEntry.mk (keyHash P (s A 110)) (.str (s A 110) 783) (.ref 457)), (DictEntry.mk (keyHash P (s A 102)) (.str (s A 102) 791) (.ref 464)), (DictEntry.mk (keyHash P (s A 76)) (.str (s A 76) 797) (.ref 469)), (DictEntry.mk (keyHash P (s A 116)) (.str (s A 116) 808) (.ref 476))] 52) #[])
def o_470 (A : AT) (P : Params) : Obj := (Obj.mk .none none (.fields #[(.int 1 0), (.int 0 0), (.ref 20), (.int 5 0), (.int 0 0), (.ref 27), (.int 7 0), (.int 0 0), (.ref 40), (.int 9 0), (.int 0 0), (.ref 52), (.int 11 0), (.int 0 0), (.ref 64), (.int 13 0), (.int 0 0), (.ref 76), (.int 15 0), (.int 0 0), (.ref 88), (.int 20 0), (.int 0 0), (.ref 108), (.int 22 0), (.int 0 0), (.ref 115), (.int 24 0), (.int 0 0), (.ref 122), (.int 29 0), (.int 0 0), (.ref 129), (.int 31 0), (.int 0 0), (.ref 136), (.int 37 0), (.int 0 0), (.ref 143), (.int 40 0), (.int 0 0), (.ref 150), (.int 43 0), (.int 0 0), (.ref 157), (.int 49 0), (.int 0 0), (.ref 162), (.int 54 0), (.int 0 0), (.ref 167), (.int 59 0), (.int 0 0), (.ref 174), (.int 61 0), (.int 0 0), (.ref 188), (.int 72 0), (.int 0 0), (.ref 221), (.int 74 0), (.int 0 0), (.ref 235), (.int 85 0), (.int 0 0), (.ref 268), (.int 93 0), (.int 0 0), (.ref 294), (.int 105 0), (.int 0 0), (.ref 316), (.int 124 0), (.int 0 0), (.ref 338), (.int 130 0), (.int 0 0), (.ref 345), (.int 153 0), (.int 0 0), (.ref 395), (.int 158 0), (.int 0 0), (.ref 400), (.int 164 0), (.int 0 0), (.ref 407), (.int 168 0), (.int 0 0), (.ref 414), (.int 170 0), (.int 0 0), (.ref 421), (.int 180 0), (.int 0 0), (.ref 428), (.int 185 0), (.int 0 0), (.ref 435), (.int 193 0), (.int 0 0), (.ref 442), (.int 195 0), (.int 0 0), (.ref 449), (.int 198 0), (.int 0 0), (.ref 456), (.int 200 0), (.int 0 0), (.ref 463), (.int 203 0), (.int 0 0), (.ref 468), (.int 207 0), (.int 0 0), (.ref 475)]) #[])
def o_471 (A : AT) (P : Params) : Obj := (Obj.mk (.type (t A 2)) none (.seq #[] 0) #[])
def o_472 (A : AT) (P : Params) : Obj := (Obj.mk .none none (.fields #[]) #[])
def o_473 (A : AT) (P : Params) : Obj := (Obj.mk .none none (.func (FuncData.mk (s A 97) (s A 97) (defArgs (stm A 39)) (FuncBody.stmts (defBody (stm A 39))) (defScope (stm A 39)) 0 [] .none .none .none .none none .none .none 0)) #[])
def o_474 (A : AT) (P : Params) : Obj := (Obj.mk (.type (t A 0)) none (.fields #[(.str (s A 97) 709), (.str (s A 97) 710), (.str (s A 1) 711), (.int 158 0), (.int 1 0), (.int 0 0), (.int 0 0), (.int 3 0), (.ref 397), (.bool true), (.int 181 0), (.ref 398), .none, .none, .none, (.ref 399), (.int 712 0), (.int 158 0), (.str (s A 1) 713)]) #[])
def o_475 (A : AT) (P : Params) : Obj := (Obj.mk (.type (t A 1)) none (.func (FuncData.mk (s A 97) (s A 97) (defArgs (stm A 39)) (FuncBody.stmts (defBody (stm A 39))) (defScope (stm A 39)) 3 [] .none .none .none (.str (s A 14) 552) none (.ref 400) .none 0)) #[])
def o_476 (A : AT) (P : Params) : Obj := (Obj.mk (.type (t A 2)) none (.seq #[] 0) #[])
def o_477 (A : AT) (P : Params) : Obj := (Obj.mk .none none (.fields #[]) #[])
def o_478 (A : AT) (P : Params) : Obj := (Obj.mk (.type (t A 2)) none (.seq #[(.str (s A 130) 720), (.str (s A 131) 721)] 0) #[])
def o_479 (A : AT) (P : Params) : Obj := (Obj.mk (.type (t A 2)) none (.seq #[] 0) #[])
def o_480 (A : AT) (P : Params) : Obj := (Obj.mk .none none (.func (FuncData.mk (s A 4) (s A 4) (defArgs (stm A 41)) (FuncBody.stmts (defBody (stm A 41))) (defScope (stm A 41)) 0 [] .none .none .none .none none .none .none 0)) #[])
def o_481 (A : AT) (P : Params) : Obj := (Obj.mk (.type (t A 0)) none (.fields #[(.str (s A 4) 717), (.str (s A 4) 718), (.str (s A 1) 719), (.int 164 0), (.int 2 0), (.int 0 0), (.int 0 0), (.int 3 0), (.ref 402), (.bool true), (.int 181 0), (.ref 403), .none, (.ref 404), (.ref 405), (.ref 406), (.int 722 0), (.int 164 0), (.str (s A 1) 723)]) #[])
def o_482 (A : AT) (P : Params) : Obj := (Obj.mk (.type (t A 1)) none (.func (FuncData.mk (s A 4) (s A 4) (defArgs (stm A 41)) (FuncBody.stmts (defBody (stm A 41))) (defScope (stm A 41)) 3 [] .none .none .none (.str (s A 5) 715) none (.ref 407) .none 0)) #[])
def o_483 (A : AT) (P : Params) : Obj := (Obj.mk (.type (t A 2)) none (.seq #[] 0) #[])
def o_484 (A : AT) (P : Params) : Obj := (Obj.mk .none none (.fields #[]) #[])
def o_485 (A : AT) (P : Params) : Obj := (Obj.mk (.type (t A 2)) none (.seq #[(.str (s A 121) 728)] 0) #[])
def o_486 (A : AT) (P : Params) : Obj := (Obj.mk (.type (t A 2)) none (.seq #[] 0) #[])
def o_487 (A : AT) (P : Params) : Obj := (Obj.mk .none none (.func (FuncData.mk (s A 98) (s A 98) (defArgs (stm A 42)) (FuncBody.stmts (defBody (stm A 42))) (defScope (stm A 42)) 0 [] .none .none .none .none none .none .none 0)) #[])
def o_488 (A : AT) (P : Params) : Obj := (Obj.mk (.type (t A 0)) none (.fields #[(.str (s A 98) 725), (.str (s A 98) 726), (.str (s A 1) 727), (.int 168 0), (.int 1 0), (.int 0 0), (.int 0 0), (.int 3 0), (.ref 409), (.bool true), (.int 181 0), (.ref 410), .none, (.ref 411), (.ref 412), (.ref 413), (.int 729 0), (.int 168 0), (.str (s A 1) 730)]) #[])
def o_489 (A : AT) (P : Params) : Obj := (Obj.mk (.type (t A 1)) none (.func (FuncData.mk (s A 98) (s A 98) (defArgs (stm A 42)) (FuncBody.stmts (defBody (stm A 42))) (defScope (stm A 42)) 3 [] .none .none .none (.str (s A 5) 715) none (.ref 414) .none 0)) #[])
def o_490 (A : AT) (P : Params) : Obj := (Obj.mk (.type (t A 2)) none (.seq #[] 0) #[])
def o_491 (A : AT) (P : Params) : Obj := (Obj.mk .none none (.fields #[]) #[])
def o_492 (A : AT) (P : Params) : Obj := (Obj.mk (.type (t A 2)) none (.seq #[(.str (s A 113) 735), (.str (s A 145) 736), (.str (s A 135) 737), (.str (s A 146) 738)] 0) #[])
def o_493 (A : AT) (P : Params) : Obj := (Obj.mk (.type (t A 2)) none (.seq #[] 0) #[])
def o_494 (A : AT) (P : Params) : Obj := (Obj.mk .none none (.func (FuncData.mk (s A 112) (s A 112) (defArgs (stm A 43)) (FuncBody.stmts (defBody (stm A 43))) (defScope (stm A 43)) 0 [] .none .none .none .none none .none .none 0)) #[])
def o_495 (A : AT) (P : Params) : Obj := (Obj.mk (.type (t A 0)) none (.fields #[(.str (s A 112) 732), (.str (s A 112) 733), (.str (s A 1) 734), (.int 170 0), (.int 2 0), (.int 0 0), (.int 0 0), (.int 3 0), (.ref 416), (.bool true), (.int 181 0), (.ref 417), .none, (.ref 418), (.ref 419), (.ref 420), (.int 739 0), (.int 170 0), (.str (s A 1) 740)]) #[])
def o_496 (A : AT) (P : Params) : Obj := (Obj.mk (.type (t A 1)) none (.func (FuncData.mk (s A 112) (s A 112) (defArgs (stm A 43)) (FuncBody.stmts (defBody (stm A 43))) (defScope (stm A 43)) 3 [] .none .none .none (.str (s A 5) 715) none (.ref 421) .none 0)) #[])
def o_497 (A : AT) (P : Params) : Obj := (Obj.mk (.type (t A 2)) none (.seq #[] 0) #[])
def o_498 (A : AT) (P : Params) : Obj := (Obj.mk .none none (.fields #[]) #[])
def o_499 (A : AT) (P : Params) : Obj := (Obj.mk (.type (t A 2)) none (.seq #[(.str (s A 113) 745), (.str (s A 114) 746)] 0) #[])
def o_500 (A : AT) (P : Params) : Obj := (Obj.mk (.type (t A 2)) none (.seq #[] 0) #[])
def o_501 (A : AT) (P : Params) : Obj := (Obj.mk .none none (.func (FuncData.mk (s A 92) (s A 92) (defArgs (stm A 44)) (FuncBody.stmts (defBody (stm A 44))) (defScope (stm A 44)) 0 [] .none .none .none .none none .none .none 0)) #[])
def o_502 (A : AT) (P : Params) : Obj := (Obj.mk (.type (t A 0)) none (.fields #[(.str (s A 92) 742), (.str (s A 92) 743), (.str (s A 1) 744), (.int 180 0), (.int 1 0), (.int 0 0), (.int 0 0), (.int 3 0), (.ref 423), (.bool true), (.int 181 0), (.ref 424), .none, (.ref 425), (.ref 426), (.ref 427), (.int 747 0), (.int 180 0), (.str (s A 1) 748)]) #[])
def o_503 (A : AT) (P : Params) : Obj := (Obj.mk (.type (t A 1)) none (.func (FuncData.mk (s A 92) (s A 92) (defArgs (stm A 44)) (FuncBody.stmts (defBody (stm A 44))) (defScope (stm A 44)) 3 [] .none .none .none (.str (s A 5) 715) none (.ref 428) .none 0)) #[])
def o_504 (A : AT) (P : Params) : Obj := (Obj.mk (.type (t A 2)) none (.seq #[] 0) #[])
def o_505 (A : AT) (P : Params) : Obj := (Obj.mk .none none (.fields #[]) #[])
def o_506 (A : AT) (P : Params) : Obj := (Obj.mk (.type (t A 2)) none (.seq #[(.str (s A 133) 753), (.str (s A 132) 754), (.str (s A 134) 755), (.str (s A 125) 756), (.str (s A 135) 757), (.str (s A 136) 758)] 0) #[])
def o_507 (A : AT) (P : Params) : Obj := (Obj.mk (.type (t A 2)) none (.seq #[] 0) #[])
def o_508 (A : AT) (P : Params) : Obj := (Obj.mk .none none (.func (FuncData.mk (s A 115) (s A 115) (defArgs (stm A 45)) (FuncBody.stmts (defBody (stm A 45))) (defScope (stm A 45)) 0 [] .none .none .none .none none .none .none 0)) #[])
def o_509 (A : AT) (P : Params) : Obj := (Obj.mk (.type (t A 0)) none (.fields #[(.str (s A 115) 750), (.str (s A 115) 751), (.str (s A 1) 752), (.int 185 0), (.int 4 0), (.int 0 0), (.int 0 0), (.int 3 0), (.ref 430), (.bool true), (.int 181 0), (.ref 431), .none, (.ref 432), (.ref 433), (.ref 434), (.int 759 0), (.int 185 0), (.str (s A 1) 760)]) #[])
def o_510 (A : AT) (P : Params) : Obj := (Obj.mk (.type (t A 1)) none (.func (FuncData.mk (s A 115) (s A 115) (defArgs (stm A 45)) (FuncBody.stmts (defBody (stm A 45))) (defScope (stm A 45)) 3 [] .none .none .none (.str (s A 5) 715) none (.ref 435) .none 0)) #[])
def o_511 (A : AT) (P : Params) : Obj := (Obj.mk (.type (t A 2)) none (.seq #[] 0) #[])
def o_512 (A : AT) (P : Params) : Obj := (Obj.mk .none none (.fields #[]) #[])
def o_513 (A : AT) (P : Params) : Obj := (Obj.mk (.type (t A 2)) none (.seq #[(.str (s A 133) 765)] 0) #[])
def o_514 (A : AT) (P : Params) : Obj := (Obj.mk (.type (t A 2)) none (.seq #[] 0) #[])
def o_515 (A : AT) (P : Params) : Obj := (Obj.mk .none none (.func (FuncData.mk (s A 70) (s A 70) (defArgs (stm A 46)) (FuncBody.stmts (defBody (stm A 46))) (defScope (stm A 46)) 0 [] .none .none .none .none none .none .none 0)) #[])
def o_516 (A : AT) (P : Params) : Obj := (Obj.mk (.type (t A 0)) none (.fields #[(.str (s A 70) 762), (.str (s A 70) 763), (.str (s A 1) 764), (.int 193 0), (.int 1 0), (.int 0 0), (.int 0 0), (.int 3 0), (.ref 437), (.bool true), (.int 181 0), (.ref 438), .none, (.ref 439), (.ref 440), (.ref 441), (.int 766 0), (.int 193 0), (.str (s A 1) 767)]) #[])
def o_517 (A : AT) (P : Params) : Obj := (Obj.mk (.type (t A 1)) none (.func (FuncData.mk (s A 70) (s A 70) (defArgs (stm A 46)) (FuncBody.stmts (defBody (stm A 46))) (defScope (stm A 46)) 3 [] .none .none .none (.str (s A 5) 715) none (.ref 442) .none 0)) #[])
def o_518 (A : AT) (P : Params) : Obj := (Obj.mk (.type (t A 2)) none (.seq #[] 0) #[])
def o_519 (A : AT) (P : Params) : Obj := (Obj.mk .none none (.fields #[]) #[])
def o_520 (A : AT) (P : Params) : Obj := (Obj.mk (.type (t A 2)) none (.seq #[(.str (s A 132) 772), (.str (s A 126) 773)] 0) #[])
def o_521 (A : AT) (P : Params) : Obj := (Obj.mk (.type (t A 2)) none (.seq #[] 0) #[])
def o_522 (A : AT) (P : Params) : Obj := (Obj.mk .none none (.func (FuncData.mk (s A 108) (s A 108) (defArgs (stm A 47)) (FuncBody.stmts (defBody (stm A 47))) (defScope (stm A 47)) 0 [] .none .none .none .none none .none .none 0)) #[])
def o_523 (A : AT) (P : Params) : Obj := (Obj.mk (.type (t A 0)) none (.fields #[(.str (s A 108) 769), (.str (s A 108) 770), (.str (s A 1) 771), (.int 195 0), (.int 1 0), (.int 0 0), (.int 0 0), (.int 3 0), (.ref 444), (.bool true), (.int 181 0), (.ref 445), .none, (.ref 446), (.ref 447), (.ref 448), (.int 774 0), (.int 195 0), (.str (s A 1) 775)]) #[])
def o_524 (A : AT) (P : Params) : Obj := (Obj.mk (.type (t A 1)) none (.func (FuncData.mk (s A 108) (s A 108) (defArgs (stm A 47)) (FuncBody.stmts (defBody (stm A 47))) (defScope (stm A 47)) 3 [] .none .none .none (.str (s A 5) 715) none (.ref 449) .none 0)) #[])
def o_525 (A : AT) (P : Params) : Obj := (Obj.mk (.type (t A 2)) none (.seq #[] 0) #[])
def o_526 (A : AT) (P : Params) : Obj := (Obj.mk .none none (.fields #[]) #[])
def o_527 (A : AT) (P : Params) : Obj := (Obj.mk (.type (t A 2)) none (.seq #[(.str (s A 134) 780)] 0) #[])
def o_528 (A : AT) (P : Params) : Obj := (Obj.mk (.type (t A 2)) none (.seq #[] 0) #[])
def o_529 (A : AT) (P : Params) : Obj := (Obj.mk .none none (.func (FuncData.mk (s A 110) (s A 110) (defArgs (stm A 48)) (FuncBody.stmts (defBody (stm A 48))) (defScope (stm A 48)) 0 [] .none .none .none .none none .none .none 0)) #[])
def o_530 (A : AT) (P : Params) : Obj := (Obj.mk (.type (t A 0)) none (.fields #[(.str (s A 110) 777), (.str (s A 110) 778), (.str (s A 1) 779), (.int 198 0), (.int 1 0), (.int 0 0), (.int 0 0), (.int 3 0), (.ref 451), (.bool true), (.int 181 0), (.ref 452), .none, (.ref 453), (.ref 454), (.ref 455), (.int 781 0), (.int 198 0), (.str (s A 1) 782)]) #[])
def o_531 (A : AT) (P : Params) : Obj := (Obj.mk (.type (t A 1)) none (.func (FuncData.mk (s A 110) (s A 110) (defArgs (stm A 48)) (FuncBody.stmts (defBody (stm A 48))) (defScope (stm A 48)) 3 [] .none .none .none (.str (s A 5) 715) none (.ref 456) .none 0)) #[])
def o_532 (A : AT) (P : Params) : Obj := (Obj.mk (.type (t A 2)) none (.seq #[] 0) #[])
def o_533 (A : AT) (P : Params) : Obj := (Obj.mk .none none (.fields #[]) #[])
def o_534 (A : AT) (P : Params) : Obj := (Obj.mk (.type (t A 2)) none (.seq #[(.str (s A 125) 787), (.str (s A 126) 788)] 0) #[])
def o_535 (A : AT) (P : Params) : Obj := (Obj.mk (.type (t A 2)) none (.seq #[] 0) #[])
def o_536 (A : AT) (P : Params) : Obj := (Obj.mk .none none (.func (FuncData.mk (s A 102) (s A 102) (defArgs (stm A 49)) (FuncBody.stmts (defBody (stm A 49))) (defScope (stm A 49)) 0 [] .none .none .none .none none .none .none 0)) #[])
def o_537 (A : AT) (P : Params) : Obj := (Obj.mk (.type (t A 0)) none (.fields #[(.str (s A 102) 784), (.str (s A 102) 785), (.str (s A 1) 786), (.int 200 0), (.int 1 0), (.int 0 0), (.int 0 0), (.int 3 0), (.ref 458), (.bool true), (.int 181 0), (.ref 459), .none, (.ref 460), (.ref 461), (.ref 462), (.int 789 0), (.int 200 0), (.str (s A 1) 790)]) #[])
def o_538 (A : AT) (P : Params) : Obj := (Obj.mk (.type (t A 1)) none (.func (FuncData.mk (s A 102) (s A 102) (defArgs (stm A 49)) (FuncBody.stmts (defBody (stm A 49))) (defScope (stm A 49)) 3 [] .none .none .none (.str (s A 5) 715) none (.ref 463) .none 0)) #[])
def o_539 (A : AT) (P : Params) : Obj := (Obj.mk (.type (t A 2)) none (.seq #[] 0) #[])
def o_540 (A : AT) (P : Params) : Obj := (Obj.mk .none none (.fields #[]) #[])
def o_541 (A : AT) (P : Params) : Obj := (Obj.mk .none none (.func (FuncData.mk (s A 76) (s A 76) (defArgs (stm A 50)) (FuncBody.stmts (defBody (stm A 50))) (defScope (stm A 50)) 0 [] .none .none .none .none none .none .none 0)) #[])
def o_542 (A : AT) (P : Params) : Obj := (Obj.mk (.type (t A 0)) none (.fields #[(.str (s A 76) 792), (.str (s A 76) 793), (.str (s A 1) 794), (.int 203 0), (.int 1 0), (.int 0 0), (.int 0 0), (.int 3 0), (.ref 465), (.bool true), (.int 181 0), (.ref 466), .none, .none, .none, (.ref 467), (.int 795 0), (.int 203 0), (.str (s A 1) 796)]) #[])
def o_543 (A : AT) (P : Params) : Obj := (Obj.mk (.type (t A 1)) none (.func (FuncData.mk (s A 76) (s A 76) (defArgs (stm A 50)) (FuncBody.stmts (defBody (stm A 50))) (defScope (stm A 50)) 3 [] .none .none .none (.str (s A 5) 715) none (.ref 468) .none 0)) #[])
def o_544 (A : AT) (P : Params) : Obj := (Obj.mk (.type (t A 2)) none (.seq #[] 0) #[])
def o_545 (A : AT) (P : Params) : Obj := (Obj.mk .none none (.fields #[]) #[])
def o_546 (A : AT) (P : Params) : Obj := (Obj.mk (.type (t A 2)) none (.seq #[(.str (s A 143) 801), (.str (s A 133) 802), (.str (s A 132) 803), (.str (s A 134) 804), (.str (s A 144) 805)] 0) #[])
def o_547 (A : AT) (P : Params) : Obj := (Obj.mk (.type (t A 2)) none (.seq #[] 0) #[])
def o_548 (A : AT) (P : Params) : Obj := (Obj.mk .none none (.func (FuncData.mk (s A 116) (s A 116) (defArgs (stm A 51)) (FuncBody.stmts (defBody (stm A 51))) (defScope (stm A 51)) 0 [] .none .none .none .none none .none .none 0)) #[])
def o_549 (A : AT) (P : Params) : Obj := (Obj.mk (.type (t A 0)) none (.fields #[(.str (s A 116) 798), (.str (s A 116) 799), (.str (s A 1) 800), (.int 207 0), (.int 5 0), (.int 0 0), (.int 0 0), (.int 3 0), (.ref 470), (.bool true), (.int 181 0), (.ref 471), .none, (.ref 472), (.ref 473), (.ref 474), (.int 806 0), (.int 207 0), (.str (s A 1) 807)]) #[])
def o_550 (A : AT) (P : Params) : Obj := (Obj.mk (.type (t A 1)) none (.func (FuncData.mk (s A 116) (s A 116) (defArgs (stm A 51)) (FuncBody.stmts (defBody (stm A 51))) (defScope (stm A 51)) 3 [] .none .none .none (.str (s A 5) 715) none (.ref 475) .none 0)) #[])
def o_551 (A : AT) (P : Params) : Obj := (Obj.mk (.type (t A 5)) none (.dict #[(DictEntry.mk (keyHash P (s A 13)) (.str (s A 13) 165) (.str (s A 5) 715)), (DictEntry.mk (keyHash P (s A 15)) (.str (s A 15) 166) .none), (DictEntry.mk (keyHash P (s A 16)) (.str (s A 16) 167) .none), (DictEntry.mk (keyHash P (s A 17)) (.str (s A 17) 168) (.builtin (t A 6))), (DictEntry.mk (keyHash P (s A 18)) (.str (s A 18) 169) .none), (DictEntry.mk (keyHash P (s A 19)) (.str (s A 19) 170) (.ref 6)), (DictEntry.mk (keyHash P (s A 20)) (.str (s A 20) 171) (.ref 4)), (DictEntry.mk (keyHash P (s A 21)) (.str (s A 21) 173) (.str (s A 1) 172)), (DictEntry.mk (keyHash P (s A 22)) (.str (s A 22) 174) .none), (DictEntry.mk (keyHash P (s A 23)) (.str (s A 23) 193) (.ref 21)), (DictEntry.mk (keyHash P (s A 0)) (.str (s A 0) 213) (.ref 31)), (DictEntry.mk (keyHash P (s A 24)) (.str (s A 24) 229) (.ref 44)), (DictEntry.mk (keyHash P (s A 25)) (.str (s A 25) 245) (.ref 56)), (DictEntry.mk (keyHash P (s A 26)) (.str (s A 26) 261) (.ref 68)), (DictEntry.mk (keyHash P (s A 27)) (.str (s A 27) 277) (.ref 80)), (DictEntry.mk (keyHash P (s A 28)) (.str (s A 28) 303) (.ref 100)), (DictEntry.mk (keyHash P (s A 29)) (.str (s A 29) 312) (.ref 109)), (DictEntry.mk (keyHash P (s A 12)) (.str (s A 12) 321) (.ref 116)), (DictEntry.mk (keyHash P (s A 30)) (.str (s A 30) 329) (.ref 123)), (DictEntry.mk (keyHash P (s A 31)) (.str (s A 31) 333) (.int 60 332)), (DictEntry.mk (keyHash P (s A 32)) (.str (s A 32) 335) (.int 1440 334)), (DictEntry.mk (keyHash P (s A 33)) (.str (s A 33) 342) (.ref 130)), (DictEntry.mk (keyHash P (s A 34)) (.str (s A 34) 349) (.ref 137)), (DictEntry.mk (keyHash P (s A 35)) (.str (s A 35) 356) (.ref 144)), (DictEntry.mk (keyHash P (s A 36)) (.str (s A 36) 363) (.ref 151)), (DictEntry.mk (keyHash P (s A 37)) (.str (s A 37) 370) (.ref 158)), (DictEntry.mk (keyHash P (s A 38)) (.str (s A 38) 374) (.str (s A 39) 373)), (DictEntry.mk (keyHash P (s A 40)) (.str (s A 40) 376) (.int 8 375)), (DictEntry.mk (keyHash P (s A 41)) (.str (s A 41) 382) (.ref 163)), (DictEntry.mk (keyHash P (s A 6)) (.str (s A 6) 390) (.ref 168)), (DictEntry.mk (keyHash P (s A 42)) (.str (s A 42) 412) (.ref 178)), (DictEntry.mk (keyHash P (s A 43)) (.str (s A 43) 456) (.ref 213)), (DictEntry.mk (keyHash P (s A 44)) (.str (s A 44) 478) (.ref 225)), (DictEntry.mk (keyHash P (s A 45)) (.str (s A 45) 519) (.ref 260)), (DictEntry.mk (keyHash P (s A 46)) (.str (s A 46) 551) (.ref 286)), (DictEntry.mk (keyHash P (s A 47)) (.str (s A 47) 586) (.ref 306)), (DictEntry.mk (keyHash P (s A 48)) (.str (s A 48) 623) (.ref 328)), (DictEntry.mk (keyHash P (s A 49)) (.str (s A 49) 633) (.ref 339)), (DictEntry.mk (keyHash P (s A 50)) (.str (s A 50) 700) (.ref 385)), (DictEntry.mk (keyHash P (s A 51)) (.str (s A 51) 708) (.ref 396)), (DictEntry.mk (keyHash P (s A 97)) (.str (s A 97) 714) (.ref 401)), (DictEntry.mk (keyHash P (s A 4)) (.str (s A 4) 724) (.ref 408)), (DictEntry.mk (keyHash P (s A 98)) (.str (s A 98) 731) (.ref 415)), (DictEntry.mk (keyHash P (s A 112)) (.str (s A 112) 741) (.ref 422)), (DictEntry.mk (keyHash P (s A 92)) (.str (s A 92) 749) (.ref 429)), (DictEntry.mk (keyHash P (s A 115)) (.str (s A 115) 761) (.ref 436)), (DictEntry.mk (keyHash P (s A 70)) (.str (s A 70) 768) (.ref 443)), (DictEntry.mk (keyHash P (s A 108)) (.str (s A 108) 776) (.ref 450)), (DictEntry.mk (keyHash P (s A 110)) (.str (s A 110) 783) (.ref 457)), (DictEntry.mk (keyHash P (s A 102)) (.str (s A 102) 791) (.ref 464)), (DictEntry.mk (keyHash P (s A 76)) (.str (s A 76) 797) (.ref 469)), (DictEntry.mk (keyHash P (s A 116)) (.str (s A 116) 808) (.ref 476)), (DictEntry.mk (keyHash P (s A 94)) (.str (s A 94) 824) (.ref 483)), (DictEntry.mk (keyHash P (s A 58)) (.str (s A 58) 830) (.ref 488))] 54) #[])
def o_552 (A : AT) (P : Params) : Obj := (Obj.mk .none none (.fields #[(.int 1 0), (.int 0 0), (.ref 20), (.int 5 0), (.int 0 0), (.ref 27), (.int 7 0), (.int 0 0), (.ref 40), (.int 9 0), (.int 0 0), (.ref 52), (.int 11 0), (.int 0 0), (.ref 64), (.int 13 0), (.int 0 0), (.ref 76), (.int 15 0), (.int 0 0), (.ref 88), (.int 20 0), (.int 0 0), (.ref 108), (.int 22 0), (.int 0 0), (.ref 115), (.int 24 0), (.int 0 0), (.ref 122), (.int 29 0), (.int 0 0), (.ref 129), (.int 31 0), (.int 0 0), (.ref 136), (.int 37 0), (.int 0 0), (.ref 143), (.int 40 0), (.int 0 0), (.ref 150), (.int 43 0), (.int 0 0), (.ref 157), (.int 49 0), (.int 0 0), (.ref 162), (.int 54 0), (.int 0 0), (.ref 167), (.int 59 0), (.int 0 0), (.ref 174), (.int 61 0), (.int 0 0), (.ref 188), (.int 72 0), (.int 0 0), (.ref 221), (.int 74 0), (.int 0 0), (.ref 235), (.int 85 0), (.int 0 0), (.ref 268), (.int 93 0), (.int 0 0), (.ref 294), (.int 105 0), (.int 0 0), (.ref 316), (.int 124 0), (.int 0 0), (.ref 338), (.int 130 0), (.int 0 0), (.ref 345), (.int 153 0), (.int 0 0), (.ref 395), (.int 158 0), (.int 0 0), (.ref 400), (.int 164 0), (.int 0 0), (.ref 407), (.int 168 0), (.int 0 0), (.ref 414), (.int 170 0), (.int 0 0), (.ref 421), (.int 180 0), (.int 0 0), (.ref 428), (.int 185 0), (.int 0 0), (.ref 435), (.int 193 0), (.int 0 0), (.ref 442), (.int 195 0), (.int 0 0), (.ref 449), (.int 198 0), (.int 0 0), (.ref 456), (.int 200 0), (.int 0 0), (.ref 463), (.int 203 0), (.int 0 0), (.ref 468), (.int 207 0), (.int 0 0), (.ref 475), (.int 213 0), (.int 0 0), (.ref 482), (.int 231 0), (.int 0 0), (.ref 487)]) #[])
def o_553 (A : AT) (P : Params) : Obj := (Obj.mk (.type (t A 2)) none (.seq #[] 0) #[])
def o_554 (A : AT) (P : Params) : Obj := (Obj.mk .none none (.fields #[]) #[])
def o_555 (A : AT) (P : Params) : Obj := (Obj.mk (.type (t A 2)) none (.seq #[(.str (s A 113) 812), (.str (s A 133) 813), (.str (s A 132) 814), (.str (s A 134) 815), (.str (s A 125) 816), (.str (s A 138) 817), (.str (s A 139) 818), (.str (s A 140) 819), (.str (s A 141) 820), (.str (s A 135) 821)] 0) #[])
def o_556 (A : AT) (P : Params) : Obj := (Obj.mk (.type (t A 2)) none (.seq #[] 0) #[])
def o_557 (A : AT) (P : Params) : Obj := (Obj.mk .none none (.func (FuncData.mk (s A 94) (s A 94) (defArgs (stm A 52)) (FuncBody.stmts (defBody (stm A 52))) (defScope (stm A 52)) 0 [] .none .none .none .none none .none .none 0)) #[])
def o_558 (A : AT) (P : Params) : Obj := (Obj.mk (.type (t A 0)) none (.fields #[(.str (s A 94) 809), (.str (s A 94) 810), (.str (s A 1) 811), (.int 213 0), (.int 5 0), (.int 0 0), (.int 0 0), (.int 3 0), (.ref 477), (.bool true), (.int 181 0), (.ref 478), .none, (.ref 479), (.ref 480), (.ref 481), (.int 822 0), (.int 213 0), (.str (s A 1) 823)]) #[])
def o_559 (A : AT) (P : Params) : Obj := (Obj.mk (.type (t A 1)) none (.func (FuncData.mk (s A 94) (s A 94) (defArgs (stm A 52)) (FuncBody.stmts (defBody (stm A 52))) (defScope (stm A 52)) 3 [] .none .none .none (.str (s A 5) 715) none (.ref 482) .none 0)) #[])
def o_560 (A : AT) (P : Params) : Obj := (Obj.mk (.type (t A 2)) none (.seq #[] 0) #[])
def o_561 (A : AT) (P : Params) : Obj := (Obj.mk .none none (.fields #[]) #[])
def o_562 (A : AT) (P : Params) : Obj := (Obj.mk .none none (.func (FuncData.mk (s A 58) (s A 58) (defArgs (stm A 53)) (FuncBody.stmts (defBody (stm A 53))) (defScope (stm A 53)) 0 [] .none .none .none .none none .none .none 0)) #[])
def o_563 (A : AT) (P : Params) : Obj := (Obj.mk (.type (t A 0)) none (.fields #[(.str (s A 58) 825), (.str (s A 58) 826), (.str (s A 1) 827), (.int 231 0), (.int 1 0), (.int 0 0), (.int 0 0), (.int 3 0), (.ref 484), (.bool true), (.int 181 0), (.ref 485), .none, .none, .none, (.ref 486), (.int 828 0), (.int 231 0), (.str (s A 1) 829)]) #[])
def o_564 (A : AT) (P : Params) : Obj := (Obj.mk (.type (t A 1)) none (.func (FuncData.mk (s A 58) (s A 58) (defArgs (stm A 53)) (FuncBody.stmts (defBody (stm A 53))) (defScope (stm A 53)) 3 [] .none .none .none (.str (s A 5) 715) none (.ref 487) .none 0)) #[])
def tree_550 (A : AT) : Params → PySem.W.BT := (fun P => (N (boot_o_0 P) (N (boot_o_1 P) (N (o_469 A P) (N (boot_o_7 P) (N (o_51 A P) (N (o_133 A P) (N (o_108 A P) (N (o_180 A P) (N (o_318 A P) L L) (N (o_455 A P) L L)) (N (o_249 A P) (N (o_389 A P) L L) (N (o_521 A P) L L))) (N (o_146 A P) (N (o_212 A P) (N (o_353 A P) L L) (N (o_489 A P) L L)) (N (o_283 A P) (N (o_423 A P) L L) L))) (N (o_89 A P) (N (o_127 A P) (N (o_196 A P) (N (o_337 A P) L L) (N (o_473 A P) L L)) (N (o_265 A P) (N (o_405 A P) L L) (N (o_537 A P) L L))) (N (o_162 A P) (N (o_230 A P) (N (o_371 A P) L L) (N (o_505 A P) L L)) (N (o_302 A P) (N (o_439 A P) L L) L)))) (N (o_59 A P) (N (o_78 A P) (N (o_119 A P) (N (o_188 A P) (N (o_329 A P) L L) (N (o_463 A P) L L)) (N (o_257 A P) (N (o_397 A P) L L) (N (o_529 A P) L L))) (N (o_154 A P) (N (o_220 A P) (N (o_363 A P) L L) (N (o_497 A P) L L)) (N (o_294 A P) (N (o_431 A P) L L) L))) (N (o_97 A P) (N (o_138 A P) (N (o_204 A P) (N (o_345 A P) L L) (N (o_481 A P) L L)) (N (o_273 A P) (N (o_415 A P) L L) (N (o_545 A P) L L))) (N (o_170 A P) (N (o_241 A P) (N (o_381 A P) L L) (N (o_513 A P) L L)) (N (o_310 A P) (N (o_447 A P) L L) L))))) (N (o_43 A P) (N (o_55 A P) (N (o_74 A P) (N (o_112 A P) (N (o_184 A P) (N (o_322 A P) L L) (N (o_459 A P) L L)) (N (o_253 A P) (N (o_393 A P) L L) (N (o_525 A P) L L))) (N (o_150 A P) (N (o_216 A P) (N (o_359 A P) L L) (N (o_493 A P) L L)) (N (o_287 A P) (N (o_427 A P) L L) L))) (N (o_93 A P) (N (o_134 A P) (N (o_200 A P) (N (o_341 A P) L L) (N (o_477 A P) L L)) (N (o_269 A P) (N (o_409 A P) L L) (N (o_541 A P) L L))) (N (o_166 A P) (N (o_234 A P) (N (o_375 A P) L L) (N (o_509 A P) L L)) (N (o_306 A P) (N (o_443 A P) L L) L)))) (N (o_63 A P) (N (o_82 A P) (N (o_123 A P) (N (o_192 A P) (N (o_333 A P) L L) (N (o_467 A P) L L)) (N (o_261 A P) (N (o_401 A P) L L) (N (o_533 A P) L L))) (N (o_158 A P) (N (o_226 A P) (N (o_367 A P) L L) (N (o_501 A P) L L)) (N (o_298 A P) (N (o_435 A P) L L) L))) (N (o_104 A P) (N (o_142 A P) (N (o_208 A P) (N (o_349 A P) L L) (N (o_485 A P) L L)) (N (o_279 A P) (N (o_419 A P) L L) (N (o_549 A P) L L))) (N (o_174 A P) (N (o_245 A P) (N (o_385 A P) L L) (N (o_517 A P) L L)) (N (o_314 A P) (N (o_451 A P) L L) L)))))) (N (boot_o_5 P) (N (boot_o_9 P) (N (o_53 A P) (N (o_69 A P) (N (o_110 A P) (N (o_182 A P) (N (o_320 A P) L L) (N (o_457 A P) L L)) (N (o_251 A P) (N (o_391 A P) L L) (N (o_523 A P) L L))) (N (o_148 A P) (N (o_214 A P) (N (o_357 A P) L L) (N (o_491 A P) L L)) (N (o_328 A P) (N (o_425 A P) L L) L))) (N (o_91 A P) (N (o_129 A P) (N (o_198 A P) (N (o_339 A P) L L) (N (o_475 A P) L L)) (N (o_267 A P) (N (o_407 A P) L L) (N (o_539 A P) L L))) (N (o_164 A P) (N (o_232 A P) (N (o_373 A P) L L) (N (o_507 A P) L L)) (N (o_304 A P) (N (o_441 A P) L L) L)))) (N (o_61 A P) (N (o_80 A P) (N (o_121 A P) (N (o_190 A P) (N (o_331 A P) L L) (N (o_465 A P) L L)) (N (o_259 A P) (N (o_399 A P) L L) (N (o_531 A P) L L))) (N (o_156 A P) (N (o_224 A P) (N (o_365 A P) L L) (N (o_499 A P) L L)) (N (o_296 A P) (N (o_433 A P) L L) L))) (N (o_99 A P) (N (o_140 A P) (N (o_206 A P) (N (o_347 A P) L L) (N (o_483 A P) L L)) (N (o_277 A P) (N (o_417 A P) L L) (N (o_547 A P) L L))) (N (o_172 A P) (N (o_243 A P) (N (o_383 A P) L L) (N (o_515 A P) L L)) (N (o_312 A P) (N (o_449 A P) L L) L))))) (N (o_45 A P) (N (o_57 A P) (N (o_76 A P) (N (o_114 A P) (N (o_186 A P) (N (o_324 A P) L L) (N (o_461 A P) L L)) (N (o_255 A P) (N (o_395 A P) L L) (N (o_527 A P) L L))) (N (o_152 A P) (N (o_218 A P) (N (o_361 A P) L L) (N (o_495 A P) L L)) (N (o_289 A P) (N (o_429 A P) L L) L))) (N (o_95 A P) (N (o_136 A P) (N (o_202 A P) (N (o_343 A P) L L) (N (o_479 A P) L L)) (N (o_271 A P) (N (o_413 A P) L L) (N (o_543 A P) L L))) (N (o_168 A P) (N (o_236 A P) (N (o_377 A P) L L) (N (o_511 A P) L L)) (N (o_308 A P) (N (o_445 A P) L L) L)))) (N (o_65 A P) (N (o_84 A P) (N (o_125 A P) (N (o_194 A P) (N (o_335 A P) L L) (N (o_471 A P) L L)) (N (o_263 A P) (N (o_403 A P) L L) (N (o_535 A P) L L))) (N (o_160 A P) (N (o_228 A P) (N (o_369 A P) L L) (N (o_503 A P) L L)) (N (o_300 A P) (N (o_437 A P) L L) L))) (N (o_106 A P) (N (o_144 A P) (N (o_210 A P) (N (o_351 A P) L L) (N (o_487 A P) L L)) (N (o_281 A P) (N (o_421 A P) L L) L)) (N (o_178 A P) (N (o_247 A P) (N (o_387 A P) L L) (N (o_519 A P) L L)) (N (o_316 A P) (N (o_453 A P) L L) L))))))) (N (boot_o_2 P) (N (boot_o_4 P) (N (boot_o_8 P) (N (o_52 A P) (N (o_68 A P) (N (o_109 A P) (N (o_181 A P) (N (o_319 A P) L L) (N (o_456 A P) L L)) (N (o_250 A P) (N (o_390 A P) L L) (N (o_522 A P) L L))) (N (o_147 A P) (N (o_213 A P) (N (o_354 A P) L L) (N (o_490 A P) L L)) (N (o_284 A P) (N (o_424 A P) L L) L))) (N (o_90 A P) (N (o_128 A P) (N (o_197 A P) (N (o_338 A P) L L) (N (o_474 A P) L L)) (N (o_266 A P) (N (o_406 A P) L L) (N (o_538 A P) L L))) (N (o_163 A P) (N (o_231 A P) (N (o_372 A P) L L) (N (o_506 A P) L L)) (N (o_303 A P) (N (o_440 A P) L L) L)))) (N (o_60 A P) (N (o_79 A P) (N (o_120 A P) (N (o_189 A P) (N (o_330 A P) L L) (N (o_464 A P) L L)) (N (o_258 A P) (N (o_398 A P) L L) (N (o_530 A P) L L))) (N (o_155 A P) (N (o_221 A P) (N (o_364 A P) L L) (N (o_498 A P) L L)) (N (o_295 A P) (N (o_432 A P) L L) L))) (N (o_98 A P) (N (o_139 A P) (N (o_205 A P) (N (o_346 A P) L L) (N (o_482 A P) L L)) (N (o_276 A P) (N (o_416 A P) L L) (N (o_546 A P) L L))) (N (o_171 A P) (N (o_242 A P) (N (o_382 A P) L L) (N (o_514 A P) L L)) (N (o_311 A P) (N (o_448 A P) L L) L))))) (N (o_470 A P) (N (o_56 A P) (N (o_75 A P) (N (o_113 A P) (N (o_185 A P) (N (o_323 A P) L L) (N (o_460 A P) L L)) (N (o_254 A P) (N (o_394 A P) L L) (N (o_526 A P) L L))) (N (o_151 A P) (N (o_217 A P) (N (o_360 A P) L L) (N (o_494 A P) L L)) (N (o_288 A P) (N (o_428 A P) L L) L))) (N (o_94 A P) (N (o_135 A P) (N (o_201 A P) (N (o_342 A P) L L) (N (o_478 A P) L L)) (N (o_270 A P) (N (o_412 A P) L L) (N (o_542 A P) L L))) (N (o_167 A P) (N (o_235 A P) (N (o_376 A P) L L) (N (o_510 A P) L L)) (N (o_307 A P) (N (o_444 A P) L L) L)))) (N (o_64 A P) (N (o_83 A P) (N (o_124 A P) (N (o_193 A P) (N (o_334 A P) L L) (N (o_468 A P) L L)) (N (o_262 A P) (N (o_402 A P) L L) (N (o_534 A P) L L))) (N (o_159 A P) (N (o_227 A P) (N (o_368 A P) L L) (N (o_502 A P) L L)) (N (o_299 A P) (N (o_436 A P) L L) L))) (N (o_105 A P) (N (o_143 A P) (N (o_209 A P) (N (o_350 A P) L L) (N (o_486 A P) L L)) (N (o_280 A P) (N (o_420 A P) L L) (N (o_550 A P) L L))) (N (o_177 A P) (N (o_246 A P) (N (o_386 A P) L L) (N (o_518 A P) L L)) (N (o_315 A P) (N (o_452 A P) L L) L)))))) (N (boot_o_6 P) (N (boot_o_10 P) (N (o_54 A P) (N (o_70 A P) (N (o_111 A P) (N (o_183 A P) (N (o_321 A P) L L) (N (o_458 A P) L L)) (N (o_252 A P) (N (o_392 A P) L L) (N (o_524 A P) L L))) (N (o_149 A P) (N (o_215 A P) (N (o_358 A P) L L) (N (o_492 A P) L L)) (N (o_286 A P) (N (o_426 A P) L L) L))) (N (o_92 A P) (N (o_130 A P) (N (o_199 A P) (N (o_340 A P) L L) (N (o_476 A P) L L)) (N (o_268 A P) (N (o_408 A P) L L) (N (o_540 A P) L L))) (N (o_165 A P) (N (o_240 A P) (N (o_374 A P) L L) (N (o_508 A P) L L)) (N (o_305 A P) (N (o_442 A P) L L) L)))) (N (o_62 A P) (N (o_81 A P) (N (o_122 A P) (N (o_191 A P) (N (o_332 A P) L L) (N (o_466 A P) L L)) (N (o_260 A P) (N (o_400 A P) L L) (N (o_532 A P) L L))) (N (o_157 A P) (N (o_225 A P) (N (o_366 A P) L L) (N (o_500 A P) L L)) (N (o_297 A P) (N (o_434 A P) L L) L))) (N (o_100 A P) (N (o_141 A P) (N (o_207 A P) (N (o_348 A P) L L) (N (o_484 A P) L L)) (N (o_278 A P) (N (o_418 A P) L L) (N (o_548 A P) L L))) (N (o_173 A P) (N (o_244 A P) (N (o_384 A P) L L) (N (o_516 A P) L L)) (N (o_313 A P) (N (o_450 A P) L L) L))))) (N (o_46 A P) (N (o_58 A P) (N (o_77 A P) (N (o_115 A P) (N (o_187 A P) (N (o_325 A P) L L) (N (o_462 A P) L L)) (N (o_256 A P) (N (o_396 A P) L L) (N (o_528 A P) L L))) (N (o_153 A P) (N (o_219 A P) (N (o_362 A P) L L) (N (o_496 A P) L L)) (N (o_293 A P) (N (o_430 A P) L L) L))) (N (o_96 A P) (N (o_137 A P) (N (o_203 A P) (N (o_344 A P) L L) (N (o_480 A P) L L)) (N (o_272 A P) (N (o_414 A P) L L) (N (o_544 A P) L L))) (N (o_169 A P) (N (o_237 A P) (N (o_378 A P) L L) (N (o_512 A P) L L)) (N (o_309 A P) (N (o_446 A P) L L) L)))) (N (o_66 A P) (N (o_85 A P) (N (o_126 A P) (N (o_195 A P) (N (o_336 A P) L L) (N (o_472 A P) L L)) (N (o_264 A P) (N (o_404 A P) L L) (N (o_536 A P) L L))) (N (o_161 A P) (N (o_229 A P) (N (o_370 A P) L L) (N (o_504 A P) L L)) (N (o_301 A P) (N (o_438 A P) L L) L))) (N (o_107 A P) (N (o_145 A P) (N (o_211 A P) (N (o_352 A P) L L) (N (o_488 A P) L L)) (N (o_282 A P) (N (o_422 A P) L L) L)) (N (o_179 A P) (N (o_248 A P) (N (o_388 A P) L L) (N (o_520 A P) L L)) (N (o_317 A P) (N (o_454 A P) L L) L)))))))))
def tree_100 (A : AT) : Params → PySem.W.BT := (fun P => (N (boot_o_0 P) (N (boot_o_1 P) (N (o_86 A P) (N (boot_o_7 P) (N (o_51 A P) (N (o_88 A P) L L) (N (o_89 A P) L L)) (N (o_59 A P) (N (o_78 A P) L L) (N (o_97 A P) L L))) (N (o_43 A P) (N (o_55 A P) (N (o_74 A P) L L) (N (o_93 A P) L L)) (N (o_63 A P) (N (o_82 A P) L L) L))) (N (boot_o_5 P) (N (boot_o_9 P) (N (o_53 A P) (N (o_69 A P) L L) (N (o_91 A P) L L)) (N (o_61 A P) (N (o_80 A P) L L) (N (o_99 A P) L L))) (N (o_45 A P) (N (o_57 A P) (N (o_76 A P) L L) (N (o_95 A P) L L)) (N (o_65 A P) (N (o_84 A P) L L) L)))) (N (boot_o_2 P) (N (boot_o_4 P) (N (boot_o_8 P) (N (o_52 A P) (N (o_68 A P) L L) (N (o_90 A P) L L)) (N (o_60 A P) (N (o_79 A P) L L) (N (o_98 A P) L L))) (N (o_87 A P) (N (o_56 A P) (N (o_75 A P) L L) (N (o_94 A P) L L)) (N (o_64 A P) (N (o_83 A P) L L) L))) (N (boot_o_6 P) (N (boot_o_10 P) (N (o_54 A P) (N (o_70 A P) L L) (N (o_92 A P) L L)) (N (o_62 A P) (N (o_81 A P) L L) (N (o_100 A P) L L))) (N (o_46 A P) (N (o_58 A P) (N (o_77 A P) L L) (N (o_96 A P) L L)) (N (o_66 A P) (N (o_85 A P) L L) L))))))
def tree_273 (A : AT) : Params → PySem.W.BT := (fun P => (N (boot_o_0 P) (N (boot_o_1 P) (N (o_238 A P) (N (boot_o_7 P) (N (o_51 A P) (N (o_133 A P) (N (o_108 A P) (N (o_180 A P) L L) (N (o_249 A P) L L)) (N (o_146 A P) (N (o_212 A P) L L) L)) (N (o_89 A P) (N (o_127 A P) (N (o_196 A P) L L) (N (o_265 A P) L L)) (N (o_162 A P) (N (o_230 A P) L L) L))) (N (o_59 A P) (N (o_78 A P) (N (o_119 A P) (N (o_188 A P) L L) (N (o_257 A P) L L)) (N (o_154 A P) (N (o_220 A P) L L) L)) (N (o_97 A P) (N (o_138 A P) (N (o_204 A P) L L) (N (o_273 A P) L L)) (N (o_170 A P) (N (o_241 A P) L L) L)))) (N (o_43 A P) (N (o_55 A P) (N (o_74 A P) (N (o_112 A P) (N (o_184 A P) L L) (N (o_253 A P) L L)) (N (o_150 A P) (N (o_216 A P) L L) L)) (N (o_93 A P) (N (o_134 A P) (N (o_200 A P) L L) (N (o_269 A P) L L)) (N (o_166 A P) (N (o_234 A P) L L) L))) (N (o_63 A P) (N (o_82 A P) (N (o_123 A P) (N (o_192 A P) L L) (N (o_261 A P) L L)) (N (o_158 A P) (N (o_226 A P) L L) L)) (N (o_104 A P) (N (o_142 A P) (N (o_208 A P) L L) L) (N (o_174 A P) (N (o_245 A P) L L) L))))) (N (boot_o_5 P) (N (boot_o_9 P) (N (o_53 A P) (N (o_69 A P) (N (o_110 A P) (N (o_182 A P) L L) (N (o_251 A P) L L)) (N (o_148 A P) (N (o_214 A P) L L) L)) (N (o_91 A P) (N (o_129 A P) (N (o_198 A P) L L) (N (o_267 A P) L L)) (N (o_164 A P) (N (o_232 A P) L L) L))) (N (o_61 A P) (N (o_80 A P) (N (o_121 A P) (N (o_190 A P) L L) (N (o_259 A P) L L)) (N (o_156 A P) (N (o_224 A P) L L) L)) (N (o_99 A P) (N (o_140 A P) (N (o_206 A P) L L) L) (N (o_172 A P) (N (o_243 A P) L L) L)))) (N (o_45 A P) (N (o_57 A P) (N (o_76 A P) (N (o_114 A P) (N (o_186 A P) L L) (N (o_255 A P) L L)) (N (o_152 A P) (N (o_218 A P) L L) L)) (N (o_95 A P) (N (o_136 A P) (N (o_202 A P) L L) (N (o_271 A P) L L)) (N (o_168 A P) (N (o_236 A P) L L) L))) (N (o_65 A P) (N (o_84 A P) (N (o_125 A P) (N (o_194 A P) L L) (N (o_263 A P) L L)) (N (o_160 A P) (N (o_228 A P) L L) L)) (N (o_106 A P) (N (o_144 A P) (N (o_210 A P) L L) L) (N (o_178 A P) (N (o_247 A P) L L) L)))))) (N (boot_o_2 P) (N (boot_o_4 P) (N (boot_o_8 P) (N (o_52 A P) (N (o_68 A P) (N (o_109 A P) (N (o_181 A P) L L) (N (o_250 A P) L L)) (N (o_147 A P) (N (o_213 A P) L L) L)) (N (o_90 A P) (N (o_128 A P) (N (o_197 A P) L L) (N (o_266 A P) L L)) (N (o_163 A P) (N (o_231 A P) L L) L))) (N (o_60 A P) (N (o_79 A P) (N (o_120 A P) (N (o_189 A P) L L) (N (o_258 A P) L L)) (N (o_155 A P) (N (o_221 A P) L L) L)) (N (o_98 A P) (N (o_139 A P) (N (o_205 A P) L L) L) (N (o_171 A P) (N (o_242 A P) L L) L)))) (N (o_239 A P) (N (o_56 A P) (N (o_75 A P) (N (o_113 A P) (N (o_185 A P) L L) (N (o_254 A P) L L)) (N (o_151 A P) (N (o_217 A P) L L) L)) (N (o_94 A P) (N (o_135 A P) (N (o_201 A P) L L) (N (o_270 A P) L L)) (N (o_167 A P) (N (o_235 A P) L L) L))) (N (o_64 A P) (N (o_83 A P) (N (o_124 A P) (N (o_193 A P) L L) (N (o_262 A P) L L)) (N (o_159 A P) (N (o_227 A P) L L) L)) (N (o_105 A P) (N (o_143 A P) (N (o_209 A P) L L) L) (N (o_177 A P) (N (o_246 A P) L L) L))))) (N (boot_o_6 P) (N (boot_o_10 P) (N (o_54 A P) (N (o_70 A P) (N (o_111 A P) (N (o_183 A P) L L) (N (o_252 A P) L L)) (N (o_149 A P) (N (o_215 A P) L L) L)) (N (o_92 A P) (N (o_130 A P) (N (o_199 A P) L L) (N (o_268 A P) L L)) (N (o_165 A P) (N (o_240 A P) L L) L))) (N (o_62 A P) (N (o_81 A P) (N (o_122 A P) (N (o_191 A P) L L) (N (o_260 A P) L L)) (N (o_157 A P) (N (o_225 A P) L L) L)) (N (o_100 A P) (N (o_141 A P) (N (o_207 A P) L L) L) (N (o_173 A P) (N (o_244 A P) L L) L)))) (N (o_46 A P) (N (o_58 A P) (N (o_77 A P) (N (o_115 A P) (N (o_187 A P) L L) (N (o_256 A P) L L)) (N (o_153 A P) (N (o_219 A P) L L) L)) (N (o_96 A P) (N (o_137 A P) (N (o_203 A P) L L) (N (o_272 A P) L L)) (N (o_169 A P) (N (o_237 A P) L L) L))) (N (o_66 A P) (N (o_85 A P) (N (o_126 A P) (N (o_195 A P) L L) (N (o_264 A P) L L)) (N (o_161 A P) (N (o_229 A P) L L) L)) (N (o_107 A P) (N (o_145 A P) (N (o_211 A P) L L) L) (N (o_179 A P) (N (o_248 A P) L L) L))))))))
def tree_85 (A : AT) : Params → PySem.W.BT := (fun P => (N (boot_o_0 P) (N (boot_o_1 P) (N (o_71 A P) (N (boot_o_7 P) (N (o_51 A P) (N (o_73 A P) L L) L) (N (o_59 A P) (N (o_78 A P) L L) L)) (N (o_43 A P) (N (o_55 A P) (N (o_74 A P) L L) L) (N (o_63 A P) (N (o_82 A P) L L) L))) (N (boot_o_5 P) (N (boot_o_9 P) (N (o_53 A P) (N (o_69 A P) L L) L) (N (o_61 A P) (N (o_80 A P) L L) L)) (N (o_45 A P) (N (o_57 A P) (N (o_76 A P) L L) L) (N (o_65 A P) (N (o_84 A P) L L) L)))) (N (boot_o_2 P) (N (boot_o_4 P) (N (boot_o_8 P) (N (o_52 A P) (N (o_68 A P) L L) L) (N (o_60 A P) (N (o_79 A P) L L) L)) (N (o_72 A P) (N (o_56 A P) (N (o_75 A P) L L) L) (N (o_64 A P) (N (o_83 A P) L L) L))) (N (boot_o_6 P) (N (boot_o_10 P) (N (o_54 A P) (N (o_70 A P) L L) L) (N (o_62 A P) (N (o_81 A P) L L) L)) (N (o_46 A P) (N (o_58 A P) (N (o_77 A P) L L) L) (N (o_66 A P) (N (o_85 A P) L L) L))))))
def tree_354 (A : AT) : Params → PySem.W.BT := (fun P => (N (boot_o_0 P) (N (boot_o_1 P) (N (o_326 A P) (N (boot_o_7 P) (N (o_51 A P) (N (o_133 A P) (N (o_108 A P) (N (o_180 A P) (N (o_318 A P) L L) L) (N (o_249 A P) L L)) (N (o_146 A P) (N (o_212 A P) (N (o_353 A P) L L) L) (N (o_283 A P) L L))) (N (o_89 A P) (N (o_127 A P) (N (o_196 A P) (N (o_337 A P) L L) L) (N (o_265 A P) L L)) (N (o_162 A P) (N (o_230 A P) L L) (N (o_302 A P) L L)))) (N (o_59 A P) (N (o_78 A P) (N (o_119 A P) (N (o_188 A P) (N (o_329 A P) L L) L) (N (o_257 A P) L L)) (N (o_154 A P) (N (o_220 A P) L L) (N (o_294 A P) L L))) (N (o_97 A P) (N (o_138 A P) (N (o_204 A P) (N (o_345 A P) L L) L) (N (o_273 A P) L L)) (N (o_170 A P) (N (o_241 A P) L L) (N (o_310 A P) L L))))) (N (o_43 A P) (N (o_55 A P) (N (o_74 A P) (N (o_112 A P) (N (o_184 A P) (N (o_322 A P) L L) L) (N (o_253 A P) L L)) (N (o_150 A P) (N (o_216 A P) L L) (N (o_287 A P) L L))) (N (o_93 A P) (N (o_134 A P) (N (o_200 A P) (N (o_341 A P) L L) L) (N (o_269 A P) L L)) (N (o_166 A P) (N (o_234 A P) L L) (N (o_306 A P) L L)))) (N (o_63 A P) (N (o_82 A P) (N (o_123 A P) (N (o_192 A P) (N (o_333 A P) L L) L) (N (o_261 A P) L L)) (N (o_158 A P) (N (o_226 A P) L L) (N (o_298 A P) L L))) (N (o_104 A P) (N (o_142 A P) (N (o_208 A P) (N (o_349 A P) L L) L) (N (o_279 A P) L L)) (N (o_174 A P) (N (o_245 A P) L L) (N (o_314 A P) L L)))))) (N (boot_o_5 P) (N (boot_o_9 P) (N (o_53 A P) (N (o_69 A P) (N (o_110 A P) (N (o_182 A P) (N (o_320 A P) L L) L) (N (o_251 A P) L L)) (N (o_148 A P) (N (o_214 A P) L L) (N (o_328 A P) L L))) (N (o_91 A P) (N (o_129 A P) (N (o_198 A P) (N (o_339 A P) L L) L) (N (o_267 A P) L L)) (N (o_164 A P) (N (o_232 A P) L L) (N (o_304 A P) L L)))) (N (o_61 A P) (N (o_80 A P) (N (o_121 A P) (N (o_190 A P) (N (o_331 A P) L L) L) (N (o_259 A P) L L)) (N (o_156 A P) (N (o_224 A P) L L) (N (o_296 A P) L L))) (N (o_99 A P) (N (o_140 A P) (N (o_206 A P) (N (o_347 A P) L L) L) (N (o_277 A P) L L)) (N (o_172 A P) (N (o_243 A P) L L) (N (o_312 A P) L L))))) (N (o_45 A P) (N (o_57 A P) (N (o_76 A P) (N (o_114 A P) (N (o_186 A P) (N (o_324 A P) L L) L) (N (o_255 A P) L L)) (N (o_152 A P) (N (o_218 A P) L L) (N (o_289 A P) L L))) (N (o_95 A P) (N (o_136 A P) (N (o_202 A P) (N (o_343 A P) L L) L) (N (o_271 A P) L L)) (N (o_168 A P) (N (o_236 A P) L L) (N (o_308 A P) L L)))) (N (o_65 A P) (N (o_84 A P) (N (o_125 A P) (N (o_194 A P) (N (o_335 A P) L L) L) (N (o_263 A P) L L)) (N (o_160 A P) (N (o_228 A P) L L) (N (o_300 A P) L L))) (N (o_106 A P) (N (o_144 A P) (N (o_210 A P) (N (o_351 A P) L L) L) (N (o_281 A P) L L)) (N (o_178 A P) (N (o_247 A P) L L) (N (o_316 A P) L L))))))) (N (boot_o_2 P) (N (boot_o_4 P) (N (boot_o_8 P) (N (o_52 A P) (N (o_68 A P) (N (o_109 A P) (N (o_181 A P) (N (o_319 A P) L L) L) (N (o_250 A P) L L)) (N (o_147 A P) (N (o_213 A P) (N (o_354 A P) L L) L) (N (o_284 A P) L L))) (N (o_90 A P) (N (o_128 A P) (N (o_197 A P) (N (o_338 A P) L L) L) (N (o_266 A P) L L)) (N (o_163 A P) (N (o_231 A P) L L) (N (o_303 A P) L L)))) (N (o_60 A P) (N (o_79 A P) (N (o_120 A P) (N (o_189 A P) (N (o_330 A P) L L) L) (N (o_258 A P) L L)) (N (o_155 A P) (N (o_221 A P) L L) (N (o_295 A P) L L))) (N (o_98 A P) (N (o_139 A P) (N (o_205 A P) (N (o_346 A P) L L) L) (N (o_276 A P) L L)) (N (o_171 A P) (N (o_242 A P) L L) (N (o_311 A P) L L))))) (N (o_327 A P) (N (o_56 A P) (N (o_75 A P) (N (o_113 A P) (N (o_185 A P) (N (o_323 A P) L L) L) (N (o_254 A P) L L)) (N (o_151 A P) (N (o_217 A P) L L) (N (o_288 A P) L L))) (N (o_94 A P) (N (o_135 A P) (N (o_201 A P) (N (o_342 A P) L L) L) (N (o_270 A P) L L)) (N (o_167 A P) (N (o_235 A P) L L) (N (o_307 A P) L L)))) (N (o_64 A P) (N (o_83 A P) (N (o_124 A P) (N (o_193 A P) (N (o_334 A P) L L) L) (N (o_262 A P) L L)) (N (o_159 A P) (N (o_227 A P) L L) (N (o_299 A P) L L))) (N (o_105 A P) (N (o_143 A P) (N (o_209 A P) (N (o_350 A P) L L) L) (N (o_280 A P) L L)) (N (o_177 A P) (N (o_246 A P) L L) (N (o_315 A P) L L)))))) (N (boot_o_6 P) (N (boot_o_10 P) (N (o_54 A P) (N (o_70 A P) (N (o_111 A P) (N (o_183 A P) (N (o_321 A P) L L) L) (N (o_252 A P) L L)) (N (o_149 A P) (N (o_215 A P) L L) (N (o_286 A P) L L))) (N (o_92 A P) (N (o_130 A P) (N (o_199 A P) (N (o_340 A P) L L) L) (N (o_268 A P) L L)) (N (o_165 A P) (N (o_240 A P) L L) (N (o_305 A P) L L)))) (N (o_62 A P) (N (o_81 A P) (N (o_122 A P) (N (o_191 A P) (N (o_332 A P) L L) L) (N (o_260 A P) L L)) (N (o_157 A P) (N (o_225 A P) L L) (N (o_297 A P) L L))) (N (o_100 A P) (N (o_141 A P) (N (o_207 A P) (N (o_348 A P) L L) L) (N (o_278 A P) L L)) (N (o_173 A P) (N (o_244 A P) L L) (N (o_313 A P) L L))))) (N (o_46 A P) (N (o_58 A P) (N (o_77 A P) (N (o_115 A P) (N (o_187 A P) (N (o_325 A P) L L) L) (N (o_256 A P) L L)) (N (o_153 A P) (N (o_219 A P) L L) (N (o_293 A P) L L))) (N (o_96 A P) (N (o_137 A P) (N (o_203 A P) (N (o_344 A P) L L) L) (N (o_272 A P) L L)) (N (o_169 A P) (N (o_237 A P) L L) (N (o_309 A P) L L)))) (N (o_66 A P) (N (o_85 A P) (N (o_126 A P) (N (o_195 A P) (N (o_336 A P) L L) L) (N (o_264 A P) L L)) (N (o_161 A P) (N (o_229 A P) L L) (N (o_301 A P) L L))) (N (o_107 A P) (N (o_145 A P) (N (o_211 A P) (N (o_352 A P) L L) L) (N (o_282 A P) L L)) (N (o_179 A P) (N (o_248 A P) L L) (N (o_317 A P) L L)))))))))
def tree_378 (A : AT) : Params → PySem.W.BT := (fun P => (N (boot_o_0 P) (N (boot_o_1 P) (N (o_355 A P) (N (boot_o_7 P) (N (o_51 A P) (N (o_133 A P) (N (o_108 A P) (N (o_180 A P) (N (o_318 A P) L L) L) (N (o_249 A P) L L)) (N (o_146 A P) (N (o_212 A P) (N (o_353 A P) L L) L) (N (o_283 A P) L L))) (N (o_89 A P) (N (o_127 A P) (N (o_196 A P) (N (o_337 A P) L L) L) (N (o_265 A P) L L)) (N (o_162 A P) (N (o_230 A P) (N (o_371 A P) L L) L) (N (o_302 A P) L L)))) (N (o_59 A P) (N (o_78 A P) (N (o_119 A P) (N (o_188 A P) (N (o_329 A P) L L) L) (N (o_257 A P) L L)) (N (o_154 A P) (N (o_220 A P) (N (o_363 A P) L L) L) (N (o_294 A P) L L))) (N (o_97 A P) (N (o_138 A P) (N (o_204 A P) (N (o_345 A P) L L) L) (N (o_273 A P) L L)) (N (o_170 A P) (N (o_241 A P) L L) (N (o_310 A P) L L))))) (N (o_43 A P) (N (o_55 A P) (N (o_74 A P) (N (o_112 A P) (N (o_184 A P) (N (o_322 A P) L L) L) (N (o_253 A P) L L)) (N (o_150 A P) (N (o_216 A P) (N (o_359 A P) L L) L) (N (o_287 A P) L L))) (N (o_93 A P) (N (o_134 A P) (N (o_200 A P) (N (o_341 A P) L L) L) (N (o_269 A P) L L)) (N (o_166 A P) (N (o_234 A P) (N (o_375 A P) L L) L) (N (o_306 A P) L L)))) (N (o_63 A P) (N (o_82 A P) (N (o_123 A P) (N (o_192 A P) (N (o_333 A P) L L) L) (N (o_261 A P) L L)) (N (o_158 A P) (N (o_226 A P) (N (o_367 A P) L L) L) (N (o_298 A P) L L))) (N (o_104 A P) (N (o_142 A P) (N (o_208 A P) (N (o_349 A P) L L) L) (N (o_279 A P) L L)) (N (o_174 A P) (N (o_245 A P) L L) (N (o_314 A P) L L)))))) (N (boot_o_5 P) (N (boot_o_9 P) (N (o_53 A P) (N (o_69 A P) (N (o_110 A P) (N (o_182 A P) (N (o_320 A P) L L) L) (N (o_251 A P) L L)) (N (o_148 A P) (N (o_214 A P) (N (o_357 A P) L L) L) (N (o_328 A P) L L))) (N (o_91 A P) (N (o_129 A P) (N (o_198 A P) (N (o_339 A P) L L) L) (N (o_267 A P) L L)) (N (o_164 A P) (N (o_232 A P) (N (o_373 A P) L L) L) (N (o_304 A P) L L)))) (N (o_61 A P) (N (o_80 A P) (N (o_121 A P) (N (o_190 A P) (N (o_331 A P) L L) L) (N (o_259 A P) L L)) (N (o_156 A P) (N (o_224 A P) (N (o_365 A P) L L) L) (N (o_296 A P) L L))) (N (o_99 A P) (N (o_140 A P) (N (o_206 A P) (N (o_347 A P) L L) L) (N (o_277 A P) L L)) (N (o_172 A P) (N (o_243 A P) L L) (N (o_312 A P) L L))))) (N (o_45 A P) (N (o_57 A P) (N (o_76 A P) (N (o_114 A P) (N (o_186 A P) (N (o_324 A P) L L) L) (N (o_255 A P) L L)) (N (o_152 A P) (N (o_218 A P) (N (o_361 A P) L L) L) (N (o_289 A P) L L))) (N (o_95 A P) (N (o_136 A P) (N (o_202 A P) (N (o_343 A P) L L) L) (N (o_271 A P) L L)) (N (o_168 A P) (N (o_236 A P) (N (o_377 A P) L L) L) (N (o_308 A P) L L)))) (N (o_65 A P) (N (o_84 A P) (N (o_125 A P) (N (o_194 A P) (N (o_335 A P) L L) L) (N (o_263 A P) L L)) (N (o_160 A P) (N (o_228 A P) (N (o_369 A P) L L) L) (N (o_300 A P) L L))) (N (o_106 A P) (N (o_144 A P) (N (o_210 A P) (N (o_351 A P) L L) L) (N (o_281 A P) L L)) (N (o_178 A P) (N (o_247 A P) L L) (N (o_316 A P) L L))))))) (N (boot_o_2 P) (N (boot_o_4 P) (N (boot_o_8 P) (N (o_52 A P) (N (o_68 A P) (N (o_109 A P) (N (o_181 A P) (N (o_319 A P) L L) L) (N (o_250 A P) L L)) (N (o_147 A P) (N (o_213 A P) (N (o_354 A P) L L) L) (N (o_284 A P) L L))) (N (o_90 A P) (N (o_128 A P) (N (o_197 A P) (N (o_338 A P) L L) L) (N (o_266 A P) L L)) (N (o_163 A P) (N (o_231 A P) (N (o_372 A P) L L) L) (N (o_303 A P) L L)))) (N (o_60 A P) (N (o_79 A P) (N (o_120 A P) (N (o_189 A P) (N (o_330 A P) L L) L) (N (o_258 A P) L L)) (N (o_155 A P) (N (o_221 A P) (N (o_364 A P) L L) L) (N (o_295 A P) L L))) (N (o_98 A P) (N (o_139 A P) (N (o_205 A P) (N (o_346 A P) L L) L) (N (o_276 A P) L L)) (N (o_171 A P) (N (o_242 A P) L L) (N (o_311 A P) L L))))) (N (o_356 A P) (N (o_56 A P) (N (o_75 A P) (N (o_113 A P) (N (o_185 A P) (N (o_323 A P) L L) L) (N (o_254 A P) L L)) (N (o_151 A P) (N (o_217 A P) (N (o_360 A P) L L) L) (N (o_288 A P) L L))) (N (o_94 A P) (N (o_135 A P) (N (o_201 A P) (N (o_342 A P) L L) L) (N (o_270 A P) L L)) (N (o_167 A P) (N (o_235 A P) (N (o_376 A P) L L) L) (N (o_307 A P) L L)))) (N (o_64 A P) (N (o_83 A P) (N (o_124 A P) (N (o_193 A P) (N (o_334 A P) L L) L) (N (o_262 A P) L L)) (N (o_159 A P) (N (o_227 A P) (N (o_368 A P) L L) L) (N (o_299 A P) L L))) (N (o_105 A P) (N (o_143 A P) (N (o_209 A P) (N (o_350 A P) L L) L) (N (o_280 A P) L L)) (N (o_177 A P) (N (o_246 A P) L L) (N (o_315 A P) L L)))))) (N (boot_o_6 P) (N (boot_o_10 P) (N (o_54 A P) (N (o_70 A P) (N (o_111 A P) (N (o_183 A P) (N (o_321 A P) L L) L) (N (o_252 A P) L L)) (N (o_149 A P) (N (o_215 A P) (N (o_358 A P) L L) L) (N (o_286 A P) L L))) (N (o_92 A P) (N (o_130 A P) (N (o_199 A P) (N (o_340 A P) L L) L) (N (o_268 A P) L L)) (N (o_165 A P) (N (o_240 A P) (N (o_374 A P) L L) L) (N (o_305 A P) L L)))) (N (o_62 A P) (N (o_81 A P) (N (o_122 A P) (N (o_191 A P) (N (o_332 A P) L L) L) (N (o_260 A P) L L)) (N (o_157 A P) (N (o_225 A P) (N (o_366 A P) L L) L) (N (o_297 A P) L L))) (N (o_100 A P) (N (o_141 A P) (N (o_207 A P) (N (o_348 A P) L L) L) (N (o_278 A P) L L)) (N (o_173 A P) (N (o_244 A P) L L) (N (o_313 A P) L L))))) (N (o_46 A P) (N (o_58 A P) (N (o_77 A P) (N (o_115 A P) (N (o_187 A P) (N (o_325 A P) L L) L) (N (o_256 A P) L L)) (N (o_153 A P) (N (o_219 A P) (N (o_362 A P) L L) L) (N (o_293 A P) L L))) (N (o_96 A P) (N (o_137 A P) (N (o_203 A P) (N (o_344 A P) L L) L) (N (o_272 A P) L L)) (N (o_169 A P) (N (o_237 A P) (N (o_378 A P) L L) L) (N (o_309 A P) L L)))) (N (o_66 A P) (N (o_85 A P) (N (o_126 A P) (N (o_195 A P) (N (o_336 A P) L L) L) (N (o_264 A P) L L)) (N (o_161 A P) (N (o_229 A P) (N (o_370 A P) L L) L) (N (o_301 A P) L L))) (N (o_107 A P) (N (o_145 A P) (N (o_211 A P) (N (o_352 A P) L L) L) (N (o_282 A P) L L)) (N (o_179 A P) (N (o_248 A P) L L) (N (o_317 A P) L L)))))))))
def heap_565 (A : AT) : Params → PySem.Heap := (fun P => (Heap.mk (Array.mk [(boot_o_0 P), (boot_o_1 P), (boot_o_2 P), (o_551 A P), (boot_o_4 P), (boot_o_5 P), (boot_o_6 P), (boot_o_7 P), (boot_o_8 P), (boot_o_9 P), (boot_o_10 P), (o_43 A P), (o_552 A P), (o_45 A P), (o_46 A P), (o_51 A P), (o_52 A P), (o_53 A P), (o_54 A P), (o_55 A P), (o_56 A P), (o_57 A P), (o_58 A P), (o_59 A P), (o_60 A P), (o_61 A P), (o_62 A P), (o_63 A P), (o_64 A P), (o_65 A P), (o_66 A P), (o_133 A P), (o_68 A P), (o_69 A P), (o_70 A P), (o_74 A P), (o_75 A P), (o_76 A P), (o_77 A P), (o_78 A P), (o_79 A P), (o_80 A P), (o_81 A P), (o_82 A P), (o_83 A P), (o_84 A P), (o_85 A P), (o_89 A P), (o_90 A P), (o_91 A P), (o_92 A P), (o_93 A P), (o_94 A P), (o_95 A P), (o_96 A P), (o_97 A P), (o_98 A P), (o_99 A P), (o_100 A P), (o_104 A P), (o_105 A P), (o_106 A P), (o_107 A P), (o_108 A P), (o_109 A P), (o_110 A P), (o_111 A P), (o_112 A P), (o_113 A P), (o_114 A P), (o_115 A P), (o_119 A P), (o_120 A P), (o_121 A P), (o_122 A P), (o_123 A P), (o_124 A P), (o_125 A P), (o_126 A P), (o_127 A P), (o_128 A P), (o_129 A P), (o_130 A P), (o_134 A P), (o_135 A P), (o_136 A P), (o_137 A P), (o_138 A P), (o_139 A P), (o_140 A P), (o_141 A P), (o_142 A P), (o_143 A P), (o_144 A P), (o_145 A P), (o_146 A P), (o_147 A P), (o_148 A P), (o_149 A P), (o_150 A P), (o_151 A P), (o_152 A P), (o_153 A P), (o_154 A P), (o_155 A P), (o_156 A P), (o_157 A P), (o_158 A P), (o_159 A P), (o_160 A P), (o_161 A P), (o_162 A P), (o_163 A P), (o_164 A P), (o_165 A P), (o_166 A P), (o_167 A P), (o_168 A P), (o_169 A P), (o_170 A P), (o_171 A P), (o_172 A P), (o_173 A P), (o_174 A P), (o_177 A P), (o_178 A P), (o_179 A P), (o_180 A P), (o_181 A P), (o_182 A P), (o_183 A P), (o_184 A P), (o_185 A P), (o_186 A P), (o_187 A P), (o_188 A P), (o_189 A P), (o_190 A P), (o_191 A P), (o_192 A P), (o_193 A P), (o_194 A P), (o_195 A P), (o_196 A P), (o_197 A P), (o_198 A P), (o_199 A P), (o_200 A P), (o_201 A P), (o_202 A P), (o_203 A P), (o_204 A P), (o_205 A P), (o_206 A P), (o_207 A P), (o_208 A P), (o_209 A P), (o_210 A P), (o_211 A P), (o_212 A P), (o_213 A P), (o_214 A P), (o_215 A P), (o_216 A P), (o_217 A P), (o_218 A P), (o_219 A P), (o_220 A P), (o_221 A P), (o_224 A P), (o_225 A P), (o_226 A P), (o_227 A P), (o_228 A P), (o_229 A P), (o_230 A P), (o_231 A P), (o_232 A P), (o_240 A P), (o_234 A P), (o_235 A P), (o_236 A P), (o_237 A P), (o_241 A P), (o_242 A P), (o_243 A P), (o_244 A P), (o_245 A P), (o_246 A P), (o_247 A P), (o_248 A P), (o_249 A P), (o_250 A P), (o_251 A P), (o_252 A P), (o_253 A P), (o_254 A P), (o_255 A P), (o_256 A P), (o_257 A P), (o_258 A P), (o_259 A P), (o_260 A P), (o_261 A P), (o_262 A P), (o_263 A P), (o_264 A P), (o_265 A P), (o_266 A P), (o_267 A P), (o_268 A P), (o_269 A P), (o_270 A P), (o_271 A P), (o_272 A P), (o_273 A P), (o_276 A P), (o_277 A P), (o_278 A P), (o_279 A P), (o_280 A P), (o_281 A P), (o_282 A P), (o_283 A P), (o_284 A P), (o_328 A P), (o_286 A P), (o_287 A P), (o_288 A P), (o_289 A P), (o_293 A P), (o_294 A P), (o_295 A P), (o_296 A P), (o_297 A P), (o_298 A P), (o_299 A P), (o_300 A P), (o_301 A P), (o_302 A P), (o_303 A P), (o_304 A P), (o_305 A P), (o_306 A P), (o_307 A P), (o_308 A P), (o_309 A P), (o_310 A P), (o_311 A P), (o_312 A P), (o_313 A P), (o_314 A P), (o_315 A P), (o_316 A P), (o_317 A P), (o_318 A P), (o_319 A P), (o_320 A P), (o_321 A P), (o_322 A P), (o_323 A P), (o_324 A P), (o_325 A P), (o_329 A P), (o_330 A P), (o_331 A P), (o_332 A P), (o_333 A P), (o_334 A P), (o_335 A P), (o_336 A P), (o_337 A P), (o_338 A P), (o_339 A P), (o_340 A P), (o_341 A P), (o_342 A P), (o_343 A P), (o_344 A P), (o_345 A P), (o_346 A P), (o_347 A P), (o_348 A P), (o_349 A P), (o_350 A P), (o_351 A P), (o_352 A P), (o_353 A P), (o_354 A P), (o_357 A P), (o_358 A P), (o_359 A P), (o_360 A P), (o_361 A P), (o_362 A P), (o_363 A P), (o_364 A P), (o_365 A P), (o_366 A P), (o_367 A P), (o_368 A P), (o_369 A P), (o_370 A P), (o_371 A P), (o_372 A P), (o_373 A P), (o_374 A P), (o_375 A P), (o_376 A P), (o_377 A P), (o_378 A P), (o_381 A P), (o_382 A P), (o_383 A P), (o_384 A P), (o_385 A P), (o_386 A P), (o_387 A P), (o_388 A P), (o_389 A P), (o_390 A P), (o_391 A P), (o_392 A P), (o_393 A P), (o_394 A P), (o_395 A P), (o_396 A P), (o_397 A P), (o_398 A P), (o_399 A P), (o_400 A P), (o_401 A P), (o_402 A P), (o_403 A P), (o_404 A P), (o_405 A P), (o_406 A P), (o_407 A P), (o_408 A P), (o_409 A P), (o_412 A P), (o_413 A P), (o_414 A P), (o_415 A P), (o_416 A P), (o_417 A P), (o_418 A P), (o_419 A P), (o_420 A P), (o_421 A P), (o_422 A P), (o_423 A P), (o_424 A P), (o_425 A P), (o_426 A P), (o_427 A P), (o_428 A P), (o_429 A P), (o_430 A P), (o_431 A P), (o_432 A P), (o_433 A P), (o_434 A P), (o_435 A P), (o_436 A P), (o_437 A P), (o_438 A P), (o_439 A P), (o_440 A P), (o_441 A P), (o_442 A P), (o_443 A P), (o_444 A P), (o_445 A P), (o_446 A P), (o_447 A P), (o_448 A P), (o_449 A P), (o_450 A P), (o_451 A P), (o_452 A P), (o_453 A P), (o_454 A P), (o_455 A P), (o_456 A P), (o_457 A P), (o_458 A P), (o_459 A P), (o_460 A P), (o_461 A P), (o_462 A P), (o_463 A P), (o_464 A P), (o_465 A P), (o_466 A P), (o_467 A P), (o_468 A P), (o_471 A P), (o_472 A P), (o_473 A P), (o_474 A P), (o_475 A P), (o_476 A P), (o_477 A P), (o_478 A P), (o_479 A P), (o_480 A P), (o_481 A P), (o_482 A P), (o_483 A P), (o_484 A P), (o_485 A P), (o_486 A P), (o_487 A P), (o_488 A P), (o_489 A P), (o_490 A P), (o_491 A P), (o_492 A P), (o_493 A P), (o_494 A P), (o_495 A P), (o_496 A P), (o_497 A P), (o_498 A P), (o_499 A P), (o_500 A P), (o_501 A P), (o_502 A P), (o_503 A P), (o_504 A P), (o_505 A P), (o_506 A P), (o_507 A P), (o_508 A P), (o_509 A P), (o_510 A P), (o_511 A P), (o_512 A P), (o_513 A P), (o_514 A P), (o_515 A P), (o_516 A P), (o_517 A P), (o_518 A P), (o_519 A P), (o_520 A P), (o_521 A P), (o_522 A P), (o_523 A P), (o_524 A P), (o_525 A P), (o_526 A P), (o_527 A P), (o_528 A P), (o_529 A P), (o_530 A P), (o_531 A P), (o_532 A P), (o_533 A P), (o_534 A P), (o_535 A P), (o_536 A P), (o_537 A P), (o_538 A P), (o_539 A P), (o_540 A P), (o_541 A P), (o_542 A P), (o_543 A P), (o_544 A P), (o_545 A P), (o_546 A P), (o_547 A P), (o_548 A P), (o_549 A P), (o_550 A P), (o_553 A P), (o_554 A P), (o_555 A P), (o_556 A P), (o_557 A P), (o_558 A P), (o_559 A P), (o_560 A P), (o_561 A P), (o_562 A P), (o_563 A P), (o_564 A P)]) (Life.mk [] [] [] 0 [] [] false #[] [] 0 false false false 0 [2000, 10, 10] false 0 true [] [] 0 false)))
def tree_468 (A : AT) : Params → PySem.W.BT := (fun P => (N (boot_o_0 P) (N (boot_o_1 P) (N (o_410 A P) (N (boot_o_7 P) (N (o_51 A P) (N (o_133 A P) (N (o_108 A P) (N (o_180 A P) (N (o_318 A P) L L) (N (o_455 A P) L L)) (N (o_249 A P) (N (o_389 A P) L L) L)) (N (o_146 A P) (N (o_212 A P) (N (o_353 A P) L L) L) (N (o_283 A P) (N (o_423 A P) L L) L))) (N (o_89 A P) (N (o_127 A P) (N (o_196 A P) (N (o_337 A P) L L) L) (N (o_265 A P) (N (o_405 A P) L L) L)) (N (o_162 A P) (N (o_230 A P) (N (o_371 A P) L L) L) (N (o_302 A P) (N (o_439 A P) L L) L)))) (N (o_59 A P) (N (o_78 A P) (N (o_119 A P) (N (o_188 A P) (N (o_329 A P) L L) (N (o_463 A P) L L)) (N (o_257 A P) (N (o_397 A P) L L) L)) (N (o_154 A P) (N (o_220 A P) (N (o_363 A P) L L) L) (N (o_294 A P) (N (o_431 A P) L L) L))) (N (o_97 A P) (N (o_138 A P) (N (o_204 A P) (N (o_345 A P) L L) L) (N (o_273 A P) (N (o_415 A P) L L) L)) (N (o_170 A P) (N (o_241 A P) (N (o_381 A P) L L) L) (N (o_310 A P) (N (o_447 A P) L L) L))))) (N (o_43 A P) (N (o_55 A P) (N (o_74 A P) (N (o_112 A P) (N (o_184 A P) (N (o_322 A P) L L) (N (o_459 A P) L L)) (N (o_253 A P) (N (o_393 A P) L L) L)) (N (o_150 A P) (N (o_216 A P) (N (o_359 A P) L L) L) (N (o_287 A P) (N (o_427 A P) L L) L))) (N (o_93 A P) (N (o_134 A P) (N (o_200 A P) (N (o_341 A P) L L) L) (N (o_269 A P) (N (o_409 A P) L L) L)) (N (o_166 A P) (N (o_234 A P) (N (o_375 A P) L L) L) (N (o_306 A P) (N (o_443 A P) L L) L)))) (N (o_63 A P) (N (o_82 A P) (N (o_123 A P) (N (o_192 A P) (N (o_333 A P) L L) (N (o_467 A P) L L)) (N (o_261 A P) (N (o_401 A P) L L) L)) (N (o_158 A P) (N (o_226 A P) (N (o_367 A P) L L) L) (N (o_298 A P) (N (o_435 A P) L L) L))) (N (o_104 A P) (N (o_142 A P) (N (o_208 A P) (N (o_349 A P) L L) L) (N (o_279 A P) (N (o_419 A P) L L) L)) (N (o_174 A P) (N (o_245 A P) (N (o_385 A P) L L) L) (N (o_314 A P) (N (o_451 A P) L L) L)))))) (N (boot_o_5 P) (N (boot_o_9 P) (N (o_53 A P) (N (o_69 A P) (N (o_110 A P) (N (o_182 A P) (N (o_320 A P) L L) (N (o_457 A P) L L)) (N (o_251 A P) (N (o_391 A P) L L) L)) (N (o_148 A P) (N (o_214 A P) (N (o_357 A P) L L) L) (N (o_328 A P) (N (o_425 A P) L L) L))) (N (o_91 A P) (N (o_129 A P) (N (o_198 A P) (N (o_339 A P) L L) L) (N (o_267 A P) (N (o_407 A P) L L) L)) (N (o_164 A P) (N (o_232 A P) (N (o_373 A P) L L) L) (N (o_304 A P) (N (o_441 A P) L L) L)))) (N (o_61 A P) (N (o_80 A P) (N (o_121 A P) (N (o_190 A P) (N (o_331 A P) L L) (N (o_465 A P) L L)) (N (o_259 A P) (N (o_399 A P) L L) L)) (N (o_156 A P) (N (o_224 A P) (N (o_365 A P) L L) L) (N (o_296 A P) (N (o_433 A P) L L) L))) (N (o_99 A P) (N (o_140 A P) (N (o_206 A P) (N (o_347 A P) L L) L) (N (o_277 A P) (N (o_417 A P) L L) L)) (N (o_172 A P) (N (o_243 A P) (N (o_383 A P) L L) L) (N (o_312 A P) (N (o_449 A P) L L) L))))) (N (o_45 A P) (N (o_57 A P) (N (o_76 A P) (N (o_114 A P) (N (o_186 A P) (N (o_324 A P) L L) (N (o_461 A P) L L)) (N (o_255 A P) (N (o_395 A P) L L) L)) (N (o_152 A P) (N (o_218 A P) (N (o_361 A P) L L) L) (N (o_289 A P) (N (o_429 A P) L L) L))) (N (o_95 A P) (N (o_136 A P) (N (o_202 A P) (N (o_343 A P) L L) L) (N (o_271 A P) (N (o_413 A P) L L) L)) (N (o_168 A P) (N (o_236 A P) (N (o_377 A P) L L) L) (N (o_308 A P) (N (o_445 A P) L L) L)))) (N (o_65 A P) (N (o_84 A P) (N (o_125 A P) (N (o_194 A P) (N (o_335 A P) L L) L) (N (o_263 A P) (N (o_403 A P) L L) L)) (N (o_160 A P) (N (o_228 A P) (N (o_369 A P) L L) L) (N (o_300 A P) (N (o_437 A P) L L) L))) (N (o_106 A P) (N (o_144 A P) (N (o_210 A P) (N (o_351 A P) L L) L) (N (o_281 A P) (N (o_421 A P) L L) L)) (N (o_178 A P) (N (o_247 A P) (N (o_387 A P) L L) L) (N (o_316 A P) (N (o_453 A P) L L) L))))))) (N (boot_o_2 P) (N (boot_o_4 P) (N (boot_o_8 P) (N (o_52 A P) (N (o_68 A P) (N (o_109 A P) (N (o_181 A P) (N (o_319 A P) L L) (N (o_456 A P) L L)) (N (o_250 A P) (N (o_390 A P) L L) L)) (N (o_147 A P) (N (o_213 A P) (N (o_354 A P) L L) L) (N (o_284 A P) (N (o_424 A P) L L) L))) (N (o_90 A P) (N (o_128 A P) (N (o_197 A P) (N (o_338 A P) L L) L) (N (o_266 A P) (N (o_406 A P) L L) L)) (N (o_163 A P) (N (o_231 A P) (N (o_372 A P) L L) L) (N (o_303 A P) (N (o_440 A P) L L) L)))) (N (o_60 A P) (N (o_79 A P) (N (o_120 A P) (N (o_189 A P) (N (o_330 A P) L L) (N (o_464 A P) L L)) (N (o_258 A P) (N (o_398 A P) L L) L)) (N (o_155 A P) (N (o_221 A P) (N (o_364 A P) L L) L) (N (o_295 A P) (N (o_432 A P) L L) L))) (N (o_98 A P) (N (o_139 A P) (N (o_205 A P) (N (o_346 A P) L L) L) (N (o_276 A P) (N (o_416 A P) L L) L)) (N (o_171 A P) (N (o_242 A P) (N (o_382 A P) L L) L) (N (o_311 A P) (N (o_448 A P) L L) L))))) (N (o_411 A P) (N (o_56 A P) (N (o_75 A P) (N (o_113 A P) (N (o_185 A P) (N (o_323 A P) L L) (N (o_460 A P) L L)) (N (o_254 A P) (N (o_394 A P) L L) L)) (N (o_151 A P) (N (o_217 A P) (N (o_360 A P) L L) L) (N (o_288 A P) (N (o_428 A P) L L) L))) (N (o_94 A P) (N (o_135 A P) (N (o_201 A P) (N (o_342 A P) L L) L) (N (o_270 A P) (N (o_412 A P) L L) L)) (N (o_167 A P) (N (o_235 A P) (N (o_376 A P) L L) L) (N (o_307 A P) (N (o_444 A P) L L) L)))) (N (o_64 A P) (N (o_83 A P) (N (o_124 A P) (N (o_193 A P) (N (o_334 A P) L L) (N (o_468 A P) L L)) (N (o_262 A P) (N (o_402 A P) L L) L)) (N (o_159 A P) (N (o_227 A P) (N (o_368 A P) L L) L) (N (o_299 A P) (N (o_436 A P) L L) L))) (N (o_105 A P) (N (o_143 A P) (N (o_209 A P) (N (o_350 A P) L L) L) (N (o_280 A P) (N (o_420 A P) L L) L)) (N (o_177 A P) (N (o_246 A P) (N (o_386 A P) L L) L) (N (o_315 A P) (N (o_452 A P) L L) L)))))) (N (boot_o_6 P) (N (boot_o_10 P) (N (o_54 A P) (N (o_70 A P) (N (o_111 A P) (N (o_183 A P) (N (o_321 A P) L L) (N (o_458 A P) L L)) (N (o_252 A P) (N (o_392 A P) L L) L)) (N (o_149 A P) (N (o_215 A P) (N (o_358 A P) L L) L) (N (o_286 A P) (N (o_426 A P) L L) L))) (N (o_92 A P) (N (o_130 A P) (N (o_199 A P) (N (o_340 A P) L L) L) (N (o_268 A P) (N (o_408 A P) L L) L)) (N (o_165 A P) (N (o_240 A P) (N (o_374 A P) L L) L) (N (o_305 A P) (N (o_442 A P) L L) L)))) (N (o_62 A P) (N (o_81 A P) (N (o_122 A P) (N (o_191 A P) (N (o_332 A P) L L) (N (o_466 A P) L L)) (N (o_260 A P) (N (o_400 A P) L L) L)) (N (o_157 A P) (N (o_225 A P) (N (o_366 A P) L L) L) (N (o_297 A P) (N (o_434 A P) L L) L))) (N (o_100 A P) (N (o_141 A P) (N (o_207 A P) (N (o_348 A P) L L) L) (N (o_278 A P) (N (o_418 A P) L L) L)) (N (o_173 A P) (N (o_244 A P) (N (o_384 A P) L L) L) (N (o_313 A P) (N (o_450 A P) L L) L))))) (N (o_46 A P) (N (o_58 A P) (N (o_77 A P) (N (o_115 A P) (N (o_187 A P) (N (o_325 A P) L L) (N (o_462 A P) L L)) (N (o_256 A P) (N (o_396 A P) L L) L)) (N (o_153 A P) (N (o_219 A P) (N (o_362 A P) L L) L) (N (o_293 A P) (N (o_430 A P) L L) L))) (N (o_96 A P) (N (o_137 A P) (N (o_203 A P) (N (o_344 A P) L L) L) (N (o_272 A P) (N (o_414 A P) L L) L)) (N (o_169 A P) (N (o_237 A P) (N (o_378 A P) L L) L) (N (o_309 A P) (N (o_446 A P) L L) L)))) (N (o_66 A P) (N (o_85 A P) (N (o_126 A P) (N (o_195 A P) (N (o_336 A P) L L) L) (N (o_264 A P) (N (o_404 A P) L L) L)) (N (o_161 A P) (N (o_229 A P) (N (o_370 A P) L L) L) (N (o_301 A P) (N (o_438 A P) L L) L))) (N (o_107 A P) (N (o_145 A P) (N (o_211 A P) (N (o_352 A P) L L) L) (N (o_282 A P) (N (o_422 A P) L L) L)) (N (o_179 A P) (N (o_248 A P) (N (o_388 A P) L L) L) (N (o_317 A P) (N (o_454 A P) L L) L)))))))))
def tree_237 (A : AT) : Params → PySem.W.BT := (fun P => (N (boot_o_0 P) (N (boot_o_1 P) (N (o_222 A P) (N (boot_o_7 P) (N (o_51 A P) (N (o_133 A P) (N (o_108 A P) (N (o_180 A P) L L) L) (N (o_146 A P) (N (o_212 A P) L L) L)) (N (o_89 A P) (N (o_127 A P) (N (o_196 A P) L L) L) (N (o_162 A P) (N (o_230 A P) L L) L))) (N (o_59 A P) (N (o_78 A P) (N (o_119 A P) (N (o_188 A P) L L) L) (N (o_154 A P) (N (o_220 A P) L L) L)) (N (o_97 A P) (N (o_138 A P) (N (o_204 A P) L L) L) (N (o_170 A P) L L)))) (N (o_43 A P) (N (o_55 A P) (N (o_74 A P) (N (o_112 A P) (N (o_184 A P) L L) L) (N (o_150 A P) (N (o_216 A P) L L) L)) (N (o_93 A P) (N (o_134 A P) (N (o_200 A P) L L) L) (N (o_166 A P) (N (o_234 A P) L L) L))) (N (o_63 A P) (N (o_82 A P) (N (o_123 A P) (N (o_192 A P) L L) L) (N (o_158 A P) (N (o_226 A P) L L) L)) (N (o_104 A P) (N (o_142 A P) (N (o_208 A P) L L) L) (N (o_174 A P) L L))))) (N (boot_o_5 P) (N (boot_o_9 P) (N (o_53 A P) (N (o_69 A P) (N (o_110 A P) (N (o_182 A P) L L) L) (N (o_148 A P) (N (o_214 A P) L L) L)) (N (o_91 A P) (N (o_129 A P) (N (o_198 A P) L L) L) (N (o_164 A P) (N (o_232 A P) L L) L))) (N (o_61 A P) (N (o_80 A P) (N (o_121 A P) (N (o_190 A P) L L) L) (N (o_156 A P) (N (o_224 A P) L L) L)) (N (o_99 A P) (N (o_140 A P) (N (o_206 A P) L L) L) (N (o_172 A P) L L)))) (N (o_45 A P) (N (o_57 A P) (N (o_76 A P) (N (o_114 A P) (N (o_186 A P) L L) L) (N (o_152 A P) (N (o_218 A P) L L) L)) (N (o_95 A P) (N (o_136 A P) (N (o_202 A P) L L) L) (N (o_168 A P) (N (o_236 A P) L L) L))) (N (o_65 A P) (N (o_84 A P) (N (o_125 A P) (N (o_194 A P) L L) L) (N (o_160 A P) (N (o_228 A P) L L) L)) (N (o_106 A P) (N (o_144 A P) (N (o_210 A P) L L) L) (N (o_178 A P) L L)))))) (N (boot_o_2 P) (N (boot_o_4 P) (N (boot_o_8 P) (N (o_52 A P) (N (o_68 A P) (N (o_109 A P) (N (o_181 A P) L L) L) (N (o_147 A P) (N (o_213 A P) L L) L)) (N (o_90 A P) (N (o_128 A P) (N (o_197 A P) L L) L) (N (o_163 A P) (N (o_231 A P) L L) L))) (N (o_60 A P) (N (o_79 A P) (N (o_120 A P) (N (o_189 A P) L L) L) (N (o_155 A P) (N (o_221 A P) L L) L)) (N (o_98 A P) (N (o_139 A P) (N (o_205 A P) L L) L) (N (o_171 A P) L L)))) (N (o_223 A P) (N (o_56 A P) (N (o_75 A P) (N (o_113 A P) (N (o_185 A P) L L) L) (N (o_151 A P) (N (o_217 A P) L L) L)) (N (o_94 A P) (N (o_135 A P) (N (o_201 A P) L L) L) (N (o_167 A P) (N (o_235 A P) L L) L))) (N (o_64 A P) (N (o_83 A P) (N (o_124 A P) (N (o_193 A P) L L) L) (N (o_159 A P) (N (o_227 A P) L L) L)) (N (o_105 A P) (N (o_143 A P) (N (o_209 A P) L L) L) (N (o_177 A P) L L))))) (N (boot_o_6 P) (N (boot_o_10 P) (N (o_54 A P) (N (o_70 A P) (N (o_111 A P) (N (o_183 A P) L L) L) (N (o_149 A P) (N (o_215 A P) L L) L)) (N (o_92 A P) (N (o_130 A P) (N (o_199 A P) L L) L) (N (o_165 A P) (N (o_233 A P) L L) L))) (N (o_62 A P) (N (o_81 A P) (N (o_122 A P) (N (o_191 A P) L L) L) (N (o_157 A P) (N (o_225 A P) L L) L)) (N (o_100 A P) (N (o_141 A P) (N (o_207 A P) L L) L) (N (o_173 A P) L L)))) (N (o_46 A P) (N (o_58 A P) (N (o_77 A P) (N (o_115 A P) (N (o_187 A P) L L) L) (N (o_153 A P) (N (o_219 A P) L L) L)) (N (o_96 A P) (N (o_137 A P) (N (o_203 A P) L L) L) (N (o_169 A P) (N (o_237 A P) L L) L))) (N (o_66 A P) (N (o_85 A P) (N (o_126 A P) (N (o_195 A P) L L) L) (N (o_161 A P) (N (o_229 A P) L L) L)) (N (o_107 A P) (N (o_145 A P) (N (o_211 A P) L L) L) (N (o_179 A P) L L))))))))
def tree_130 (A : AT) : Params → PySem.W.BT := (fun P => (N (boot_o_0 P) (N (boot_o_1 P) (N (o_116 A P) (N (boot_o_7 P) (N (o_51 A P) (N (o_118 A P) (N (o_108 A P) L L) L) (N (o_89 A P) (N (o_127 A P) L L) L)) (N (o_59 A P) (N (o_78 A P) (N (o_119 A P) L L) L) (N (o_97 A P) L L))) (N (o_43 A P) (N (o_55 A P) (N (o_74 A P) (N (o_112 A P) L L) L) (N (o_93 A P) L L)) (N (o_63 A P) (N (o_82 A P) (N (o_123 A P) L L) L) (N (o_104 A P) L L)))) (N (boot_o_5 P) (N (boot_o_9 P) (N (o_53 A P) (N (o_69 A P) (N (o_110 A P) L L) L) (N (o_91 A P) (N (o_129 A P) L L) L)) (N (o_61 A P) (N (o_80 A P) (N (o_121 A P) L L) L) (N (o_99 A P) L L))) (N (o_45 A P) (N (o_57 A P) (N (o_76 A P) (N (o_114 A P) L L) L) (N (o_95 A P) L L)) (N (o_65 A P) (N (o_84 A P) (N (o_125 A P) L L) L) (N (o_106 A P) L L))))) (N (boot_o_2 P) (N (boot_o_4 P) (N (boot_o_8 P) (N (o_52 A P) (N (o_68 A P) (N (o_109 A P) L L) L) (N (o_90 A P) (N (o_128 A P) L L) L)) (N (o_60 A P) (N (o_79 A P) (N (o_120 A P) L L) L) (N (o_98 A P) L L))) (N (o_117 A P) (N (o_56 A P) (N (o_75 A P) (N (o_113 A P) L L) L) (N (o_94 A P) L L)) (N (o_64 A P) (N (o_83 A P) (N (o_124 A P) L L) L) (N (o_105 A P) L L)))) (N (boot_o_6 P) (N (boot_o_10 P) (N (o_54 A P) (N (o_70 A P) (N (o_111 A P) L L) L) (N (o_92 A P) (N (o_130 A P) L L) L)) (N (o_62 A P) (N (o_81 A P) (N (o_122 A P) L L) L) (N (o_100 A P) L L))) (N (o_46 A P) (N (o_58 A P) (N (o_77 A P) (N (o_115 A P) L L) L) (N (o_96 A P) L L)) (N (o_66 A P) (N (o_85 A P) (N (o_126 A P) L L) L) (N (o_107 A P) L L)))))))
def tree_564 (A : AT) : Params → PySem.W.BT := (fun P => (N (boot_o_0 P) (N (boot_o_1 P) (N (o_551 A P) (N (boot_o_7 P) (N (o_51 A P) (N (o_133 A P) (N (o_108 A P) (N (o_180 A P) (N (o_318 A P) L L) (N (o_455 A P) L L)) (N (o_249 A P) (N (o_389 A P) L L) (N (o_521 A P) L L))) (N (o_146 A P) (N (o_212 A P) (N (o_353 A P) L L) (N (o_489 A P) L L)) (N (o_283 A P) (N (o_423 A P) L L) (N (o_555 A P) L L)))) (N (o_89 A P) (N (o_127 A P) (N (o_196 A P) (N (o_337 A P) L L) (N (o_473 A P) L L)) (N (o_265 A P) (N (o_405 A P) L L) (N (o_537 A P) L L))) (N (o_162 A P) (N (o_230 A P) (N (o_371 A P) L L) (N (o_505 A P) L L)) (N (o_302 A P) (N (o_439 A P) L L) L)))) (N (o_59 A P) (N (o_78 A P) (N (o_119 A P) (N (o_188 A P) (N (o_329 A P) L L) (N (o_463 A P) L L)) (N (o_257 A P) (N (o_397 A P) L L) (N (o_529 A P) L L))) (N (o_154 A P) (N (o_220 A P) (N (o_363 A P) L L) (N (o_497 A P) L L)) (N (o_294 A P) (N (o_431 A P) L L) (N (o_563 A P) L L)))) (N (o_97 A P) (N (o_138 A P) (N (o_204 A P) (N (o_345 A P) L L) (N (o_481 A P) L L)) (N (o_273 A P) (N (o_415 A P) L L) (N (o_545 A P) L L))) (N (o_170 A P) (N (o_241 A P) (N (o_381 A P) L L) (N (o_513 A P) L L)) (N (o_310 A P) (N (o_447 A P) L L) L))))) (N (o_43 A P) (N (o_55 A P) (N (o_74 A P) (N (o_112 A P) (N (o_184 A P) (N (o_322 A P) L L) (N (o_459 A P) L L)) (N (o_253 A P) (N (o_393 A P) L L) (N (o_525 A P) L L))) (N (o_150 A P) (N (o_216 A P) (N (o_359 A P) L L) (N (o_493 A P) L L)) (N (o_287 A P) (N (o_427 A P) L L) (N (o_559 A P) L L)))) (N (o_93 A P) (N (o_134 A P) (N (o_200 A P) (N (o_341 A P) L L) (N (o_477 A P) L L)) (N (o_269 A P) (N (o_409 A P) L L) (N (o_541 A P) L L))) (N (o_166 A P) (N (o_234 A P) (N (o_375 A P) L L) (N (o_509 A P) L L)) (N (o_306 A P) (N (o_443 A P) L L) L)))) (N (o_63 A P) (N (o_82 A P) (N (o_123 A P) (N (o_192 A P) (N (o_333 A P) L L) (N (o_467 A P) L L)) (N (o_261 A P) (N (o_401 A P) L L) (N (o_533 A P) L L))) (N (o_158 A P) (N (o_226 A P) (N (o_367 A P) L L) (N (o_501 A P) L L)) (N (o_298 A P) (N (o_435 A P) L L) L))) (N (o_104 A P) (N (o_142 A P) (N (o_208 A P) (N (o_349 A P) L L) (N (o_485 A P) L L)) (N (o_279 A P) (N (o_419 A P) L L) (N (o_549 A P) L L))) (N (o_174 A P) (N (o_245 A P) (N (o_385 A P) L L) (N (o_517 A P) L L)) (N (o_314 A P) (N (o_451 A P) L L) L)))))) (N (boot_o_5 P) (N (boot_o_9 P) (N (o_53 A P) (N (o_69 A P) (N (o_110 A P) (N (o_182 A P) (N (o_320 A P) L L) (N (o_457 A P) L L)) (N (o_251 A P) (N (o_391 A P) L L) (N (o_523 A P) L L))) (N (o_148 A P) (N (o_214 A P) (N (o_357 A P) L L) (N (o_491 A P) L L)) (N (o_328 A P) (N (o_425 A P) L L) (N (o_557 A P) L L)))) (N (o_91 A P) (N (o_129 A P) (N (o_198 A P) (N (o_339 A P) L L) (N (o_475 A P) L L)) (N (o_267 A P) (N (o_407 A P) L L) (N (o_539 A P) L L))) (N (o_164 A P) (N (o_232 A P) (N (o_373 A P) L L) (N (o_507 A P) L L)) (N (o_304 A P) (N (o_441 A P) L L) L)))) (N (o_61 A P) (N (o_80 A P) (N (o_121 A P) (N (o_190 A P) (N (o_331 A P) L L) (N (o_465 A P) L L)) (N (o_259 A P) (N (o_399 A P) L L) (N (o_531 A P) L L))) (N (o_156 A P) (N (o_224 A P) (N (o_365 A P) L L) (N (o_499 A P) L L)) (N (o_296 A P) (N (o_433 A P) L L) L))) (N (o_99 A P) (N (o_140 A P) (N (o_206 A P) (N (o_347 A P) L L) (N (o_483 A P) L L)) (N (o_277 A P) (N (o_417 A P) L L) (N (o_547 A P) L L))) (N (o_172 A P) (N (o_243 A P) (N (o_383 A P) L L) (N (o_515 A P) L L)) (N (o_312 A P) (N (o_449 A P) L L) L))))) (N (o_45 A P) (N (o_57 A P) (N (o_76 A P) (N (o_114 A P) (N (o_186 A P) (N (o_324 A P) L L) (N (o_461 A P) L L)) (N (o_255 A P) (N (o_395 A P) L L) (N (o_527 A P) L L))) (N (o_152 A P) (N (o_218 A P) (N (o_361 A P) L L) (N (o_495 A P) L L)) (N (o_289 A P) (N (o_429 A P) L L) (N (o_561 A P) L L)))) (N (o_95 A P) (N (o_136 A P) (N (o_202 A P) (N (o_343 A P) L L) (N (o_479 A P) L L)) (N (o_271 A P) (N (o_413 A P) L L) (N (o_543 A P) L L))) (N (o_168 A P) (N (o_236 A P) (N (o_377 A P) L L) (N (o_511 A P) L L)) (N (o_308 A P) (N (o_445 A P) L L) L)))) (N (o_65 A P) (N (o_84 A P) (N (o_125 A P) (N (o_194 A P) (N (o_335 A P) L L) (N (o_471 A P) L L)) (N (o_263 A P) (N (o_403 A P) L L) (N (o_535 A P) L L))) (N (o_160 A P) (N (o_228 A P) (N (o_369 A P) L L) (N (o_503 A P) L L)) (N (o_300 A P) (N (o_437 A P) L L) L))) (N (o_106 A P) (N (o_144 A P) (N (o_210 A P) (N (o_351 A P) L L) (N (o_487 A P) L L)) (N (o_281 A P) (N (o_421 A P) L L) (N (o_553 A P) L L))) (N (o_178 A P) (N (o_247 A P) (N (o_387 A P) L L) (N (o_519 A P) L L)) (N (o_316 A P) (N (o_453 A P) L L) L))))))) (N (boot_o_2 P) (N (boot_o_4 P) (N (boot_o_8 P) (N (o_52 A P) (N (o_68 A P) (N (o_109 A P) (N (o_181 A P) (N (o_319 A P) L L) (N (o_456 A P) L L)) (N (o_250 A P) (N (o_390 A P) L L) (N (o_522 A P) L L))) (N (o_147 A P) (N (o_213 A P) (N (o_354 A P) L L) (N (o_490 A P) L L)) (N (o_284 A P) (N (o_424 A P) L L) (N (o_556 A P) L L)))) (N (o_90 A P) (N (o_128 A P) (N (o_197 A P) (N (o_338 A P) L L) (N (o_474 A P) L L)) (N (o_266 A P) (N (o_406 A P) L L) (N (o_538 A P) L L))) (N (o_163 A P) (N (o_231 A P) (N (o_372 A P) L L) (N (o_506 A P) L L)) (N (o_303 A P) (N (o_440 A P) L L) L)))) (N (o_60 A P) (N (o_79 A P) (N (o_120 A P) (N (o_189 A P) (N (o_330 A P) L L) (N (o_464 A P) L L)) (N (o_258 A P) (N (o_398 A P) L L) (N (o_530 A P) L L))) (N (o_155 A P) (N (o_221 A P) (N (o_364 A P) L L) (N (o_498 A P) L L)) (N (o_295 A P) (N (o_432 A P) L L) (N (o_564 A P) L L)))) (N (o_98 A P) (N (o_139 A P) (N (o_205 A P) (N (o_346 A P) L L) (N (o_482 A P) L L)) (N (o_276 A P) (N (o_416 A P) L L) (N (o_546 A P) L L))) (N (o_171 A P) (N (o_242 A P) (N (o_382 A P) L L) (N (o_514 A P) L L)) (N (o_311 A P) (N (o_448 A P) L L) L))))) (N (o_552 A P) (N (o_56 A P) (N (o_75 A P) (N (o_113 A P) (N (o_185 A P) (N (o_323 A P) L L) (N (o_460 A P) L L)) (N (o_254 A P) (N (o_394 A P) L L) (N (o_526 A P) L L))) (N (o_151 A P) (N (o_217 A P) (N (o_360 A P) L L) (N (o_494 A P) L L)) (N (o_288 A P) (N (o_428 A P) L L) (N (o_560 A P) L L)))) (N (o_94 A P) (N (o_135 A P) (N (o_201 A P) (N (o_342 A P) L L) (N (o_478 A P) L L)) (N (o_270 A P) (N (o_412 A P) L L) (N (o_542 A P) L L))) (N (o_167 A P) (N (o_235 A P) (N (o_376 A P) L L) (N (o_510 A P) L L)) (N (o_307 A P) (N (o_444 A P) L L) L)))) (N (o_64 A P) (N (o_83 A P) (N (o_124 A P) (N (o_193 A P) (N (o_334 A P) L L) (N (o_468 A P) L L)) (N (o_262 A P) (N (o_402 A P) L L) (N (o_534 A P) L L))) (N (o_159 A P) (N (o_227 A P) (N (o_368 A P) L L) (N (o_502 A P) L L)) (N (o_299 A P) (N (o_436 A P) L L) L))) (N (o_105 A P) (N (o_143 A P) (N (o_209 A P) (N (o_350 A P) L L) (N (o_486 A P) L L)) (N (o_280 A P) (N (o_420 A P) L L) (N (o_550 A P) L L))) (N (o_177 A P) (N (o_246 A P) (N (o_386 A P) L L) (N (o_518 A P) L L)) (N (o_315 A P) (N (o_452 A P) L L) L)))))) (N (boot_o_6 P) (N (boot_o_10 P) (N (o_54 A P) (N (o_70 A P) (N (o_111 A P) (N (o_183 A P) (N (o_321 A P) L L) (N (o_458 A P) L L)) (N (o_252 A P) (N (o_392 A P) L L) (N (o_524 A P) L L))) (N (o_149 A P) (N (o_215 A P) (N (o_358 A P) L L) (N (o_492 A P) L L)) (N (o_286 A P) (N (o_426 A P) L L) (N (o_558 A P) L L)))) (N (o_92 A P) (N (o_130 A P) (N (o_199 A P) (N (o_340 A P) L L) (N (o_476 A P) L L)) (N (o_268 A P) (N (o_408 A P) L L) (N (o_540 A P) L L))) (N (o_165 A P) (N (o_240 A P) (N (o_374 A P) L L) (N (o_508 A P) L L)) (N (o_305 A P) (N (o_442 A P) L L) L)))) (N (o_62 A P) (N (o_81 A P) (N (o_122 A P) (N (o_191 A P) (N (o_332 A P) L L) (N (o_466 A P) L L)) (N (o_260 A P) (N (o_400 A P) L L) (N (o_532 A P) L L))) (N (o_157 A P) (N (o_225 A P) (N (o_366 A P) L L) (N (o_500 A P) L L)) (N (o_297 A P) (N (o_434 A P) L L) L))) (N (o_100 A P) (N (o_141 A P) (N (o_207 A P) (N (o_348 A P) L L) (N (o_484 A P) L L)) (N (o_278 A P) (N (o_418 A P) L L) (N (o_548 A P) L L))) (N (o_173 A P) (N (o_244 A P) (N (o_384 A P) L L) (N (o_516 A P) L L)) (N (o_313 A P) (N (o_450 A P) L L) L))))) (N (o_46 A P) (N (o_58 A P) (N (o_77 A P) (N (o_115 A P) (N (o_187 A P) (N (o_325 A P) L L) (N (o_462 A P) L L)) (N (o_256 A P) (N (o_396 A P) L L) (N (o_528 A P) L L))) (N (o_153 A P) (N (o_219 A P) (N (o_362 A P) L L) (N (o_496 A P) L L)) (N (o_293 A P) (N (o_430 A P) L L) (N (o_562 A P) L L)))) (N (o_96 A P) (N (o_137 A P) (N (o_203 A P) (N (o_344 A P) L L) (N (o_480 A P) L L)) (N (o_272 A P) (N (o_414 A P) L L) (N (o_544 A P) L L))) (N (o_169 A P) (N (o_237 A P) (N (o_378 A P) L L) (N (o_512 A P) L L)) (N (o_309 A P) (N (o_446 A P) L L) L)))) (N (o_66 A P) (N (o_85 A P) (N (o_126 A P) (N (o_195 A P) (N (o_336 A P) L L) (N (o_472 A P) L L)) (N (o_264 A P) (N (o_404 A P) L L) (N (o_536 A P) L L))) (N (o_161 A P) (N (o_229 A P) (N (o_370 A P) L L) (N (o_504 A P) L L)) (N (o_301 A P) (N (o_438 A P) L L) L))) (N (o_107 A P) (N (o_145 A P) (N (o_211 A P) (N (o_352 A P) L L) (N (o_488 A P) L L)) (N (o_282 A P) (N (o_422 A P) L L) (N (o_554 A P) L L))) (N (o_179 A P) (N (o_248 A P) (N (o_388 A P) L L) (N (o_520 A P) L L)) (N (o_317 A P) (N (o_454 A P) L L) L)))))))))
def tree_70 (A : AT) : Params → PySem.W.BT := (fun P => (N (boot_o_0 P) (N (boot_o_1 P) (N (o_49 A P) (N (boot_o_7 P) (N (o_51 A P) (N (o_67 A P) L L) L) (N (o_59 A P) L L)) (N (o_43 A P) (N (o_55 A P) L L) (N (o_63 A P) L L))) (N (boot_o_5 P) (N (boot_o_9 P) (N (o_53 A P) (N (o_69 A P) L L) L) (N (o_61 A P) L L)) (N (o_45 A P) (N (o_57 A P) L L) (N (o_65 A P) L L)))) (N (boot_o_2 P) (N (boot_o_4 P) (N (boot_o_8 P) (N (o_52 A P) (N (o_68 A P) L L) L) (N (o_60 A P) L L)) (N (o_50 A P) (N (o_56 A P) L L) (N (o_64 A P) L L))) (N (boot_o_6 P) (N (boot_o_10 P) (N (o_54 A P) (N (o_70 A P) L L) L) (N (o_62 A P) L L)) (N (o_46 A P) (N (o_58 A P) L L) (N (o_66 A P) L L))))))
def tree_409 (A : AT) : Params → PySem.W.BT := (fun P => (N (boot_o_0 P) (N (boot_o_1 P) (N (o_379 A P) (N (boot_o_7 P) (N (o_51 A P) (N (o_133 A P) (N (o_108 A P) (N (o_180 A P) (N (o_318 A P) L L) L) (N (o_249 A P) (N (o_389 A P) L L) L)) (N (o_146 A P) (N (o_212 A P) (N (o_353 A P) L L) L) (N (o_283 A P) L L))) (N (o_89 A P) (N (o_127 A P) (N (o_196 A P) (N (o_337 A P) L L) L) (N (o_265 A P) (N (o_405 A P) L L) L)) (N (o_162 A P) (N (o_230 A P) (N (o_371 A P) L L) L) (N (o_302 A P) L L)))) (N (o_59 A P) (N (o_78 A P) (N (o_119 A P) (N (o_188 A P) (N (o_329 A P) L L) L) (N (o_257 A P) (N (o_397 A P) L L) L)) (N (o_154 A P) (N (o_220 A P) (N (o_363 A P) L L) L) (N (o_294 A P) L L))) (N (o_97 A P) (N (o_138 A P) (N (o_204 A P) (N (o_345 A P) L L) L) (N (o_273 A P) L L)) (N (o_170 A P) (N (o_241 A P) (N (o_381 A P) L L) L) (N (o_310 A P) L L))))) (N (o_43 A P) (N (o_55 A P) (N (o_74 A P) (N (o_112 A P) (N (o_184 A P) (N (o_322 A P) L L) L) (N (o_253 A P) (N (o_393 A P) L L) L)) (N (o_150 A P) (N (o_216 A P) (N (o_359 A P) L L) L) (N (o_287 A P) L L))) (N (o_93 A P) (N (o_134 A P) (N (o_200 A P) (N (o_341 A P) L L) L) (N (o_269 A P) (N (o_409 A P) L L) L)) (N (o_166 A P) (N (o_234 A P) (N (o_375 A P) L L) L) (N (o_306 A P) L L)))) (N (o_63 A P) (N (o_82 A P) (N (o_123 A P) (N (o_192 A P) (N (o_333 A P) L L) L) (N (o_261 A P) (N (o_401 A P) L L) L)) (N (o_158 A P) (N (o_226 A P) (N (o_367 A P) L L) L) (N (o_298 A P) L L))) (N (o_104 A P) (N (o_142 A P) (N (o_208 A P) (N (o_349 A P) L L) L) (N (o_279 A P) L L)) (N (o_174 A P) (N (o_245 A P) (N (o_385 A P) L L) L) (N (o_314 A P) L L)))))) (N (boot_o_5 P) (N (boot_o_9 P) (N (o_53 A P) (N (o_69 A P) (N (o_110 A P) (N (o_182 A P) (N (o_320 A P) L L) L) (N (o_251 A P) (N (o_391 A P) L L) L)) (N (o_148 A P) (N (o_214 A P) (N (o_357 A P) L L) L) (N (o_328 A P) L L))) (N (o_91 A P) (N (o_129 A P) (N (o_198 A P) (N (o_339 A P) L L) L) (N (o_267 A P) (N (o_407 A P) L L) L)) (N (o_164 A P) (N (o_232 A P) (N (o_373 A P) L L) L) (N (o_304 A P) L L)))) (N (o_61 A P) (N (o_80 A P) (N (o_121 A P) (N (o_190 A P) (N (o_331 A P) L L) L) (N (o_259 A P) (N (o_399 A P) L L) L)) (N (o_156 A P) (N (o_224 A P) (N (o_365 A P) L L) L) (N (o_296 A P) L L))) (N (o_99 A P) (N (o_140 A P) (N (o_206 A P) (N (o_347 A P) L L) L) (N (o_277 A P) L L)) (N (o_172 A P) (N (o_243 A P) (N (o_383 A P) L L) L) (N (o_312 A P) L L))))) (N (o_45 A P) (N (o_57 A P) (N (o_76 A P) (N (o_114 A P) (N (o_186 A P) (N (o_324 A P) L L) L) (N (o_255 A P) (N (o_395 A P) L L) L)) (N (o_152 A P) (N (o_218 A P) (N (o_361 A P) L L) L) (N (o_289 A P) L L))) (N (o_95 A P) (N (o_136 A P) (N (o_202 A P) (N (o_343 A P) L L) L) (N (o_271 A P) L L)) (N (o_168 A P) (N (o_236 A P) (N (o_377 A P) L L) L) (N (o_308 A P) L L)))) (N (o_65 A P) (N (o_84 A P) (N (o_125 A P) (N (o_194 A P) (N (o_335 A P) L L) L) (N (o_263 A P) (N (o_403 A P) L L) L)) (N (o_160 A P) (N (o_228 A P) (N (o_369 A P) L L) L) (N (o_300 A P) L L))) (N (o_106 A P) (N (o_144 A P) (N (o_210 A P) (N (o_351 A P) L L) L) (N (o_281 A P) L L)) (N (o_178 A P) (N (o_247 A P) (N (o_387 A P) L L) L) (N (o_316 A P) L L))))))) (N (boot_o_2 P) (N (boot_o_4 P) (N (boot_o_8 P) (N (o_52 A P) (N (o_68 A P) (N (o_109 A P) (N (o_181 A P) (N (o_319 A P) L L) L) (N (o_250 A P) (N (o_390 A P) L L) L)) (N (o_147 A P) (N (o_213 A P) (N (o_354 A P) L L) L) (N (o_284 A P) L L))) (N (o_90 A P) (N (o_128 A P) (N (o_197 A P) (N (o_338 A P) L L) L) (N (o_266 A P) (N (o_406 A P) L L) L)) (N (o_163 A P) (N (o_231 A P) (N (o_372 A P) L L) L) (N (o_303 A P) L L)))) (N (o_60 A P) (N (o_79 A P) (N (o_120 A P) (N (o_189 A P) (N (o_330 A P) L L) L) (N (o_258 A P) (N (o_398 A P) L L) L)) (N (o_155 A P) (N (o_221 A P) (N (o_364 A P) L L) L) (N (o_295 A P) L L))) (N (o_98 A P) (N (o_139 A P) (N (o_205 A P) (N (o_346 A P) L L) L) (N (o_276 A P) L L)) (N (o_171 A P) (N (o_242 A P) (N (o_382 A P) L L) L) (N (o_311 A P) L L))))) (N (o_380 A P) (N (o_56 A P) (N (o_75 A P) (N (o_113 A P) (N (o_185 A P) (N (o_323 A P) L L) L) (N (o_254 A P) (N (o_394 A P) L L) L)) (N (o_151 A P) (N (o_217 A P) (N (o_360 A P) L L) L) (N (o_288 A P) L L))) (N (o_94 A P) (N (o_135 A P) (N (o_201 A P) (N (o_342 A P) L L) L) (N (o_270 A P) L L)) (N (o_167 A P) (N (o_235 A P) (N (o_376 A P) L L) L) (N (o_307 A P) L L)))) (N (o_64 A P) (N (o_83 A P) (N (o_124 A P) (N (o_193 A P) (N (o_334 A P) L L) L) (N (o_262 A P) (N (o_402 A P) L L) L)) (N (o_159 A P) (N (o_227 A P) (N (o_368 A P) L L) L) (N (o_299 A P) L L))) (N (o_105 A P) (N (o_143 A P) (N (o_209 A P) (N (o_350 A P) L L) L) (N (o_280 A P) L L)) (N (o_177 A P) (N (o_246 A P) (N (o_386 A P) L L) L) (N (o_315 A P) L L)))))) (N (boot_o_6 P) (N (boot_o_10 P) (N (o_54 A P) (N (o_70 A P) (N (o_111 A P) (N (o_183 A P) (N (o_321 A P) L L) L) (N (o_252 A P) (N (o_392 A P) L L) L)) (N (o_149 A P) (N (o_215 A P) (N (o_358 A P) L L) L) (N (o_286 A P) L L))) (N (o_92 A P) (N (o_130 A P) (N (o_199 A P) (N (o_340 A P) L L) L) (N (o_268 A P) (N (o_408 A P) L L) L)) (N (o_165 A P) (N (o_240 A P) (N (o_374 A P) L L) L) (N (o_305 A P) L L)))) (N (o_62 A P) (N (o_81 A P) (N (o_122 A P) (N (o_191 A P) (N (o_332 A P) L L) L) (N (o_260 A P) (N (o_400 A P) L L) L)) (N (o_157 A P) (N (o_225 A P) (N (o_366 A P) L L) L) (N (o_297 A P) L L))) (N (o_100 A P) (N (o_141 A P) (N (o_207 A P) (N (o_348 A P) L L) L) (N (o_278 A P) L L)) (N (o_173 A P) (N (o_244 A P) (N (o_384 A P) L L) L) (N (o_313 A P) L L))))) (N (o_46 A P) (N (o_58 A P) (N (o_77 A P) (N (o_115 A P) (N (o_187 A P) (N (o_325 A P) L L) L) (N (o_256 A P) (N (o_396 A P) L L) L)) (N (o_153 A P) (N (o_219 A P) (N (o_362 A P) L L) L) (N (o_293 A P) L L))) (N (o_96 A P) (N (o_137 A P) (N (o_203 A P) (N (o_344 A P) L L) L) (N (o_272 A P) L L)) (N (o_169 A P) (N (o_237 A P) (N (o_378 A P) L L) L) (N (o_309 A P) L L)))) (N (o_66 A P) (N (o_85 A P) (N (o_126 A P) (N (o_195 A P) (N (o_336 A P) L L) L) (N (o_264 A P) (N (o_404 A P) L L) L)) (N (o_161 A P) (N (o_229 A P) (N (o_370 A P) L L) L) (N (o_301 A P) L L))) (N (o_107 A P) (N (o_145 A P) (N (o_211 A P) (N (o_352 A P) L L) L) (N (o_282 A P) L L)) (N (o_179 A P) (N (o_248 A P) (N (o_388 A P) L L) L) (N (o_317 A P) L L)))))))))
def tree_47 (A : AT) : Params → PySem.W.BT := (fun P => (N (boot_o_0 P) (N (boot_o_1 P) (N (boot_o_3 P) (N (boot_o_7 P) L L) (N (o_43 A P) L L)) (N (boot_o_5 P) (N (boot_o_9 P) L L) (N (o_45 A P) L L))) (N (boot_o_2 P) (N (boot_o_4 P) (N (boot_o_8 P) L L) (N (o_44 A P) L L)) (N (boot_o_6 P) (N (boot_o_10 P) L L) (N (o_46 A P) L L)))))
def heap_46 (A : AT) : Params → PySem.Heap := (fun P => (Heap.mk (Array.mk [(boot_o_0 P), (boot_o_1 P), (boot_o_2 P), (boot_o_3 P), (boot_o_4 P), (boot_o_5 P), (boot_o_6 P), (boot_o_7 P), (boot_o_8 P), (boot_o_9 P), (boot_o_10 P), (o_43 A P), (o_44 A P), (o_45 A P), (o_46 A P)]) (Life.mk [] [] [] 0 [] [] false #[] [] 0 false false false 0 [2000, 10, 10] false 0 true [] [] 0 false)))
def tree_221 (A : AT) : Params → PySem.W.BT := (fun P => (N (boot_o_0 P) (N (boot_o_1 P) (N (o_175 A P) (N (boot_o_7 P) (N (o_51 A P) (N (o_133 A P) (N (o_108 A P) (N (o_180 A P) L L) L) (N (o_146 A P) (N (o_212 A P) L L) L)) (N (o_89 A P) (N (o_127 A P) (N (o_196 A P) L L) L) (N (o_162 A P) L L))) (N (o_59 A P) (N (o_78 A P) (N (o_119 A P) (N (o_188 A P) L L) L) (N (o_154 A P) (N (o_220 A P) L L) L)) (N (o_97 A P) (N (o_138 A P) (N (o_204 A P) L L) L) (N (o_170 A P) L L)))) (N (o_43 A P) (N (o_55 A P) (N (o_74 A P) (N (o_112 A P) (N (o_184 A P) L L) L) (N (o_150 A P) (N (o_216 A P) L L) L)) (N (o_93 A P) (N (o_134 A P) (N (o_200 A P) L L) L) (N (o_166 A P) L L))) (N (o_63 A P) (N (o_82 A P) (N (o_123 A P) (N (o_192 A P) L L) L) (N (o_158 A P) L L)) (N (o_104 A P) (N (o_142 A P) (N (o_208 A P) L L) L) (N (o_174 A P) L L))))) (N (boot_o_5 P) (N (boot_o_9 P) (N (o_53 A P) (N (o_69 A P) (N (o_110 A P) (N (o_182 A P) L L) L) (N (o_148 A P) (N (o_214 A P) L L) L)) (N (o_91 A P) (N (o_129 A P) (N (o_198 A P) L L) L) (N (o_164 A P) L L))) (N (o_61 A P) (N (o_80 A P) (N (o_121 A P) (N (o_190 A P) L L) L) (N (o_156 A P) L L)) (N (o_99 A P) (N (o_140 A P) (N (o_206 A P) L L) L) (N (o_172 A P) L L)))) (N (o_45 A P) (N (o_57 A P) (N (o_76 A P) (N (o_114 A P) (N (o_186 A P) L L) L) (N (o_152 A P) (N (o_218 A P) L L) L)) (N (o_95 A P) (N (o_136 A P) (N (o_202 A P) L L) L) (N (o_168 A P) L L))) (N (o_65 A P) (N (o_84 A P) (N (o_125 A P) (N (o_194 A P) L L) L) (N (o_160 A P) L L)) (N (o_106 A P) (N (o_144 A P) (N (o_210 A P) L L) L) (N (o_178 A P) L L)))))) (N (boot_o_2 P) (N (boot_o_4 P) (N (boot_o_8 P) (N (o_52 A P) (N (o_68 A P) (N (o_109 A P) (N (o_181 A P) L L) L) (N (o_147 A P) (N (o_213 A P) L L) L)) (N (o_90 A P) (N (o_128 A P) (N (o_197 A P) L L) L) (N (o_163 A P) L L))) (N (o_60 A P) (N (o_79 A P) (N (o_120 A P) (N (o_189 A P) L L) L) (N (o_155 A P) (N (o_221 A P) L L) L)) (N (o_98 A P) (N (o_139 A P) (N (o_205 A P) L L) L) (N (o_171 A P) L L)))) (N (o_176 A P) (N (o_56 A P) (N (o_75 A P) (N (o_113 A P) (N (o_185 A P) L L) L) (N (o_151 A P) (N (o_217 A P) L L) L)) (N (o_94 A P) (N (o_135 A P) (N (o_201 A P) L L) L) (N (o_167 A P) L L))) (N (o_64 A P) (N (o_83 A P) (N (o_124 A P) (N (o_193 A P) L L) L) (N (o_159 A P) L L)) (N (o_105 A P) (N (o_143 A P) (N (o_209 A P) L L) L) (N (o_177 A P) L L))))) (N (boot_o_6 P) (N (boot_o_10 P) (N (o_54 A P) (N (o_70 A P) (N (o_111 A P) (N (o_183 A P) L L) L) (N (o_149 A P) (N (o_215 A P) L L) L)) (N (o_92 A P) (N (o_130 A P) (N (o_199 A P) L L) L) (N (o_165 A P) L L))) (N (o_62 A P) (N (o_81 A P) (N (o_122 A P) (N (o_191 A P) L L) L) (N (o_157 A P) L L)) (N (o_100 A P) (N (o_141 A P) (N (o_207 A P) L L) L) (N (o_173 A P) L L)))) (N (o_46 A P) (N (o_58 A P) (N (o_77 A P) (N (o_115 A P) (N (o_187 A P) L L) L) (N (o_153 A P) (N (o_219 A P) L L) L)) (N (o_96 A P) (N (o_137 A P) (N (o_203 A P) L L) L) (N (o_169 A P) L L))) (N (o_66 A P) (N (o_85 A P) (N (o_126 A P) (N (o_195 A P) L L) L) (N (o_161 A P) L L)) (N (o_107 A P) (N (o_145 A P) (N (o_211 A P) L L) L) (N (o_179 A P) L L))))))))
def tree_289 (A : AT) : Params → PySem.W.BT := (fun P => (N (boot_o_0 P) (N (boot_o_1 P) (N (o_274 A P) (N (boot_o_7 P) (N (o_51 A P) (N (o_133 A P) (N (o_108 A P) (N (o_180 A P) L L) (N (o_249 A P) L L)) (N (o_146 A P) (N (o_212 A P) L L) (N (o_283 A P) L L))) (N (o_89 A P) (N (o_127 A P) (N (o_196 A P) L L) (N (o_265 A P) L L)) (N (o_162 A P) (N (o_230 A P) L L) L))) (N (o_59 A P) (N (o_78 A P) (N (o_119 A P) (N (o_188 A P) L L) (N (o_257 A P) L L)) (N (o_154 A P) (N (o_220 A P) L L) L)) (N (o_97 A P) (N (o_138 A P) (N (o_204 A P) L L) (N (o_273 A P) L L)) (N (o_170 A P) (N (o_241 A P) L L) L)))) (N (o_43 A P) (N (o_55 A P) (N (o_74 A P) (N (o_112 A P) (N (o_184 A P) L L) (N (o_253 A P) L L)) (N (o_150 A P) (N (o_216 A P) L L) (N (o_287 A P) L L))) (N (o_93 A P) (N (o_134 A P) (N (o_200 A P) L L) (N (o_269 A P) L L)) (N (o_166 A P) (N (o_234 A P) L L) L))) (N (o_63 A P) (N (o_82 A P) (N (o_123 A P) (N (o_192 A P) L L) (N (o_261 A P) L L)) (N (o_158 A P) (N (o_226 A P) L L) L)) (N (o_104 A P) (N (o_142 A P) (N (o_208 A P) L L) (N (o_279 A P) L L)) (N (o_174 A P) (N (o_245 A P) L L) L))))) (N (boot_o_5 P) (N (boot_o_9 P) (N (o_53 A P) (N (o_69 A P) (N (o_110 A P) (N (o_182 A P) L L) (N (o_251 A P) L L)) (N (o_148 A P) (N (o_214 A P) L L) (N (o_285 A P) L L))) (N (o_91 A P) (N (o_129 A P) (N (o_198 A P) L L) (N (o_267 A P) L L)) (N (o_164 A P) (N (o_232 A P) L L) L))) (N (o_61 A P) (N (o_80 A P) (N (o_121 A P) (N (o_190 A P) L L) (N (o_259 A P) L L)) (N (o_156 A P) (N (o_224 A P) L L) L)) (N (o_99 A P) (N (o_140 A P) (N (o_206 A P) L L) (N (o_277 A P) L L)) (N (o_172 A P) (N (o_243 A P) L L) L)))) (N (o_45 A P) (N (o_57 A P) (N (o_76 A P) (N (o_114 A P) (N (o_186 A P) L L) (N (o_255 A P) L L)) (N (o_152 A P) (N (o_218 A P) L L) (N (o_289 A P) L L))) (N (o_95 A P) (N (o_136 A P) (N (o_202 A P) L L) (N (o_271 A P) L L)) (N (o_168 A P) (N (o_236 A P) L L) L))) (N (o_65 A P) (N (o_84 A P) (N (o_125 A P) (N (o_194 A P) L L) (N (o_263 A P) L L)) (N (o_160 A P) (N (o_228 A P) L L) L)) (N (o_106 A P) (N (o_144 A P) (N (o_210 A P) L L) (N (o_281 A P) L L)) (N (o_178 A P) (N (o_247 A P) L L) L)))))) (N (boot_o_2 P) (N (boot_o_4 P) (N (boot_o_8 P) (N (o_52 A P) (N (o_68 A P) (N (o_109 A P) (N (o_181 A P) L L) (N (o_250 A P) L L)) (N (o_147 A P) (N (o_213 A P) L L) (N (o_284 A P) L L))) (N (o_90 A P) (N (o_128 A P) (N (o_197 A P) L L) (N (o_266 A P) L L)) (N (o_163 A P) (N (o_231 A P) L L) L))) (N (o_60 A P) (N (o_79 A P) (N (o_120 A P) (N (o_189 A P) L L) (N (o_258 A P) L L)) (N (o_155 A P) (N (o_221 A P) L L) L)) (N (o_98 A P) (N (o_139 A P) (N (o_205 A P) L L) (N (o_276 A P) L L)) (N (o_171 A P) (N (o_242 A P) L L) L)))) (N (o_275 A P) (N (o_56 A P) (N (o_75 A P) (N (o_113 A P) (N (o_185 A P) L L) (N (o_254 A P) L L)) (N (o_151 A P) (N (o_217 A P) L L) (N (o_288 A P) L L))) (N (o_94 A P) (N (o_135 A P) (N (o_201 A P) L L) (N (o_270 A P) L L)) (N (o_167 A P) (N (o_235 A P) L L) L))) (N (o_64 A P) (N (o_83 A P) (N (o_124 A P) (N (o_193 A P) L L) (N (o_262 A P) L L)) (N (o_159 A P) (N (o_227 A P) L L) L)) (N (o_105 A P) (N (o_143 A P) (N (o_209 A P) L L) (N (o_280 A P) L L)) (N (o_177 A P) (N (o_246 A P) L L) L))))) (N (boot_o_6 P) (N (boot_o_10 P) (N (o_54 A P) (N (o_70 A P) (N (o_111 A P) (N (o_183 A P) L L) (N (o_252 A P) L L)) (N (o_149 A P) (N (o_215 A P) L L) (N (o_286 A P) L L))) (N (o_92 A P) (N (o_130 A P) (N (o_199 A P) L L) (N (o_268 A P) L L)) (N (o_165 A P) (N (o_240 A P) L L) L))) (N (o_62 A P) (N (o_81 A P) (N (o_122 A P) (N (o_191 A P) L L) (N (o_260 A P) L L)) (N (o_157 A P) (N (o_225 A P) L L) L)) (N (o_100 A P) (N (o_141 A P) (N (o_207 A P) L L) (N (o_278 A P) L L)) (N (o_173 A P) (N (o_244 A P) L L) L)))) (N (o_46 A P) (N (o_58 A P) (N (o_77 A P) (N (o_115 A P) (N (o_187 A P) L L) (N (o_256 A P) L L)) (N (o_153 A P) (N (o_219 A P) L L) L)) (N (o_96 A P) (N (o_137 A P) (N (o_203 A P) L L) (N (o_272 A P) L L)) (N (o_169 A P) (N (o_237 A P) L L) L))) (N (o_66 A P) (N (o_85 A P) (N (o_126 A P) (N (o_195 A P) L L) (N (o_264 A P) L L)) (N (o_161 A P) (N (o_229 A P) L L) L)) (N (o_107 A P) (N (o_145 A P) (N (o_211 A P) L L) (N (o_282 A P) L L)) (N (o_179 A P) (N (o_248 A P) L L) L))))))))
def tree_174 (A : AT) : Params → PySem.W.BT := (fun P => (N (boot_o_0 P) (N (boot_o_1 P) (N (o_131 A P) (N (boot_o_7 P) (N (o_51 A P) (N (o_133 A P) (N (o_108 A P) L L) (N (o_146 A P) L L)) (N (o_89 A P) (N (o_127 A P) L L) (N (o_162 A P) L L))) (N (o_59 A P) (N (o_78 A P) (N (o_119 A P) L L) (N (o_154 A P) L L)) (N (o_97 A P) (N (o_138 A P) L L) (N (o_170 A P) L L)))) (N (o_43 A P) (N (o_55 A P) (N (o_74 A P) (N (o_112 A P) L L) (N (o_150 A P) L L)) (N (o_93 A P) (N (o_134 A P) L L) (N (o_166 A P) L L))) (N (o_63 A P) (N (o_82 A P) (N (o_123 A P) L L) (N (o_158 A P) L L)) (N (o_104 A P) (N (o_142 A P) L L) (N (o_174 A P) L L))))) (N (boot_o_5 P) (N (boot_o_9 P) (N (o_53 A P) (N (o_69 A P) (N (o_110 A P) L L) (N (o_148 A P) L L)) (N (o_91 A P) (N (o_129 A P) L L) (N (o_164 A P) L L))) (N (o_61 A P) (N (o_80 A P) (N (o_121 A P) L L) (N (o_156 A P) L L)) (N (o_99 A P) (N (o_140 A P) L L) (N (o_172 A P) L L)))) (N (o_45 A P) (N (o_57 A P) (N (o_76 A P) (N (o_114 A P) L L) (N (o_152 A P) L L)) (N (o_95 A P) (N (o_136 A P) L L) (N (o_168 A P) L L))) (N (o_65 A P) (N (o_84 A P) (N (o_125 A P) L L) (N (o_160 A P) L L)) (N (o_106 A P) (N (o_144 A P) L L) L))))) (N (boot_o_2 P) (N (boot_o_4 P) (N (boot_o_8 P) (N (o_52 A P) (N (o_68 A P) (N (o_109 A P) L L) (N (o_147 A P) L L)) (N (o_90 A P) (N (o_128 A P) L L) (N (o_163 A P) L L))) (N (o_60 A P) (N (o_79 A P) (N (o_120 A P) L L) (N (o_155 A P) L L)) (N (o_98 A P) (N (o_139 A P) L L) (N (o_171 A P) L L)))) (N (o_132 A P) (N (o_56 A P) (N (o_75 A P) (N (o_113 A P) L L) (N (o_151 A P) L L)) (N (o_94 A P) (N (o_135 A P) L L) (N (o_167 A P) L L))) (N (o_64 A P) (N (o_83 A P) (N (o_124 A P) L L) (N (o_159 A P) L L)) (N (o_105 A P) (N (o_143 A P) L L) L)))) (N (boot_o_6 P) (N (boot_o_10 P) (N (o_54 A P) (N (o_70 A P) (N (o_111 A P) L L) (N (o_149 A P) L L)) (N (o_92 A P) (N (o_130 A P) L L) (N (o_165 A P) L L))) (N (o_62 A P) (N (o_81 A P) (N (o_122 A P) L L) (N (o_157 A P) L L)) (N (o_100 A P) (N (o_141 A P) L L) (N (o_173 A P) L L)))) (N (o_46 A P) (N (o_58 A P) (N (o_77 A P) (N (o_115 A P) L L) (N (o_153 A P) L L)) (N (o_96 A P) (N (o_137 A P) L L) (N (o_169 A P) L L))) (N (o_66 A P) (N (o_85 A P) (N (o_126 A P) L L) (N (o_161 A P) L L)) (N (o_107 A P) (N (o_145 A P) L L) L)))))))
def tree_325 (A : AT) : Params → PySem.W.BT := (fun P => (N (boot_o_0 P) (N (boot_o_1 P) (N (o_290 A P) (N (boot_o_7 P) (N (o_51 A P) (N (o_133 A P) (N (o_108 A P) (N (o_180 A P) (N (o_318 A P) L L) L) (N (o_249 A P) L L)) (N (o_146 A P) (N (o_212 A P) L L) (N (o_283 A P) L L))) (N (o_89 A P) (N (o_127 A P) (N (o_196 A P) L L) (N (o_265 A P) L L)) (N (o_162 A P) (N (o_230 A P) L L) (N (o_302 A P) L L)))) (N (o_59 A P) (N (o_78 A P) (N (o_119 A P) (N (o_188 A P) L L) (N (o_257 A P) L L)) (N (o_154 A P) (N (o_220 A P) L L) (N (o_294 A P) L L))) (N (o_97 A P) (N (o_138 A P) (N (o_204 A P) L L) (N (o_273 A P) L L)) (N (o_170 A P) (N (o_241 A P) L L) (N (o_310 A P) L L))))) (N (o_43 A P) (N (o_55 A P) (N (o_74 A P) (N (o_112 A P) (N (o_184 A P) (N (o_322 A P) L L) L) (N (o_253 A P) L L)) (N (o_150 A P) (N (o_216 A P) L L) (N (o_287 A P) L L))) (N (o_93 A P) (N (o_134 A P) (N (o_200 A P) L L) (N (o_269 A P) L L)) (N (o_166 A P) (N (o_234 A P) L L) (N (o_306 A P) L L)))) (N (o_63 A P) (N (o_82 A P) (N (o_123 A P) (N (o_192 A P) L L) (N (o_261 A P) L L)) (N (o_158 A P) (N (o_226 A P) L L) (N (o_298 A P) L L))) (N (o_104 A P) (N (o_142 A P) (N (o_208 A P) L L) (N (o_279 A P) L L)) (N (o_174 A P) (N (o_245 A P) L L) (N (o_314 A P) L L)))))) (N (boot_o_5 P) (N (boot_o_9 P) (N (o_53 A P) (N (o_69 A P) (N (o_110 A P) (N (o_182 A P) (N (o_320 A P) L L) L) (N (o_251 A P) L L)) (N (o_148 A P) (N (o_214 A P) L L) (N (o_292 A P) L L))) (N (o_91 A P) (N (o_129 A P) (N (o_198 A P) L L) (N (o_267 A P) L L)) (N (o_164 A P) (N (o_232 A P) L L) (N (o_304 A P) L L)))) (N (o_61 A P) (N (o_80 A P) (N (o_121 A P) (N (o_190 A P) L L) (N (o_259 A P) L L)) (N (o_156 A P) (N (o_224 A P) L L) (N (o_296 A P) L L))) (N (o_99 A P) (N (o_140 A P) (N (o_206 A P) L L) (N (o_277 A P) L L)) (N (o_172 A P) (N (o_243 A P) L L) (N (o_312 A P) L L))))) (N (o_45 A P) (N (o_57 A P) (N (o_76 A P) (N (o_114 A P) (N (o_186 A P) (N (o_324 A P) L L) L) (N (o_255 A P) L L)) (N (o_152 A P) (N (o_218 A P) L L) (N (o_289 A P) L L))) (N (o_95 A P) (N (o_136 A P) (N (o_202 A P) L L) (N (o_271 A P) L L)) (N (o_168 A P) (N (o_236 A P) L L) (N (o_308 A P) L L)))) (N (o_65 A P) (N (o_84 A P) (N (o_125 A P) (N (o_194 A P) L L) (N (o_263 A P) L L)) (N (o_160 A P) (N (o_228 A P) L L) (N (o_300 A P) L L))) (N (o_106 A P) (N (o_144 A P) (N (o_210 A P) L L) (N (o_281 A P) L L)) (N (o_178 A P) (N (o_247 A P) L L) (N (o_316 A P) L L))))))) (N (boot_o_2 P) (N (boot_o_4 P) (N (boot_o_8 P) (N (o_52 A P) (N (o_68 A P) (N (o_109 A P) (N (o_181 A P) (N (o_319 A P) L L) L) (N (o_250 A P) L L)) (N (o_147 A P) (N (o_213 A P) L L) (N (o_284 A P) L L))) (N (o_90 A P) (N (o_128 A P) (N (o_197 A P) L L) (N (o_266 A P) L L)) (N (o_163 A P) (N (o_231 A P) L L) (N (o_303 A P) L L)))) (N (o_60 A P) (N (o_79 A P) (N (o_120 A P) (N (o_189 A P) L L) (N (o_258 A P) L L)) (N (o_155 A P) (N (o_221 A P) L L) (N (o_295 A P) L L))) (N (o_98 A P) (N (o_139 A P) (N (o_205 A P) L L) (N (o_276 A P) L L)) (N (o_171 A P) (N (o_242 A P) L L) (N (o_311 A P) L L))))) (N (o_291 A P) (N (o_56 A P) (N (o_75 A P) (N (o_113 A P) (N (o_185 A P) (N (o_323 A P) L L) L) (N (o_254 A P) L L)) (N (o_151 A P) (N (o_217 A P) L L) (N (o_288 A P) L L))) (N (o_94 A P) (N (o_135 A P) (N (o_201 A P) L L) (N (o_270 A P) L L)) (N (o_167 A P) (N (o_235 A P) L L) (N (o_307 A P) L L)))) (N (o_64 A P) (N (o_83 A P) (N (o_124 A P) (N (o_193 A P) L L) (N (o_262 A P) L L)) (N (o_159 A P) (N (o_227 A P) L L) (N (o_299 A P) L L))) (N (o_105 A P) (N (o_143 A P) (N (o_209 A P) L L) (N (o_280 A P) L L)) (N (o_177 A P) (N (o_246 A P) L L) (N (o_315 A P) L L)))))) (N (boot_o_6 P) (N (boot_o_10 P) (N (o_54 A P) (N (o_70 A P) (N (o_111 A P) (N (o_183 A P) (N (o_321 A P) L L) L) (N (o_252 A P) L L)) (N (o_149 A P) (N (o_215 A P) L L) (N (o_286 A P) L L))) (N (o_92 A P) (N (o_130 A P) (N (o_199 A P) L L) (N (o_268 A P) L L)) (N (o_165 A P) (N (o_240 A P) L L) (N (o_305 A P) L L)))) (N (o_62 A P) (N (o_81 A P) (N (o_122 A P) (N (o_191 A P) L L) (N (o_260 A P) L L)) (N (o_157 A P) (N (o_225 A P) L L) (N (o_297 A P) L L))) (N (o_100 A P) (N (o_141 A P) (N (o_207 A P) L L) (N (o_278 A P) L L)) (N (o_173 A P) (N (o_244 A P) L L) (N (o_313 A P) L L))))) (N (o_46 A P) (N (o_58 A P) (N (o_77 A P) (N (o_115 A P) (N (o_187 A P) (N (o_325 A P) L L) L) (N (o_256 A P) L L)) (N (o_153 A P) (N (o_219 A P) L L) (N (o_293 A P) L L))) (N (o_96 A P) (N (o_137 A P) (N (o_203 A P) L L) (N (o_272 A P) L L)) (N (o_169 A P) (N (o_237 A P) L L) (N (o_309 A P) L L)))) (N (o_66 A P) (N (o_85 A P) (N (o_126 A P) (N (o_195 A P) L L) (N (o_264 A P) L L)) (N (o_161 A P) (N (o_229 A P) L L) (N (o_301 A P) L L))) (N (o_107 A P) (N (o_145 A P) (N (o_211 A P) L L) (N (o_282 A P) L L)) (N (o_179 A P) (N (o_248 A P) L L) (N (o_317 A P) L L)))))))))
def tree_115 (A : AT) : Params → PySem.W.BT := (fun P => (N (boot_o_0 P) (N (boot_o_1 P) (N (o_101 A P) (N (boot_o_7 P) (N (o_51 A P) (N (o_103 A P) (N (o_108 A P) L L) L) (N (o_89 A P) L L)) (N (o_59 A P) (N (o_78 A P) L L) (N (o_97 A P) L L))) (N (o_43 A P) (N (o_55 A P) (N (o_74 A P) (N (o_112 A P) L L) L) (N (o_93 A P) L L)) (N (o_63 A P) (N (o_82 A P) L L) (N (o_104 A P) L L)))) (N (boot_o_5 P) (N (boot_o_9 P) (N (o_53 A P) (N (o_69 A P) (N (o_110 A P) L L) L) (N (o_91 A P) L L)) (N (o_61 A P) (N (o_80 A P) L L) (N (o_99 A P) L L))) (N (o_45 A P) (N (o_57 A P) (N (o_76 A P) (N (o_114 A P) L L) L) (N (o_95 A P) L L)) (N (o_65 A P) (N (o_84 A P) L L) (N (o_106 A P) L L))))) (N (boot_o_2 P) (N (boot_o_4 P) (N (boot_o_8 P) (N (o_52 A P) (N (o_68 A P) (N (o_109 A P) L L) L) (N (o_90 A P) L L)) (N (o_60 A P) (N (o_79 A P) L L) (N (o_98 A P) L L))) (N (o_102 A P) (N (o_56 A P) (N (o_75 A P) (N (o_113 A P) L L) L) (N (o_94 A P) L L)) (N (o_64 A P) (N (o_83 A P) L L) (N (o_105 A P) L L)))) (N (boot_o_6 P) (N (boot_o_10 P) (N (o_54 A P) (N (o_70 A P) (N (o_111 A P) L L) L) (N (o_92 A P) L L)) (N (o_62 A P) (N (o_81 A P) L L) (N (o_100 A P) L L))) (N (o_46 A P) (N (o_58 A P) (N (o_77 A P) (N (o_115 A P) L L) L) (N (o_96 A P) L L)) (N (o_66 A P) (N (o_85 A P) L L) (N (o_107 A P) L L)))))))
end
theorem trig : (PySem.Challenge.pw_bellsaway_k13_wishes_made.main.body.length == 0) = (PySem.Challenge.pw_bellsaway_k13_wishes_made.main.body.length == 0) := rfl
theorem trig2 : (!(PySem.Challenge.pw_bellsaway_k13_wishes_made.main.body.length == 0)) = true := by k_qdec
def a0 : List Str := [Str.ofString "BellError", Str.ofString "/claim/cut.py", Str.ofString "idle", Str.ofString "Wishes.idle", Str.ofString "_law_cell_at", Str.ofString "law_bellsaway_k13_wishes_made", Str.ofString "are_unlike_names", Str.ofString "bellsaway.words", Str.ofString "self", Str.ofString "kind", Str.ofString "place", Str.ofString "from_weight", Str.ofString "is_whole_between", Str.ofString "__name__", Str.ofString "bellsaway.wishes", Str.ofString "__doc__", Str.ofString "__package__", Str.ofString "__loader__", Str.ofString "__spec__", Str.ofString "__annotations__", Str.ofString "__builtins__", Str.ofString "__file__", Str.ofString "__cached__", Str.ofString "_wall", Str.ofString "NoClock", Str.ofString "NoFit", Str.ofString "NoWish", Str.ofString "NoRow", Str.ofString "NoText", Str.ofString "is_whole", Str.ofString "is_whole_from", Str.ofString "MINUTES_OF_HOUR", Str.ofString "MINUTES_OF_DAY", Str.ofString "is_minute_of_day", Str.ofString "is_quiet_hours", Str.ofString "check_zone", Str.ofString "check_quiet", Str.ofString "check_minute_of_hour", Str.ofString "LETTERS", Str.ofString "abcdefghijklmnopqrstuvwxyz", Str.ofString "MOST_LETTERS", Str.ofString "is_name", Str.ofString "Fit", Str.ofString "Any", Str.ofString "Way", Str.ofString "Hour", Str.ofString "Never", Str.ofString "Raised", Str.ofString "Line", Str.ofString "check_by_way", Str.ofString "Wishes", Str.ofString "check_wake", Str.ofString "__dict__", Str.ofString "weight_bits", Str.ofString "Any.weight_bits", Str.ofString "bellsaway.fits", Str.ofString "__init__", Str.ofString "Line.__init__", Str.ofString "law", Str.ofString "bellsaway.wholes", Str.ofString "__module__", Str.ofString "bellsaway.errors", Str.ofString "__firstlineno__", Str.ofString "__static_attributes__", Str.ofString "fit", Str.ofString "raised", Str.ofString "roads", Str.ofString "sure", Str.ofString "way", Str.ofString "zone", Str.ofString "_law_no_zones", Str.ofString "__qualname__", Str.ofString "NoText.__init__", Str.ofString "fits_it", Str.ofString "Any.fits_it", Str.ofString "__weakref__", Str.ofString "_law_minutes", Str.ofString "quiet", Str.ofString "bellsaway.ways", Str.ofString "lines", Str.ofString "wake", Str.ofString "thing", Str.ofString "is_gathered", Str.ofString "Never.is_gathered", Str.ofString "moment_from", Str.ofString "kinds", Str.ofString "places", Str.ofString "weights", Str.ofString "note_turns", Str.ofString "Any.note_turns", Str.ofString "Hour.is_gathered", Str.ofString "minute", Str.ofString "_law_quiet", Str.ofString "bellsaway.clocks", Str.ofString "_law_odd_right", Str.ofString "Raised.__init__", Str.ofString "Never.moment_from", Str.ofString "check_lines", Str.ofString "_law_begin", Str.ofString "minutes", Str.ofString "times", Str.ofString "to", Str.ofString "_law_no_lines", Str.ofString "winning", Str.ofString "line_for", Str.ofString "winner", Str.ofString "__main__", Str.ofString "Wishes.__init__", Str.ofString "_law_no_quiet", Str.ofString "Wishes.winner", Str.ofString "_law_no_wakes", Str.ofString "least", Str.ofString "_law_next", Str.ofString "_law_state", Str.ofString "_law_start", Str.ofString "_law_refused", Str.ofString "_law_right", Str.ofString "Wishes.line_for", Str.ofString "Hour.__init__", Str.ofString "happening", Str.ofString "k", Str.ofString "_law_cell", Str.ofString "moment", Str.ofString "bellsaway.happenings", Str.ofString "Hour.moment_from", Str.ofString "_law_lots", Str.ofString "_law_some", Str.ofString "Wishes.winning", Str.ofString "line", Str.ofString "most", Str.ofString "_law_script", Str.ofString "_law_k", Str.ofString "_law_hours", Str.ofString "_law_zone", Str.ofString "_law_heavy", Str.ofString "_law_found", Str.ofString "e", Str.ofString "number", Str.ofString "_law_bad_zone", Str.ofString "_law_bad_quiet", Str.ofString "_law_bad_wake", Str.ofString "_law_bad_lines", Str.ofString "<module>", Str.ofString "_law_wishes", Str.ofString "_law_minutes_here", Str.ofString "_law_base", Str.ofString "_law_number"]
def a1 : List Str := [⟨⟨[66, 101, 108, 108, 69, 114, 114, 111, 114]⟩⟩, ⟨⟨[47, 99, 108, 97, 105, 109, 47, 99, 117, 116, 46, 112, 121]⟩⟩, ⟨⟨[105, 100, 108, 101]⟩⟩, ⟨⟨[87, 105, 115, 104, 101, 115, 46, 105, 100, 108, 101]⟩⟩, ⟨⟨[95, 108, 97, 119, 95, 99, 101, 108, 108, 95, 97, 116]⟩⟩, ⟨⟨[108, 97, 119, 95, 98, 101, 108, 108, 115, 97, 119, 97, 121, 95, 107, 49, 51, 95, 119, 105, 115, 104, 101, 115, 95, 109, 97, 100, 101]⟩⟩, ⟨⟨[97, 114, 101, 95, 117, 110, 108, 105, 107, 101, 95, 110, 97, 109, 101, 115]⟩⟩, ⟨⟨[98, 101, 108, 108, 115, 97, 119, 97, 121, 46, 119, 111, 114, 100, 115]⟩⟩, ⟨⟨[115, 101, 108, 102]⟩⟩, ⟨⟨[107, 105, 110, 100]⟩⟩, ⟨⟨[112, 108, 97, 99, 101]⟩⟩, ⟨⟨[102, 114, 111, 109, 95, 119, 101, 105, 103, 104, 116]⟩⟩, ⟨⟨[105, 115, 95, 119, 104, 111, 108, 101, 95, 98, 101, 116, 119, 101, 101, 110]⟩⟩, ⟨⟨[95, 95, 110, 97, 109, 101, 95, 95]⟩⟩, ⟨⟨[98, 101, 108, 108, 115, 97, 119, 97, 121, 46, 119, 105, 115, 104, 101, 115]⟩⟩, ⟨⟨[95, 95, 100, 111, 99, 95, 95]⟩⟩, ⟨⟨[95, 95, 112, 97, 99, 107, 97, 103, 101, 95, 95]⟩⟩, ⟨⟨[95, 95, 108, 111, 97, 100, 101, 114, 95, 95]⟩⟩, ⟨⟨[95, 95, 115, 112, 101, 99, 95, 95]⟩⟩, ⟨⟨[95, 95, 97, 110, 110, 111, 116, 97, 116, 105, 111, 110, 115, 95, 95]⟩⟩, ⟨⟨[95, 95, 98, 117, 105, 108, 116, 105, 110, 115, 95, 95]⟩⟩, ⟨⟨[95, 95, 102, 105, 108, 101, 95, 95]⟩⟩, ⟨⟨[95, 95, 99, 97, 99, 104, 101, 100, 95, 95]⟩⟩, ⟨⟨[95, 119, 97, 108, 108]⟩⟩, ⟨⟨[78, 111, 67, 108, 111, 99, 107]⟩⟩, ⟨⟨[78, 111, 70, 105, 116]⟩⟩, ⟨⟨[78, 111, 87, 105, 115, 104]⟩⟩, ⟨⟨[78, 111, 82, 111, 119]⟩⟩, ⟨⟨[78, 111, 84, 101, 120, 116]⟩⟩, ⟨⟨[105, 115, 95, 119, 104, 111, 108, 101]⟩⟩, ⟨⟨[105, 115, 95, 119, 104, 111, 108, 101, 95, 102, 114, 111, 109]⟩⟩, ⟨⟨[77, 73, 78, 85, 84, 69, 83, 95, 79, 70, 95, 72, 79, 85, 82]⟩⟩, ⟨⟨[77, 73, 78, 85, 84, 69, 83, 95, 79, 70, 95, 68, 65, 89]⟩⟩, ⟨⟨[105, 115, 95, 109, 105, 110, 117, 116, 101, 95, 111, 102, 95, 100, 97, 121]⟩⟩, ⟨⟨[105, 115, 95, 113, 117, 105, 101, 116, 95, 104, 111, 117, 114, 115]⟩⟩, ⟨⟨[99, 104, 101, 99, 107, 95, 122, 111, 110, 101]⟩⟩, ⟨⟨[99, 104, 101, 99, 107, 95, 113, 117, 105, 101, 116]⟩⟩, ⟨⟨[99, 104, 101, 99, 107, 95, 109, 105, 110, 117, 116, 101, 95, 111, 102, 95, 104, 111, 117, 114]⟩⟩, ⟨⟨[76, 69, 84, 84, 69, 82, 83]⟩⟩, ⟨⟨[97, 98, 99, 100, 101, 102, 103, 104, 105, 106, 107, 108, 109, 110, 111, 112, 113, 114, 115, 116, 117, 118, 119, 120, 121, 122]⟩⟩, ⟨⟨[77, 79, 83, 84, 95, 76, 69, 84, 84, 69, 82, 83]⟩⟩, ⟨⟨[105, 115, 95, 110, 97, 109, 101]⟩⟩, ⟨⟨[70, 105, 116]⟩⟩, ⟨⟨[65, 110, 121]⟩⟩, ⟨⟨[87, 97, 121]⟩⟩, ⟨⟨[72, 111, 117, 114]⟩⟩, ⟨⟨[78, 101, 118, 101, 114]⟩⟩, ⟨⟨[82, 97, 105, 115, 101, 100]⟩⟩, ⟨⟨[76, 105, 110, 101]⟩⟩, ⟨⟨[99, 104, 101, 99, 107, 95, 98, 121, 95, 119, 97, 121]⟩⟩, ⟨⟨[87, 105, 115, 104, 101, 115]⟩⟩, ⟨⟨[99, 104, 101, 99, 107, 95, 119, 97, 107, 101]⟩⟩, ⟨⟨[95, 95, 100, 105, 99, 116, 95, 95]⟩⟩, ⟨⟨[119, 101, 105, 103, 104, 116, 95, 98, 105, 116, 115]⟩⟩, ⟨⟨[65, 110, 121, 46, 119, 101, 105, 103, 104, 116, 95, 98, 105, 116, 115]⟩⟩, ⟨⟨[98, 101, 108, 108, 115, 97, 119, 97, 121, 46, 102, 105, 116, 115]⟩⟩, ⟨⟨[95, 95, 105, 110, 105, 116, 95, 95]⟩⟩, ⟨⟨[76, 105, 110, 101, 46, 95, 95, 105, 110, 105, 116, 95, 95]⟩⟩, ⟨⟨[108, 97, 119]⟩⟩, ⟨⟨[98, 101, 108, 108, 115, 97, 119, 97, 121, 46, 119, 104, 111, 108, 101, 115]⟩⟩, ⟨⟨[95, 95, 109, 111, 100, 117, 108, 101, 95, 95]⟩⟩, ⟨⟨[98, 101, 108, 108, 115, 97, 119, 97, 121, 46, 101, 114, 114, 111, 114, 115]⟩⟩, ⟨⟨[95, 95, 102, 105, 114, 115, 116, 108, 105, 110, 101, 110, 111, 95, 95]⟩⟩, ⟨⟨[95, 95, 115, 116, 97, 116, 105, 99, 95, 97, 116, 116, 114, 105, 98, 117, 116, 101, 115, 95, 95]⟩⟩, ⟨⟨[102, 105, 116]⟩⟩, ⟨⟨[114, 97, 105, 115, 101, 100]⟩⟩, ⟨⟨[114, 111, 97, 100, 115]⟩⟩, ⟨⟨[115, 117, 114, 101]⟩⟩, ⟨⟨[119, 97, 121]⟩⟩, ⟨⟨[122, 111, 110, 101]⟩⟩, ⟨⟨[95, 108, 97, 119, 95, 110, 111, 95, 122, 111, 110, 101, 115]⟩⟩, ⟨⟨[95, 95, 113, 117, 97, 108, 110, 97, 109, 101, 95, 95]⟩⟩, ⟨⟨[78, 111, 84, 101, 120, 116, 46, 95, 95, 105, 110, 105, 116, 95, 95]⟩⟩, ⟨⟨[102, 105, 116, 115, 95, 105, 116]⟩⟩, ⟨⟨[65, 110, 121, 46, 102, 105, 116, 115, 95, 105, 116]⟩⟩, ⟨⟨[95, 95, 119, 101, 97, 107, 114, 101, 102, 95, 95]⟩⟩, ⟨⟨[95, 108, 97, 119, 95, 109, 105, 110, 117, 116, 101, 115]⟩⟩, ⟨⟨[113, 117, 105, 101, 116]⟩⟩, ⟨⟨[98, 101, 108, 108, 115, 97, 119, 97, 121, 46, 119, 97, 121, 115]⟩⟩, ⟨⟨[108, 105, 110, 101, 115]⟩⟩, ⟨⟨[119, 97, 107, 101]⟩⟩, ⟨⟨[116, 104, 105, 110, 103]⟩⟩, ⟨⟨[105, 115, 95, 103, 97, 116, 104, 101, 114, 101, 100]⟩⟩, ⟨⟨[78, 101, 118, 101, 114, 46, 105, 115, 95, 103, 97, 116, 104, 101, 114, 101, 100]⟩⟩, ⟨⟨[109, 111, 109, 101, 110, 116, 95, 102, 114, 111, 109]⟩⟩, ⟨⟨[107, 105, 110, 100, 115]⟩⟩, ⟨⟨[112, 108, 97, 99, 101, 115]⟩⟩, ⟨⟨[119, 101, 105, 103, 104, 116, 115]⟩⟩, ⟨⟨[110, 111, 116, 101, 95, 116, 117, 114, 110, 115]⟩⟩, ⟨⟨[65, 110, 121, 46, 110, 111, 116, 101, 95, 116, 117, 114, 110, 115]⟩⟩, ⟨⟨[72, 111, 117, 114, 46, 105, 115, 95, 103, 97, 116, 104, 101, 114, 101, 100]⟩⟩, ⟨⟨[109, 105, 110, 117, 116, 101]⟩⟩, ⟨⟨[95, 108, 97, 119, 95, 113, 117, 105, 101, 116]⟩⟩, ⟨⟨[98, 101, 108, 108, 115, 97, 119, 97, 121, 46, 99, 108, 111, 99, 107, 115]⟩⟩, ⟨⟨[95, 108, 97, 119, 95, 111, 100, 100, 95, 114, 105, 103, 104, 116]⟩⟩, ⟨⟨[82, 97, 105, 115, 101, 100, 46, 95, 95, 105, 110, 105, 116, 95, 95]⟩⟩, ⟨⟨[78, 101, 118, 101, 114, 46, 109, 111, 109, 101, 110, 116, 95, 102, 114, 111, 109]⟩⟩, ⟨⟨[99, 104, 101, 99, 107, 95, 108, 105, 110, 101, 115]⟩⟩, ⟨⟨[95, 108, 97, 119, 95, 98, 101, 103, 105, 110]⟩⟩, ⟨⟨[109, 105, 110, 117, 116, 101, 115]⟩⟩, ⟨⟨[116, 105, 109, 101, 115]⟩⟩, ⟨⟨[116, 111]⟩⟩, ⟨⟨[95, 108, 97, 119, 95, 110, 111, 95, 108, 105, 110, 101, 115]⟩⟩, ⟨⟨[119, 105, 110, 110, 105, 110, 103]⟩⟩, ⟨⟨[108, 105, 110, 101, 95, 102, 111, 114]⟩⟩, ⟨⟨[119, 105, 110, 110, 101, 114]⟩⟩, ⟨⟨[95, 95, 109, 97, 105, 110, 95, 95]⟩⟩, ⟨⟨[87, 105, 115, 104, 101, 115, 46, 95, 95, 105, 110, 105, 116, 95, 95]⟩⟩, ⟨⟨[95, 108, 97, 119, 95, 110, 111, 95, 113, 117, 105, 101, 116]⟩⟩, ⟨⟨[87, 105, 115, 104, 101, 115, 46, 119, 105, 110, 110, 101, 114]⟩⟩, ⟨⟨[95, 108, 97, 119, 95, 110, 111, 95, 119, 97, 107, 101, 115]⟩⟩, ⟨⟨[108, 101, 97, 115, 116]⟩⟩, ⟨⟨[95, 108, 97, 119, 95, 110, 101, 120, 116]⟩⟩, ⟨⟨[95, 108, 97, 119, 95, 115, 116, 97, 116, 101]⟩⟩, ⟨⟨[95, 108, 97, 119, 95, 115, 116, 97, 114, 116]⟩⟩, ⟨⟨[95, 108, 97, 119, 95, 114, 101, 102, 117, 115, 101, 100]⟩⟩, ⟨⟨[95, 108, 97, 119, 95, 114, 105, 103, 104, 116]⟩⟩, ⟨⟨[87, 105, 115, 104, 101, 115, 46, 108, 105, 110, 101, 95, 102, 111, 114]⟩⟩, ⟨⟨[72, 111, 117, 114, 46, 95, 95, 105, 110, 105, 116, 95, 95]⟩⟩, ⟨⟨[104, 97, 112, 112, 101, 110, 105, 110, 103]⟩⟩, ⟨⟨[107]⟩⟩, ⟨⟨[95, 108, 97, 119, 95, 99, 101, 108, 108]⟩⟩, ⟨⟨[109, 111, 109, 101, 110, 116]⟩⟩, ⟨⟨[98, 101, 108, 108, 115, 97, 119, 97, 121, 46, 104, 97, 112, 112, 101, 110, 105, 110, 103, 115]⟩⟩, ⟨⟨[72, 111, 117, 114, 46, 109, 111, 109, 101, 110, 116, 95, 102, 114, 111, 109]⟩⟩, ⟨⟨[95, 108, 97, 119, 95, 108, 111, 116, 115]⟩⟩, ⟨⟨[95, 108, 97, 119, 95, 115, 111, 109, 101]⟩⟩, ⟨⟨[87, 105, 115, 104, 101, 115, 46, 119, 105, 110, 110, 105, 110, 103]⟩⟩, ⟨⟨[108, 105, 110, 101]⟩⟩, ⟨⟨[109, 111, 115, 116]⟩⟩, ⟨⟨[95, 108, 97, 119, 95, 115, 99, 114, 105, 112, 116]⟩⟩, ⟨⟨[95, 108, 97, 119, 95, 107]⟩⟩, ⟨⟨[95, 108, 97, 119, 95, 104, 111, 117, 114, 115]⟩⟩, ⟨⟨[95, 108, 97, 119, 95, 122, 111, 110, 101]⟩⟩, ⟨⟨[95, 108, 97, 119, 95, 104, 101, 97, 118, 121]⟩⟩, ⟨⟨[95, 108, 97, 119, 95, 102, 111, 117, 110, 100]⟩⟩, ⟨⟨[101]⟩⟩, ⟨⟨[110, 117, 109, 98, 101, 114]⟩⟩, ⟨⟨[95, 108, 97, 119, 95, 98, 97, 100, 95, 122, 111, 110, 101]⟩⟩, ⟨⟨[95, 108, 97, 119, 95, 98, 97, 100, 95, 113, 117, 105, 101, 116]⟩⟩, ⟨⟨[95, 108, 97, 119, 95, 98, 97, 100, 95, 119, 97, 107, 101]⟩⟩, ⟨⟨[95, 108, 97, 119, 95, 98, 97, 100, 95, 108, 105, 110, 101, 115]⟩⟩, ⟨⟨[60, 109, 111, 100, 117, 108, 101, 62]⟩⟩, ⟨⟨[95, 108, 97, 119, 95, 119, 105, 115, 104, 101, 115]⟩⟩, ⟨⟨[95, 108, 97, 119, 95, 109, 105, 110, 117, 116, 101, 115, 95, 104, 101, 114, 101]⟩⟩, ⟨⟨[95, 108, 97, 119, 95, 98, 97, 115, 101]⟩⟩, ⟨⟨[95, 108, 97, 119, 95, 110, 117, 109, 98, 101, 114]⟩⟩]
def t0 : List String := ["code", "function", "tuple", "builtin_function_or_method", "object.__init_subclass__", "dict", "__main__.__loader__#opaque", "getset_descriptor", "function.__dict__", "function.__dict__#set", "type", "ValueError", "Exception", "BaseException", "object", "ValueError.__new__", "super", "ExceptionGroup.__weakref__", "frame", "object.__new__", "type.__prepare__"]
noncomputable def t1 : List String := [PySem.W.SL.s5856160107412720595x4, PySem.W.SL.s7174869446012820540x8, PySem.W.SL.s2766695959194262286x5, PySem.W.SL.s11030030927630378310x26, PySem.W.SL.s4860613602091757760x24, PySem.W.SL.s14018661285674007319x4, PySem.W.SL.s7097527257260152453x26, PySem.W.SL.s14755015743595814543x17, PySem.W.SL.s6511155373996960695x17, PySem.W.SL.s12411053484034534018x21, PySem.W.SL.s17162191345867700912x4, PySem.W.SL.s6070975301684473832x10, PySem.W.SL.s5946037652744460706x9, PySem.W.SL.s4278001404047624695x13, PySem.W.SL.s2742458400755230247x6, PySem.W.SL.s4209523147560561109x18, PySem.W.SL.s4290257624100764138x5, PySem.W.SL.s10220274742760427390x26, PySem.W.SL.s658472552662922059x5, PySem.W.SL.s11443829558043349243x14, PySem.W.SL.s10062305145149207511x16]
theorem cc {α : Type} {x y : α} {l m : List α} (h : x = y) (k : l = m) : x :: l = y :: m := by rw [h, k]
theorem ea : a0 = a1 := (cc (by kernel_rfl) (cc (by kernel_rfl) (cc (by kernel_rfl) (cc (by kernel_rfl) (cc (by kernel_rfl) (cc (by kernel_rfl) (cc (by kernel_rfl) (cc (by kernel_rfl) (cc (by kernel_rfl) (cc (by kernel_rfl) (cc (by kernel_rfl) (cc (by kernel_rfl) (cc (by kernel_rfl) (cc (by kernel_rfl) (cc (by kernel_rfl) (cc (by kernel_rfl) (cc (by kernel_rfl) (cc (by kernel_rfl) (cc (by kernel_rfl) (cc (by kernel_rfl) (cc (by kernel_rfl) (cc (by kernel_rfl) (cc (by kernel_rfl) (cc (by kernel_rfl) (cc (by kernel_rfl) (cc (by kernel_rfl) (cc (by kernel_rfl) (cc (by kernel_rfl) (cc (by kernel_rfl) (cc (by kernel_rfl) (cc (by kernel_rfl) (cc (by kernel_rfl) (cc (by kernel_rfl) (cc (by kernel_rfl) (cc (by kernel_rfl) (cc (by kernel_rfl) (cc (by kernel_rfl) (cc (by kernel_rfl) (cc (by kernel_rfl) (cc (by kernel_rfl) (cc (by kernel_rfl) (cc (by kernel_rfl) (cc (by kernel_rfl) (cc (by kernel_rfl) (cc (by kernel_rfl) (cc (by kernel_rfl) (cc (by kernel_rfl) (cc (by kernel_rfl) (cc (by kernel_rfl) (cc (by kernel_rfl) (cc (by kernel_rfl) (cc (by kernel_rfl) (cc (by kernel_rfl) (cc (by kernel_rfl) (cc (by kernel_rfl) (cc (by kernel_rfl) (cc (by kernel_rfl) (cc (by kernel_rfl) (cc (by kernel_rfl) (cc (by kernel_rfl) (cc (by kernel_rfl) (cc (by kernel_rfl) (cc (by kernel_rfl) (cc (by kernel_rfl) (cc (by kernel_rfl) (cc (by kernel_rfl) (cc (by kernel_rfl) (cc (by kernel_rfl) (cc (by kernel_rfl) (cc (by kernel_rfl) (cc (by kernel_rfl) (cc (by kernel_rfl) (cc (by kernel_rfl) (cc (by kernel_rfl) (cc (by kernel_rfl) (cc (by kernel_rfl) (cc (by kernel_rfl) (cc (by kernel_rfl) (cc (by kernel_rfl) (cc (by kernel_rfl) (cc (by kernel_rfl) (cc (by kernel_rfl) (cc (by kernel_rfl) (cc (by kernel_rfl) (cc (by kernel_rfl) (cc (by kernel_rfl) (cc (by kernel_rfl) (cc (by kernel_rfl) (cc (by kernel_rfl) (cc (by kernel_rfl) (cc (by kernel_rfl) (cc (by kernel_rfl) (cc (by kernel_rfl) (cc (by kernel_rfl) (cc (by kernel_rfl) (cc (by kernel_rfl) (cc (by kernel_rfl) (cc (by kernel_rfl) (cc (by kernel_rfl) (cc (by kernel_rfl) (cc (by kernel_rfl) (cc (by kernel_rfl) (cc (by kernel_rfl) (cc (by kernel_rfl) (cc (by kernel_rfl) (cc (by kernel_rfl) (cc (by kernel_rfl) (cc (by kernel_rfl) (cc (by kernel_rfl) (cc (by kernel_rfl) (cc (by kernel_rfl) (cc (by kernel_rfl) (cc (by kernel_rfl) (cc (by kernel_rfl) (cc (by kernel_rfl) (cc (by kernel_rfl) (cc (by kernel_rfl) (cc (by kernel_rfl) (cc (by kernel_rfl) (cc (by kernel_rfl) (cc (by kernel_rfl) (cc (by kernel_rfl) (cc (by kernel_rfl) (cc (by kernel_rfl) (cc (by kernel_rfl) (cc (by kernel_rfl) (cc (by kernel_rfl) (cc (by kernel_rfl) (cc (by kernel_rfl) (cc (by kernel_rfl) (cc (by kernel_rfl) (cc (by kernel_rfl) (cc (by kernel_rfl) (cc (by kernel_rfl) (cc (by kernel_rfl) (cc (by kernel_rfl) (cc (by kernel_rfl) (cc (by kernel_rfl) (cc (by kernel_rfl) (cc (by kernel_rfl) (cc (by kernel_rfl) (cc (by kernel_rfl) (cc (by kernel_rfl) (cc (by kernel_rfl) (cc (by kernel_rfl) (cc (by kernel_rfl) (cc (by kernel_rfl) rfl)))))))))))))))))))))))))))))))))))))))))))))))))))))))))))))))))))))))))))))))))))))))))))))))))))))))))))))))))))))))))))))))))))))))))))))))))))
theorem et : t0 = t1 := (cc PySem.W.SL.e5856160107412720595x4 (cc PySem.W.SL.e7174869446012820540x8 (cc PySem.W.SL.e2766695959194262286x5 (cc PySem.W.SL.e11030030927630378310x26 (cc PySem.W.SL.e4860613602091757760x24 (cc PySem.W.SL.e14018661285674007319x4 (cc PySem.W.SL.e7097527257260152453x26 (cc PySem.W.SL.e14755015743595814543x17 (cc PySem.W.SL.e6511155373996960695x17 (cc PySem.W.SL.e12411053484034534018x21 (cc PySem.W.SL.e17162191345867700912x4 (cc PySem.W.SL.e6070975301684473832x10 (cc PySem.W.SL.e5946037652744460706x9 (cc PySem.W.SL.e4278001404047624695x13 (cc PySem.W.SL.e2742458400755230247x6 (cc PySem.W.SL.e4209523147560561109x18 (cc PySem.W.SL.e4290257624100764138x5 (cc PySem.W.SL.e10220274742760427390x26 (cc PySem.W.SL.e658472552662922059x5 (cc PySem.W.SL.e11443829558043349243x14 (cc PySem.W.SL.e10062305145149207511x16 rfl)))))))))))))))))))))
noncomputable def A0 : AT := ⟨PySem.Challenge.pw_bellsaway_k13_wishes_made, a0, t0⟩
noncomputable def B0 : AT := ⟨PySem.W.Fast.tw5410398715992880656, a1, t1⟩
theorem ab : A0 = B0 := by
  unfold A0 B0
  rw [ea, et, PySem.W.Fast.te5410398715992880656]
end Hd
noncomputable def PySem.W.Fast.tw127377484689255776 : PySem.Params → PySem.W.BT := Hd.tree_550 Hd.B0
theorem PySem.W.Fast.te127377484689255776 : Hd.tree_550 Hd.A0 = PySem.W.Fast.tw127377484689255776 := congrArg Hd.tree_550 Hd.ab
noncomputable def PySem.W.Fast.tw13419595806554785248 : PySem.Params → PySem.W.BT := Hd.tree_100 Hd.B0
theorem PySem.W.Fast.te13419595806554785248 : Hd.tree_100 Hd.A0 = PySem.W.Fast.tw13419595806554785248 := congrArg Hd.tree_100 Hd.ab
noncomputable def PySem.W.Fast.tw9193169859325909250 : PySem.Params → PySem.W.BT := Hd.tree_273 Hd.B0
theorem PySem.W.Fast.te9193169859325909250 : Hd.tree_273 Hd.A0 = PySem.W.Fast.tw9193169859325909250 := congrArg Hd.tree_273 Hd.ab
noncomputable def PySem.W.Fast.tw16755447627431071555 : PySem.Params → PySem.W.BT := Hd.tree_85 Hd.B0
theorem PySem.W.Fast.te16755447627431071555 : Hd.tree_85 Hd.A0 = PySem.W.Fast.tw16755447627431071555 := congrArg Hd.tree_85 Hd.ab
noncomputable def PySem.W.Fast.tw11450036585637841381 : PySem.Params → PySem.W.BT := Hd.tree_354 Hd.B0
theorem PySem.W.Fast.te11450036585637841381 : Hd.tree_354 Hd.A0 = PySem.W.Fast.tw11450036585637841381 := congrArg Hd.tree_354 Hd.ab
noncomputable def PySem.W.Fast.tw907909578366683398 : PySem.Params → PySem.W.BT := Hd.tree_378 Hd.B0
theorem PySem.W.Fast.te907909578366683398 : Hd.tree_378 Hd.A0 = PySem.W.Fast.tw907909578366683398 := congrArg Hd.tree_378 Hd.ab
noncomputable def PySem.W.Fast.tw3942578862634544935 : PySem.Params → PySem.Heap := Hd.heap_565 Hd.B0
theorem PySem.W.Fast.te3942578862634544935 : Hd.heap_565 Hd.A0 = PySem.W.Fast.tw3942578862634544935 := congrArg Hd.heap_565 Hd.ab
noncomputable def PySem.W.Fast.tw6182279451477842953 : PySem.Params → PySem.W.BT := Hd.tree_468 Hd.B0
theorem PySem.W.Fast.te6182279451477842953 : Hd.tree_468 Hd.A0 = PySem.W.Fast.tw6182279451477842953 := congrArg Hd.tree_468 Hd.ab
noncomputable def PySem.W.Fast.tw6484357755115721545 : PySem.Params → PySem.W.BT := Hd.tree_237 Hd.B0
theorem PySem.W.Fast.te6484357755115721545 : Hd.tree_237 Hd.A0 = PySem.W.Fast.tw6484357755115721545 := congrArg Hd.tree_237 Hd.ab
noncomputable def PySem.W.Fast.tw10472978351847725578 : PySem.Params → PySem.W.BT := Hd.tree_130 Hd.B0
theorem PySem.W.Fast.te10472978351847725578 : Hd.tree_130 Hd.A0 = PySem.W.Fast.tw10472978351847725578 := congrArg Hd.tree_130 Hd.ab
noncomputable def PySem.W.Fast.tw354854019063779403 : PySem.Params → PySem.W.BT := Hd.tree_564 Hd.B0
theorem PySem.W.Fast.te354854019063779403 : Hd.tree_564 Hd.A0 = PySem.W.Fast.tw354854019063779403 := congrArg Hd.tree_564 Hd.ab
noncomputable def PySem.W.Fast.tw7431825508267058126 : PySem.Params → PySem.W.BT := Hd.tree_70 Hd.B0
theorem PySem.W.Fast.te7431825508267058126 : Hd.tree_70 Hd.A0 = PySem.W.Fast.tw7431825508267058126 := congrArg Hd.tree_70 Hd.ab
noncomputable def PySem.W.Fast.tw13144218196287028207 : PySem.Params → PySem.W.BT := Hd.tree_409 Hd.B0
theorem PySem.W.Fast.te13144218196287028207 : Hd.tree_409 Hd.A0 = PySem.W.Fast.tw13144218196287028207 := congrArg Hd.tree_409 Hd.ab
noncomputable def PySem.W.Fast.tw15522665343659097360 : PySem.Params → PySem.W.BT := Hd.tree_47 Hd.B0
theorem PySem.W.Fast.te15522665343659097360 : Hd.tree_47 Hd.A0 = PySem.W.Fast.tw15522665343659097360 := congrArg Hd.tree_47 Hd.ab
noncomputable def PySem.W.Fast.tw15094461452606614962 : PySem.Params → PySem.Heap := Hd.heap_46 Hd.B0
theorem PySem.W.Fast.te15094461452606614962 : Hd.heap_46 Hd.A0 = PySem.W.Fast.tw15094461452606614962 := congrArg Hd.heap_46 Hd.ab
noncomputable def PySem.W.Fast.tw14801476296119113426 : PySem.Params → PySem.W.BT := Hd.tree_221 Hd.B0
theorem PySem.W.Fast.te14801476296119113426 : Hd.tree_221 Hd.A0 = PySem.W.Fast.tw14801476296119113426 := congrArg Hd.tree_221 Hd.ab
noncomputable def PySem.W.Fast.tw13311829696889598931 : PySem.Params → PySem.W.BT := Hd.tree_289 Hd.B0
theorem PySem.W.Fast.te13311829696889598931 : Hd.tree_289 Hd.A0 = PySem.W.Fast.tw13311829696889598931 := congrArg Hd.tree_289 Hd.ab
noncomputable def PySem.W.Fast.tw12556001501378210676 : PySem.Params → PySem.W.BT := Hd.tree_174 Hd.B0
theorem PySem.W.Fast.te12556001501378210676 : Hd.tree_174 Hd.A0 = PySem.W.Fast.tw12556001501378210676 := congrArg Hd.tree_174 Hd.ab
noncomputable def PySem.W.Fast.tw3854759337877069845 : PySem.Params → PySem.W.BT := Hd.tree_325 Hd.B0
theorem PySem.W.Fast.te3854759337877069845 : Hd.tree_325 Hd.A0 = PySem.W.Fast.tw3854759337877069845 := congrArg Hd.tree_325 Hd.ab
noncomputable def PySem.W.Fast.tw6439839857018092571 : PySem.Params → PySem.W.BT := Hd.tree_115 Hd.B0
theorem PySem.W.Fast.te6439839857018092571 : Hd.tree_115 Hd.A0 = PySem.W.Fast.tw6439839857018092571 := congrArg Hd.tree_115 Hd.ab
set_option Elab.async false
set_option linter.all false
set_option maxRecDepth 100000
set_option maxHeartbeats 8000000
namespace Bw
open PySem L2
theorem all_mk {l : PySem.W.OpenLaw} {w : World} {K : PySem.W.Frag} {h : Heap} {mg : Str → Option Value} {fa f0 f1 f2 f3 f4 f5 f6 f7 f8 f9 f10 f11 f12 f13 f14 f15 f16 f17 f18 f19 f20 f21 f22 f23 f24 f25 f26 f27 cBellError cNoClock cNoFit cNoWish cNoRow cNoText cFit cAny cWay cHour cNever cRaised cLine cWishes : Addr} {t0 t1 t2 t3 : Tok} (X : K.In h) (G : h.Ns mainGlobals mg) (hfa : mg "law" = some (.ref fa))
    {od0 an0 : Option Addr} {sl0 : Array (Option Value)} {oc0 kV0 dc0 pm0 cd0 ct0 : Value}
    (a0 : PySem.W.nsIn K mainGlobals "is_whole" = some (some (.ref f0)))
    (l0 : K.lookup f0 = some ⟨oc0, od0, .func (PySem.W.fnOf "is_whole" "is_whole" (defArgs s_is_whole) (defBody s_is_whole) (defScope s_is_whole) .none kV0 dc0 pm0 an0 cd0 ct0), sl0⟩)
    (c0 : PySem.W.codeIn K cd0 "is_whole" = true)
    (k0 : PySem.W.keepIn K (.ref f0) = true)
    {od1 an1 : Option Addr} {sl1 : Array (Option Value)} {oc1 kV1 dc1 pm1 cd1 ct1 : Value}
    (a1 : PySem.W.nsIn K mainGlobals "is_whole_between" = some (some (.ref f1)))
    (l1 : K.lookup f1 = some ⟨oc1, od1, .func (PySem.W.fnOf "is_whole_between" "is_whole_between" (defArgs s_is_whole_between) (defBody s_is_whole_between) (defScope s_is_whole_between) .none kV1 dc1 pm1 an1 cd1 ct1), sl1⟩)
    (c1 : PySem.W.codeIn K cd1 "is_whole_between" = true)
    (k1 : PySem.W.keepIn K (.ref f1) = true)
    {od2 an2 : Option Addr} {sl2 : Array (Option Value)} {oc2 kV2 dc2 pm2 cd2 ct2 : Value}
    (a2 : PySem.W.nsIn K mainGlobals "is_whole_from" = some (some (.ref f2)))
    (l2 : K.lookup f2 = some ⟨oc2, od2, .func (PySem.W.fnOf "is_whole_from" "is_whole_from" (defArgs s_is_whole_from) (defBody s_is_whole_from) (defScope s_is_whole_from) .none kV2 dc2 pm2 an2 cd2 ct2), sl2⟩)
    (c2 : PySem.W.codeIn K cd2 "is_whole_from" = true)
    (k2 : PySem.W.keepIn K (.ref f2) = true)
    {od3 an3 : Option Addr} {sl3 : Array (Option Value)} {oc3 kV3 dc3 pm3 cd3 ct3 : Value}
    (a3 : PySem.W.nsIn K mainGlobals "is_minute_of_day" = some (some (.ref f3)))
    (l3 : K.lookup f3 = some ⟨oc3, od3, .func (PySem.W.fnOf "is_minute_of_day" "is_minute_of_day" (defArgs s_is_minute_of_day) (defBody s_is_minute_of_day) (defScope s_is_minute_of_day) .none kV3 dc3 pm3 an3 cd3 ct3), sl3⟩)
    (c3 : PySem.W.codeIn K cd3 "is_minute_of_day" = true)
    (k3 : PySem.W.keepIn K (.ref f3) = true)
    {od4 an4 : Option Addr} {sl4 : Array (Option Value)} {oc4 kV4 dc4 pm4 cd4 ct4 : Value}
    (a4 : PySem.W.nsIn K mainGlobals "is_quiet_hours" = some (some (.ref f4)))
    (l4 : K.lookup f4 = some ⟨oc4, od4, .func (PySem.W.fnOf "is_quiet_hours" "is_quiet_hours" (defArgs s_is_quiet_hours) (defBody s_is_quiet_hours) (defScope s_is_quiet_hours) .none kV4 dc4 pm4 an4 cd4 ct4), sl4⟩)
    (c4 : PySem.W.codeIn K cd4 "is_quiet_hours" = true)
    (k4 : PySem.W.keepIn K (.ref f4) = true)
    {od5 an5 : Option Addr} {sl5 : Array (Option Value)} {oc5 kV5 dc5 pm5 cd5 ct5 : Value}
    (a5 : PySem.W.nsIn K mainGlobals "check_zone" = some (some (.ref f5)))
    (l5 : K.lookup f5 = some ⟨oc5, od5, .func (PySem.W.fnOf "check_zone" "check_zone" (defArgs s_check_zone) (defBody s_check_zone) (defScope s_check_zone) .none kV5 dc5 pm5 an5 cd5 ct5), sl5⟩)
    (c5 : PySem.W.codeIn K cd5 "check_zone" = true)
    (k5 : PySem.W.keepIn K (.ref f5) = true)
    {od6 an6 : Option Addr} {sl6 : Array (Option Value)} {oc6 kV6 dc6 pm6 cd6 ct6 : Value}
    (a6 : PySem.W.nsIn K mainGlobals "check_quiet" = some (some (.ref f6)))
    (l6 : K.lookup f6 = some ⟨oc6, od6, .func (PySem.W.fnOf "check_quiet" "check_quiet" (defArgs s_check_quiet) (defBody s_check_quiet) (defScope s_check_quiet) .none kV6 dc6 pm6 an6 cd6 ct6), sl6⟩)
    (c6 : PySem.W.codeIn K cd6 "check_quiet" = true)
    (k6 : PySem.W.keepIn K (.ref f6) = true)
    {od7 an7 : Option Addr} {sl7 : Array (Option Value)} {oc7 kV7 dc7 pm7 cd7 ct7 : Value}
    (a7 : PySem.W.nsIn K mainGlobals "check_minute_of_hour" = some (some (.ref f7)))
    (l7 : K.lookup f7 = some ⟨oc7, od7, .func (PySem.W.fnOf "check_minute_of_hour" "check_minute_of_hour" (defArgs s_check_minute_of_hour) (defBody s_check_minute_of_hour) (defScope s_check_minute_of_hour) .none kV7 dc7 pm7 an7 cd7 ct7), sl7⟩)
    (c7 : PySem.W.codeIn K cd7 "check_minute_of_hour" = true)
    (k7 : PySem.W.keepIn K (.ref f7) = true)
    {od8 an8 : Option Addr} {sl8 : Array (Option Value)} {oc8 kV8 dc8 pm8 cd8 ct8 : Value}
    (a8 : PySem.W.nsIn K mainGlobals "is_name" = some (some (.ref f8)))
    (l8 : K.lookup f8 = some ⟨oc8, od8, .func (PySem.W.fnOf "is_name" "is_name" (defArgs s_is_name) (defBody s_is_name) (defScope s_is_name) .none kV8 dc8 pm8 an8 cd8 ct8), sl8⟩)
    (c8 : PySem.W.codeIn K cd8 "is_name" = true)
    (k8 : PySem.W.keepIn K (.ref f8) = true)
    {od9 an9 : Option Addr} {sl9 : Array (Option Value)} {oc9 kV9 dc9 pm9 cd9 ct9 : Value}
    (a9 : PySem.W.nsIn K mainGlobals "are_unlike_names" = some (some (.ref f9)))
    (l9 : K.lookup f9 = some ⟨oc9, od9, .func (PySem.W.fnOf "are_unlike_names" "are_unlike_names" (defArgs s_are_unlike_names) (defBody s_are_unlike_names) (defScope s_are_unlike_names) .none kV9 dc9 pm9 an9 cd9 ct9), sl9⟩)
    (c9 : PySem.W.codeIn K cd9 "are_unlike_names" = true)
    (k9 : PySem.W.keepIn K (.ref f9) = true)
    {od10 an10 : Option Addr} {sl10 : Array (Option Value)} {oc10 kV10 dc10 pm10 cd10 ct10 : Value}
    (a10 : PySem.W.findIn K (.ref cHour) "__init__" = some (some (.ref f10)))
    (i10 : PySem.W.isFn K (.ref f10) = true)
    (l10 : K.lookup f10 = some ⟨oc10, od10, .func (PySem.W.fnOf "__init__" "Hour.__init__" (defArgs s_Hour___init__) (defBody s_Hour___init__) (defScope s_Hour___init__) .none kV10 dc10 pm10 an10 cd10 ct10), sl10⟩)
    (c10 : PySem.W.codeIn K cd10 "Hour.__init__" = true)
    (k10 : PySem.W.keepIn K (.ref f10) = true)
    {od11 an11 : Option Addr} {sl11 : Array (Option Value)} {oc11 kV11 dc11 pm11 cd11 ct11 : Value}
    (a11 : PySem.W.findIn K (.ref cLine) "__init__" = some (some (.ref f11)))
    (i11 : PySem.W.isFn K (.ref f11) = true)
    {T11 : Addr} {doc11 : Value} {dod11 : Option Addr} {dn11 : Nat} {dsl11 : Array (Option Value)}
    (l11 : K.lookup f11 = some ⟨oc11, od11, .func (PySem.W.fnOf "__init__" "Line.__init__" (defArgs s_Line___init__) (defBody s_Line___init__) (defScope s_Line___init__) (.ref T11) kV11 dc11 pm11 an11 cd11 ct11), sl11⟩)
    (d11 : K.lookup T11 = some ⟨doc11, dod11, .seq #[.bool false, .none] dn11, dsl11⟩)
    (c11 : PySem.W.codeIn K cd11 "Line.__init__" = true)
    {od12 an12 : Option Addr} {sl12 : Array (Option Value)} {oc12 kV12 dc12 pm12 cd12 ct12 : Value}
    (a12 : PySem.W.nsIn K mainGlobals "check_by_way" = some (some (.ref f12)))
    (l12 : K.lookup f12 = some ⟨oc12, od12, .func (PySem.W.fnOf "check_by_way" "check_by_way" (defArgs s_check_by_way) (defBody s_check_by_way) (defScope s_check_by_way) .none kV12 dc12 pm12 an12 cd12 ct12), sl12⟩)
    (c12 : PySem.W.codeIn K cd12 "check_by_way" = true)
    (k12 : PySem.W.keepIn K (.ref f12) = true)
    {od13 an13 : Option Addr} {sl13 : Array (Option Value)} {oc13 kV13 dc13 pm13 cd13 ct13 : Value}
    (a13 : PySem.W.findIn K (.ref cWishes) "__init__" = some (some (.ref f13)))
    (i13 : PySem.W.isFn K (.ref f13) = true)
    {T13 : Addr} {doc13 : Value} {dod13 : Option Addr} {dn13 : Nat} {dsl13 : Array (Option Value)} {dt13_0 : Tok}
    (l13 : K.lookup f13 = some ⟨oc13, od13, .func (PySem.W.fnOf "__init__" "Wishes.__init__" (defArgs s_Wishes___init__) (defBody s_Wishes___init__) (defScope s_Wishes___init__) (.ref T13) kV13 dc13 pm13 an13 cd13 ct13), sl13⟩)
    (d13 : K.lookup T13 = some ⟨doc13, dod13, .seq #[.int 0 dt13_0, .none, .none, .none] dn13, dsl13⟩)
    (c13 : PySem.W.codeIn K cd13 "Wishes.__init__" = true)
    {od14 an14 : Option Addr} {sl14 : Array (Option Value)} {oc14 kV14 dc14 pm14 cd14 ct14 : Value}
    (a14 : PySem.W.nsIn K mainGlobals "check_wake" = some (some (.ref f14)))
    (l14 : K.lookup f14 = some ⟨oc14, od14, .func (PySem.W.fnOf "check_wake" "check_wake" (defArgs s_check_wake) (defBody s_check_wake) (defScope s_check_wake) .none kV14 dc14 pm14 an14 cd14 ct14), sl14⟩)
    (c14 : PySem.W.codeIn K cd14 "check_wake" = true)
    (k14 : PySem.W.keepIn K (.ref f14) = true)
    {od15 an15 : Option Addr} {sl15 : Array (Option Value)} {oc15 kV15 dc15 pm15 cd15 ct15 : Value}
    (a15 : PySem.W.nsIn K mainGlobals "check_lines" = some (some (.ref f15)))
    (l15 : K.lookup f15 = some ⟨oc15, od15, .func (PySem.W.fnOf "check_lines" "check_lines" (defArgs s_check_lines) (defBody s_check_lines) (defScope s_check_lines) .none kV15 dc15 pm15 an15 cd15 ct15), sl15⟩)
    (c15 : PySem.W.codeIn K cd15 "check_lines" = true)
    (k15 : PySem.W.keepIn K (.ref f15) = true)
    {od16 an16 : Option Addr} {sl16 : Array (Option Value)} {oc16 kV16 dc16 pm16 cd16 ct16 : Value}
    (a16 : PySem.W.nsIn K mainGlobals "_law_begin" = some (some (.ref f16)))
    (l16 : K.lookup f16 = some ⟨oc16, od16, .func (PySem.W.fnOf "_law_begin" "_law_begin" (defArgs s_law_begin) (defBody s_law_begin) (defScope s_law_begin) .none kV16 dc16 pm16 an16 cd16 ct16), sl16⟩)
    (c16 : PySem.W.codeIn K cd16 "_law_begin" = true)
    (k16 : PySem.W.keepIn K (.ref f16) = true)
    {od17 an17 : Option Addr} {sl17 : Array (Option Value)} {oc17 kV17 dc17 pm17 cd17 ct17 : Value}
    (a17 : PySem.W.nsIn K mainGlobals "_law_next" = some (some (.ref f17)))
    (l17 : K.lookup f17 = some ⟨oc17, od17, .func (PySem.W.fnOf "_law_next" "_law_next" (defArgs s_law_next) (defBody s_law_next) (defScope s_law_next) .none kV17 dc17 pm17 an17 cd17 ct17), sl17⟩)
    (c17 : PySem.W.codeIn K cd17 "_law_next" = true)
    (k17 : PySem.W.keepIn K (.ref f17) = true)
    {od18 an18 : Option Addr} {sl18 : Array (Option Value)} {oc18 kV18 dc18 pm18 cd18 ct18 : Value}
    (a18 : PySem.W.nsIn K mainGlobals "_law_quiet" = some (some (.ref f18)))
    (l18 : K.lookup f18 = some ⟨oc18, od18, .func (PySem.W.fnOf "_law_quiet" "_law_quiet" (defArgs s_law_quiet) (defBody s_law_quiet) (defScope s_law_quiet) .none kV18 dc18 pm18 an18 cd18 ct18), sl18⟩)
    (c18 : PySem.W.codeIn K cd18 "_law_quiet" = true)
    (k18 : PySem.W.keepIn K (.ref f18) = true)
    {od19 an19 : Option Addr} {sl19 : Array (Option Value)} {oc19 kV19 dc19 pm19 cd19 ct19 : Value}
    (a19 : PySem.W.nsIn K mainGlobals "_law_refused" = some (some (.ref f19)))
    (l19 : K.lookup f19 = some ⟨oc19, od19, .func (PySem.W.fnOf "_law_refused" "_law_refused" (defArgs s_law_refused) (defBody s_law_refused) (defScope s_law_refused) .none kV19 dc19 pm19 an19 cd19 ct19), sl19⟩)
    (c19 : PySem.W.codeIn K cd19 "_law_refused" = true)
    (k19 : PySem.W.keepIn K (.ref f19) = true)
    {od20 an20 : Option Addr} {sl20 : Array (Option Value)} {oc20 kV20 dc20 pm20 cd20 ct20 : Value}
    (a20 : PySem.W.nsIn K mainGlobals "_law_no_zones" = some (some (.ref f20)))
    (l20 : K.lookup f20 = some ⟨oc20, od20, .func (PySem.W.fnOf "_law_no_zones" "_law_no_zones" (defArgs s_law_no_zones) (defBody s_law_no_zones) (defScope s_law_no_zones) .none kV20 dc20 pm20 an20 cd20 ct20), sl20⟩)
    (c20 : PySem.W.codeIn K cd20 "_law_no_zones" = true)
    (k20 : PySem.W.keepIn K (.ref f20) = true)
    {od21 an21 : Option Addr} {sl21 : Array (Option Value)} {oc21 kV21 dc21 pm21 cd21 ct21 : Value}
    (a21 : PySem.W.nsIn K mainGlobals "_law_no_quiet" = some (some (.ref f21)))
    (l21 : K.lookup f21 = some ⟨oc21, od21, .func (PySem.W.fnOf "_law_no_quiet" "_law_no_quiet" (defArgs s_law_no_quiet) (defBody s_law_no_quiet) (defScope s_law_no_quiet) .none kV21 dc21 pm21 an21 cd21 ct21), sl21⟩)
    (c21 : PySem.W.codeIn K cd21 "_law_no_quiet" = true)
    (k21 : PySem.W.keepIn K (.ref f21) = true)
    {od22 an22 : Option Addr} {sl22 : Array (Option Value)} {oc22 kV22 dc22 pm22 cd22 ct22 : Value}
    (a22 : PySem.W.nsIn K mainGlobals "_law_no_wakes" = some (some (.ref f22)))
    (l22 : K.lookup f22 = some ⟨oc22, od22, .func (PySem.W.fnOf "_law_no_wakes" "_law_no_wakes" (defArgs s_law_no_wakes) (defBody s_law_no_wakes) (defScope s_law_no_wakes) .none kV22 dc22 pm22 an22 cd22 ct22), sl22⟩)
    (c22 : PySem.W.codeIn K cd22 "_law_no_wakes" = true)
    (k22 : PySem.W.keepIn K (.ref f22) = true)
    {od23 an23 : Option Addr} {sl23 : Array (Option Value)} {oc23 kV23 dc23 pm23 cd23 ct23 : Value}
    (a23 : PySem.W.nsIn K mainGlobals "_law_no_lines" = some (some (.ref f23)))
    (l23 : K.lookup f23 = some ⟨oc23, od23, .func (PySem.W.fnOf "_law_no_lines" "_law_no_lines" (defArgs s_law_no_lines) (defBody s_law_no_lines) (defScope s_law_no_lines) .none kV23 dc23 pm23 an23 cd23 ct23), sl23⟩)
    (c23 : PySem.W.codeIn K cd23 "_law_no_lines" = true)
    (k23 : PySem.W.keepIn K (.ref f23) = true)
    {od24 an24 : Option Addr} {sl24 : Array (Option Value)} {oc24 kV24 dc24 pm24 cd24 ct24 : Value}
    (a24 : PySem.W.nsIn K mainGlobals "_law_minutes" = some (some (.ref f24)))
    (l24 : K.lookup f24 = some ⟨oc24, od24, .func (PySem.W.fnOf "_law_minutes" "_law_minutes" (defArgs s_law_minutes) (defBody s_law_minutes) (defScope s_law_minutes) .none kV24 dc24 pm24 an24 cd24 ct24), sl24⟩)
    (c24 : PySem.W.codeIn K cd24 "_law_minutes" = true)
    (k24 : PySem.W.keepIn K (.ref f24) = true)
    {od25 an25 : Option Addr} {sl25 : Array (Option Value)} {oc25 kV25 dc25 pm25 cd25 ct25 : Value}
    (a25 : PySem.W.nsIn K mainGlobals "_law_right" = some (some (.ref f25)))
    (l25 : K.lookup f25 = some ⟨oc25, od25, .func (PySem.W.fnOf "_law_right" "_law_right" (defArgs s_law_right) (defBody s_law_right) (defScope s_law_right) .none kV25 dc25 pm25 an25 cd25 ct25), sl25⟩)
    (c25 : PySem.W.codeIn K cd25 "_law_right" = true)
    (k25 : PySem.W.keepIn K (.ref f25) = true)
    {od26 an26 : Option Addr} {sl26 : Array (Option Value)} {oc26 kV26 dc26 pm26 cd26 ct26 : Value}
    (a26 : PySem.W.nsIn K mainGlobals "_law_odd_right" = some (some (.ref f26)))
    (l26 : K.lookup f26 = some ⟨oc26, od26, .func (PySem.W.fnOf "_law_odd_right" "_law_odd_right" (defArgs s_law_odd_right) (defBody s_law_odd_right) (defScope s_law_odd_right) .none kV26 dc26 pm26 an26 cd26 ct26), sl26⟩)
    (c26 : PySem.W.codeIn K cd26 "_law_odd_right" = true)
    (k26 : PySem.W.keepIn K (.ref f26) = true)
    {od27 an27 : Option Addr} {sl27 : Array (Option Value)} {oc27 kV27 dc27 pm27 cd27 ct27 : Value}
    (a27 : PySem.W.nsIn K mainGlobals "law" = some (some (.ref f27)))
    (l27 : K.lookup f27 = some ⟨oc27, od27, .func (PySem.W.fnOf "law" "law" (defArgs s_law) (defBody s_law) (defScope s_law) .none kV27 dc27 pm27 an27 cd27 ct27), sl27⟩)
    (c27 : PySem.W.codeIn K cd27 "law" = true)
    (k27 : PySem.W.keepIn K (.ref f27) = true)
    (y0 : PySem.W.nsIn K mainGlobals "len" = some none)
    (y1 : PySem.W.nsIn K mainGlobals "int" = some none)
    (y2 : PySem.W.nsIn K mainGlobals "bool" = some none)
    (y3 : PySem.W.nsIn K mainGlobals "str" = some none)
    (y4 : PySem.W.nsIn K mainGlobals "tuple" = some none)
    (y5 : PySem.W.nsIn K mainGlobals "list" = some none)
    (y6 : PySem.W.nsIn K mainGlobals "all" = some none)
    (y7 : PySem.W.nsIn K mainGlobals "isinstance" = some none)
    (y8 : PySem.W.nsIn K mainGlobals "range" = some none)
    (y9 : PySem.W.nsIn K mainGlobals "set" = some none)
    (y10 : PySem.W.nsIn K mainGlobals "ValueError" = some none)
    (y11 : PySem.W.nsIn K mainGlobals "MINUTES_OF_HOUR" = some (some (.int 60 t0)))
    (y12 : PySem.W.nsIn K mainGlobals "MINUTES_OF_DAY" = some (some (.int 1440 t1)))
    (y13 : PySem.W.nsIn K mainGlobals "LETTERS" = some (some (.str "abcdefghijklmnopqrstuvwxyz" t2)))
    (y14 : PySem.W.nsIn K mainGlobals "MOST_LETTERS" = some (some (.int 8 t3)))
    (y15 : PySem.W.nsIn K mainGlobals "BellError" = some (some (.ref cBellError)))
    (y16 : PySem.W.nsIn K mainGlobals "NoClock" = some (some (.ref cNoClock)))
    (y17 : PySem.W.nsIn K mainGlobals "NoFit" = some (some (.ref cNoFit)))
    (y18 : PySem.W.nsIn K mainGlobals "NoWish" = some (some (.ref cNoWish)))
    (y19 : PySem.W.nsIn K mainGlobals "NoRow" = some (some (.ref cNoRow)))
    (y20 : PySem.W.nsIn K mainGlobals "NoText" = some (some (.ref cNoText)))
    (y21 : PySem.W.nsIn K mainGlobals "Fit" = some (some (.ref cFit)))
    (y22 : PySem.W.nsIn K mainGlobals "Any" = some (some (.ref cAny)))
    (y23 : PySem.W.nsIn K mainGlobals "Way" = some (some (.ref cWay)))
    (y24 : PySem.W.nsIn K mainGlobals "Hour" = some (some (.ref cHour)))
    (y25 : PySem.W.nsIn K mainGlobals "Never" = some (some (.ref cNever)))
    (y26 : PySem.W.nsIn K mainGlobals "Raised" = some (some (.ref cRaised)))
    (y27 : PySem.W.nsIn K mainGlobals "Line" = some (some (.ref cLine)))
    (y28 : PySem.W.nsIn K mainGlobals "Wishes" = some (some (.ref cWishes)))
    (y29 : PySem.W.excIn K cNoClock vbm "ValueError.__new__" = true)
    (y30_0 : PySem.W.findIn K (.ref cNoClock) "__getattribute__" = some (some (.builtin "BaseException.__getattribute__")))
    (y30_1 : PySem.W.findIn K (.ref cNoClock) "__getattr__" = some none)
    (y30_2 : PySem.W.findIn K (.ref cNoClock) "__class__" = some (some (.builtin "object.__class__")))
    (y30_3 : PySem.W.mroIn K cNoClock (.type "BaseException") = some true)
    (y30_4 : PySem.W.mroIn K cNoClock (.type "object") = some true)
    (y30_5 : PySem.W.isClsIn K cNoClock = true)
    (y31 : PySem.W.excIn K cNoWish vbm "ValueError.__new__" = true)
    (y32_0 : PySem.W.findIn K (.ref cNoWish) "__getattribute__" = some (some (.builtin "BaseException.__getattribute__")))
    (y32_1 : PySem.W.findIn K (.ref cNoWish) "__getattr__" = some none)
    (y32_2 : PySem.W.findIn K (.ref cNoWish) "__class__" = some (some (.builtin "object.__class__")))
    (y32_3 : PySem.W.mroIn K cNoWish (.type "BaseException") = some true)
    (y32_4 : PySem.W.mroIn K cNoWish (.type "object") = some true)
    (y32_5 : PySem.W.isClsIn K cNoWish = true)
    (y33 : PySem.W.exmOne K (.ref cNoClock) (.ref cBellError) = some true)
    (y34 : PySem.W.kitAny K (.ref cNoClock) ([.ref cNoFit, .ref cNoRow, .ref cNoText] : List Value) = some false)
    (y35 : PySem.W.kitOne K (.ref cNoClock) (.type "ValueError") = some true)
    (y36 : PySem.W.kitOne K (.ref cNoClock) (.ref cNoClock) = some true)
    (y37 : PySem.W.kitOne K (.ref cNoClock) (.ref cNoWish) = some false)
    (y38 : PySem.W.exmOne K (.ref cNoWish) (.ref cBellError) = some true)
    (y39 : PySem.W.kitAny K (.ref cNoWish) ([.ref cNoFit, .ref cNoRow, .ref cNoText] : List Value) = some false)
    (y40 : PySem.W.kitOne K (.ref cNoWish) (.type "ValueError") = some true)
    (y41 : PySem.W.kitOne K (.ref cNoWish) (.ref cNoClock) = some false)
    (y42 : PySem.W.kitOne K (.ref cNoWish) (.ref cNoWish) = some true)
    (y43_0 : PySem.W.plainGet K cAny Str.empty = true)
    (y43_1 : PySem.W.hasDictIn K cAny = true)
    (y43_2 : PySem.W.plainOver K cAny = true)
    (y43_3 : PySem.W.findIn K (.ref cAny) "__setattr__" = some (some (.builtin "object.__setattr__")))
    (y43_4 : PySem.W.findIn K (.ref cAny) "__class__" = some (some (.builtin "object.__class__")))
    (y43_5 : PySem.W.specialIn K (.builtin "object.__class__") "__get__" = some (some (.builtin "getset_descriptor.__get__")))
    (y43_6 : PySem.W.takesIn K (.builtin "object.__class__") = some true)
    (y43_7 : PySem.W.mroIn K cAny (.type "object") = some true)
    (y44_0 : PySem.W.plainGet K cHour Str.empty = true)
    (y44_1 : PySem.W.hasDictIn K cHour = true)
    (y44_2 : PySem.W.plainOver K cHour = true)
    (y44_3 : PySem.W.findIn K (.ref cHour) "__setattr__" = some (some (.builtin "object.__setattr__")))
    (y44_4 : PySem.W.findIn K (.ref cHour) "__class__" = some (some (.builtin "object.__class__")))
    (y44_5 : PySem.W.specialIn K (.builtin "object.__class__") "__get__" = some (some (.builtin "getset_descriptor.__get__")))
    (y44_6 : PySem.W.takesIn K (.builtin "object.__class__") = some true)
    (y44_7 : PySem.W.mroIn K cHour (.type "object") = some true)
    (y45 : PySem.W.findIn K (.ref cHour) "minute" = some none)
    (y46_0 : PySem.W.plainGet K cLine Str.empty = true)
    (y46_1 : PySem.W.hasDictIn K cLine = true)
    (y46_2 : PySem.W.plainOver K cLine = true)
    (y46_3 : PySem.W.findIn K (.ref cLine) "__setattr__" = some (some (.builtin "object.__setattr__")))
    (y46_4 : PySem.W.findIn K (.ref cLine) "__class__" = some (some (.builtin "object.__class__")))
    (y46_5 : PySem.W.specialIn K (.builtin "object.__class__") "__get__" = some (some (.builtin "getset_descriptor.__get__")))
    (y46_6 : PySem.W.takesIn K (.builtin "object.__class__") = some true)
    (y46_7 : PySem.W.mroIn K cLine (.type "object") = some true)
    (y47 : PySem.W.findIn K (.ref cLine) "fit" = some none)
    (y48 : PySem.W.findIn K (.ref cLine) "way" = some none)
    (y49 : PySem.W.findIn K (.ref cLine) "roads" = some none)
    (y50 : PySem.W.findIn K (.ref cLine) "sure" = some none)
    (y51 : PySem.W.findIn K (.ref cLine) "raised" = some none)
    (y52_0 : PySem.W.plainGet K cWishes Str.empty = true)
    (y52_1 : PySem.W.hasDictIn K cWishes = true)
    (y52_2 : PySem.W.plainOver K cWishes = true)
    (y52_3 : PySem.W.findIn K (.ref cWishes) "__setattr__" = some (some (.builtin "object.__setattr__")))
    (y52_4 : PySem.W.findIn K (.ref cWishes) "__class__" = some (some (.builtin "object.__class__")))
    (y52_5 : PySem.W.specialIn K (.builtin "object.__class__") "__get__" = some (some (.builtin "getset_descriptor.__get__")))
    (y52_6 : PySem.W.takesIn K (.builtin "object.__class__") = some true)
    (y52_7 : PySem.W.mroIn K cWishes (.type "object") = some true)
    (y53 : PySem.W.findIn K (.ref cWishes) "zone" = some none)
    (y54 : PySem.W.findIn K (.ref cWishes) "quiet" = some none)
    (y55 : PySem.W.findIn K (.ref cWishes) "wake" = some none)
    (y56 : PySem.W.findIn K (.ref cWishes) "lines" = some none)
    (y57 : PySem.W.kitOne K (.ref cAny) (.ref cFit) = some true)
    (y58 : PySem.W.kitOne K (.ref cHour) (.ref cWay) = some true)
    (y59 : PySem.W.kitOne K (.ref cHour) (.ref cNever) = some false)
    (y60 : PySem.W.kitOne K (.ref cLine) (.ref cLine) = some true)
    (y61 : PySem.W.kitOne K (.ref cAny) (.ref cLine) = some false)
    (y62 : PySem.W.kitOne K (.ref cHour) (.ref cLine) = some false)
    (y63 : PySem.W.kitOne K (.ref cWishes) (.ref cWishes) = some true)
    (y64 : PySem.W.kitOne K (.ref cLine) (.type "list") = some false)
    (y65 : PySem.W.kitOne K (.type "NoneType") (.ref cLine) = some false)
    (y66 : PySem.W.kitOne K (.type "bool") (.ref cLine) = some false)
    (y67 : PySem.W.kitOne K (.type "int") (.ref cLine) = some false)
    (y68 : PySem.W.kitOne K (.type "str") (.ref cLine) = some false)
    (y69 : PySem.W.kitOne K (.type "list") (.ref cLine) = some false)
    (y70 : PySem.W.kitOne K (.type "tuple") (.ref cLine) = some false)
    (y71 : PySem.W.kitOne K (.type "dict") (.ref cLine) = some false)
    (y72_0 : PySem.W.makesIn K cAny = true)
    (y72_1 : PySem.W.findIn K (.ref cAny) "__init__" = some (some (.builtin "object.__init__")))
    (y72_2 : PySem.W.keepIn K (.ref cAny) = true)
    (mkHour : PySem.W.makesIn K cHour = true)
    (kcHour : PySem.W.keepIn K (.ref cHour) = true)
    (mkLine : PySem.W.makesIn K cLine = true)
    (kcLine : PySem.W.keepIn K (.ref cLine) = true)
    (mkWishes : PySem.W.makesIn K cWishes = true)
    (kcWishes : PySem.W.keepIn K (.ref cWishes) = true) :
    ∃ (a : Ad) (fd : FuncData), (∀ (s : Shared) (v : Value), BindsTo s fd ⟨[v], []⟩ [("_law_script", v)]) ∧ ∀ base : Heap, K.In base → base.Ns mainGlobals mg → FnOk l.prog w K mg base CX0 10 fa fd ["_law_script"] (sp_law K a) := by
  have e := hfa.symm.trans (PySem.W.mg_of X G a27)
  cases e
  have B : Bt K mg ⟨cBellError, cNoClock, cNoFit, cNoWish, cNoRow, cNoText, cFit, cAny, cWay, cHour, cNever, cRaised, cLine, cWishes, t0, t1, t2, t3⟩ := ⟨PySem.W.mg_none_of X G y0, PySem.W.mg_none_of X G y1, PySem.W.mg_none_of X G y2, PySem.W.mg_none_of X G y3, PySem.W.mg_none_of X G y4, PySem.W.mg_none_of X G y5, PySem.W.mg_none_of X G y6, PySem.W.mg_none_of X G y7, PySem.W.mg_none_of X G y8, PySem.W.mg_none_of X G y9, PySem.W.mg_none_of X G y10, PySem.W.mg_of X G y11, PySem.W.mg_of X G y12, PySem.W.mg_of X G y13, PySem.W.mg_of X G y14, PySem.W.mg_of X G y15, PySem.W.mg_of X G y16, PySem.W.mg_of X G y17, PySem.W.mg_of X G y18, PySem.W.mg_of X G y19, PySem.W.mg_of X G y20, PySem.W.mg_of X G y21, PySem.W.mg_of X G y22, PySem.W.mg_of X G y23, PySem.W.mg_of X G y24, PySem.W.mg_of X G y25, PySem.W.mg_of X G y26, PySem.W.mg_of X G y27, PySem.W.mg_of X G y28, y29, ⟨y30_0, y30_1, y30_2, y30_3, y30_4, y30_5⟩, y31, ⟨y32_0, y32_1, y32_2, y32_3, y32_4, y32_5⟩, y33, y34, y35, y36, y37, y38, y39, y40, y41, y42, ⟨⟨y43_0, y43_1, y43_2, y43_3⟩, y43_4, y43_5, y43_6, y43_7⟩, ⟨⟨y44_0, y44_1, y44_2, y44_3⟩, y44_4, y44_5, y44_6, y44_7⟩, y45, ⟨⟨y46_0, y46_1, y46_2, y46_3⟩, y46_4, y46_5, y46_6, y46_7⟩, y47, y48, y49, y50, y51, ⟨⟨y52_0, y52_1, y52_2, y52_3⟩, y52_4, y52_5, y52_6, y52_7⟩, y53, y54, y55, y56, y57, y58, y59, y60, y61, y62, y63, y64, y65, y66, y67, y68, y69, y70, y71, ⟨y72_0, y72_1, y72_2⟩⟩
  have F0 := fun_mk (st := s_is_whole) l0 c0 k0
  have b0 := F0.binds (ps := ["thing"]) fun _ _ _ _ _ _ us hl => match us, hl with | [_], _ => rfl
  have F1 := fun_mk (st := s_is_whole_between) l1 c1 k1
  have b1 := F1.binds (ps := ["thing", "least", "most"]) fun _ _ _ _ _ _ us hl => match us, hl with | [_, _, _], _ => rfl
  have F2 := fun_mk (st := s_is_whole_from) l2 c2 k2
  have b2 := F2.binds (ps := ["thing", "least"]) fun _ _ _ _ _ _ us hl => match us, hl with | [_, _], _ => rfl
  have F3 := fun_mk (st := s_is_minute_of_day) l3 c3 k3
  have b3 := F3.binds (ps := ["thing"]) fun _ _ _ _ _ _ us hl => match us, hl with | [_], _ => rfl
  have F4 := fun_mk (st := s_is_quiet_hours) l4 c4 k4
  have b4 := F4.binds (ps := ["thing"]) fun _ _ _ _ _ _ us hl => match us, hl with | [_], _ => rfl
  have F5 := fun_mk (st := s_check_zone) l5 c5 k5
  have b5 := F5.binds (ps := ["zone"]) fun _ _ _ _ _ _ us hl => match us, hl with | [_], _ => rfl
  have F6 := fun_mk (st := s_check_quiet) l6 c6 k6
  have b6 := F6.binds (ps := ["quiet"]) fun _ _ _ _ _ _ us hl => match us, hl with | [_], _ => rfl
  have F7 := fun_mk (st := s_check_minute_of_hour) l7 c7 k7
  have b7 := F7.binds (ps := ["minute"]) fun _ _ _ _ _ _ us hl => match us, hl with | [_], _ => rfl
  have F8 := fun_mk (st := s_is_name) l8 c8 k8
  have b8 := F8.binds (ps := ["thing"]) fun _ _ _ _ _ _ us hl => match us, hl with | [_], _ => rfl
  have F9 := fun_mk (st := s_are_unlike_names) l9 c9 k9
  have b9 := F9.binds (ps := ["thing"]) fun _ _ _ _ _ _ us hl => match us, hl with | [_], _ => rfl
  have F10 := fun_mk (st := s_Hour___init__) l10 c10 k10
  have b10 := F10.binds (ps := ["self", "minute"]) fun _ _ _ _ _ _ us hl => match us, hl with | [_, _], _ => rfl
  have F11 := funA_mk (st := s_Line___init__) l11 c11
  have b11_3 : Binds K _ ["self", "fit", "way", "roads", "sure", "raised"] [.bool false, .none] := bindsD (fd := PySem.W.fnOf "__init__" "Line.__init__" (defArgs s_Line___init__) (defBody s_Line___init__) (defScope s_Line___init__) (.ref T11) kV11 dc11 pm11 an11 cd11 ct11) 4 rfl fun s us X hl => match us, hl with | [_, _, _, _], _ => by first | exact .of_eq rfl | exact PySem.W.binds_K X rfl d11 rfl rfl rfl
  have F12 := fun_mk (st := s_check_by_way) l12 c12 k12
  have b12 := F12.binds (ps := ["way", "roads", "sure", "raised"]) fun _ _ _ _ _ _ us hl => match us, hl with | [_, _, _, _], _ => rfl
  have F13 := funA_mk (st := s_Wishes___init__) l13 c13
  have b13_4 : Binds K _ ["self", "zone", "quiet", "wake", "lines"] [] := bindsD (fd := PySem.W.fnOf "__init__" "Wishes.__init__" (defArgs s_Wishes___init__) (defBody s_Wishes___init__) (defScope s_Wishes___init__) (.ref T13) kV13 dc13 pm13 an13 cd13 ct13) 5 rfl fun s us X hl => match us, hl with | [_, _, _, _, _], _ => by first | exact .of_eq rfl | exact PySem.W.binds_K X rfl d13 rfl rfl rfl
  have b13_0 : Binds K _ ["self", "zone", "quiet", "wake", "lines"] [.int 0 dt13_0, .none, .none, .none] := bindsD (fd := PySem.W.fnOf "__init__" "Wishes.__init__" (defArgs s_Wishes___init__) (defBody s_Wishes___init__) (defScope s_Wishes___init__) (.ref T13) kV13 dc13 pm13 an13 cd13 ct13) 1 rfl fun s us X hl => match us, hl with | [_], _ => by first | exact .of_eq rfl | exact PySem.W.binds_K X rfl d13 rfl rfl rfl
  have F14 := fun_mk (st := s_check_wake) l14 c14 k14
  have b14 := F14.binds (ps := ["wake", "quiet"]) fun _ _ _ _ _ _ us hl => match us, hl with | [_, _], _ => rfl
  have F15 := fun_mk (st := s_check_lines) l15 c15 k15
  have b15 := F15.binds (ps := ["lines"]) fun _ _ _ _ _ _ us hl => match us, hl with | [_], _ => rfl
  have F16 := fun_mk (st := s_law_begin) l16 c16 k16
  have b16 := F16.binds (ps := ["_law_cell"]) fun _ _ _ _ _ _ us hl => match us, hl with | [_], _ => rfl
  have F17 := fun_mk (st := s_law_next) l17 c17 k17
  have b17 := F17.binds (ps := ["_law_state", "_law_base"]) fun _ _ _ _ _ _ us hl => match us, hl with | [_, _], _ => rfl
  have F18 := fun_mk (st := s_law_quiet) l18 c18 k18
  have b18 := F18.binds (ps := ["_law_state"]) fun _ _ _ _ _ _ us hl => match us, hl with | [_], _ => rfl
  have F19 := fun_mk (st := s_law_refused) l19 c19 k19
  have b19 := F19.binds (ps := ["_law_zone", "_law_hours", "_law_heavy", "_law_lots"]) fun _ _ _ _ _ _ us hl => match us, hl with | [_, _, _, _], _ => rfl
  have F20 := fun_mk (st := s_law_no_zones) l20 c20 k20
  have b20 := F20.binds (ps := ["_law_zone"]) fun _ _ _ _ _ _ us hl => match us, hl with | [_], _ => rfl
  have F21 := fun_mk (st := s_law_no_quiet) l21 c21 k21
  have b21 := F21.binds (ps := ["_law_hours"]) fun _ _ _ _ _ _ us hl => match us, hl with | [_], _ => rfl
  have F22 := fun_mk (st := s_law_no_wakes) l22 c22 k22
  have b22 := F22.binds (ps := ["_law_heavy"]) fun _ _ _ _ _ _ us hl => match us, hl with | [_], _ => rfl
  have F23 := fun_mk (st := s_law_no_lines) l23 c23 k23
  have b23 := F23.binds (ps := ["_law_lots"]) fun _ _ _ _ _ _ us hl => match us, hl with | [_], _ => rfl
  have F24 := fun_mk (st := s_law_minutes) l24 c24 k24
  have b24 := F24.binds (ps := ["_law_found"]) fun _ _ _ _ _ _ us hl => match us, hl with | [_], _ => rfl
  have F25 := fun_mk (st := s_law_right) l25 c25 k25
  have b25 := F25.binds (ps := ["_law_wishes", "_law_zone", "_law_hours", "_law_heavy", "_law_minutes_here"]) fun _ _ _ _ _ _ us hl => match us, hl with | [_, _, _, _, _], _ => rfl
  have F26 := fun_mk (st := s_law_odd_right) l26 c26 k26
  have b26 := F26.binds (ps := ["_law_state", "_law_zone", "_law_hours", "_law_heavy", "_law_lots"]) fun _ _ _ _ _ _ us hl => match us, hl with | [_, _, _, _, _], _ => rfl
  have F27 := fun_mk (st := s_law) l27 c27 k27
  have b27 := F27.binds (ps := ["_law_script"]) fun _ _ _ _ _ _ us hl => match us, hl with | [_], _ => rfl
  refine ⟨(⟨cBellError, cNoClock, cNoFit, cNoWish, cNoRow, cNoText, cFit, cAny, cWay, cHour, cNever, cRaised, cLine, cWishes, t0, t1, t2, t3⟩ : Ad), PySem.W.fnOf "law" "law" (defArgs s_law) (defBody s_law) (defScope s_law) .none kV27 dc27 pm27 an27 cd27 ct27, fun s v => .of_eq rfl, fun base _ _ => ?_⟩
  have G_is_whole : FnOk l.prog w K mg base (CXF l.prog w) 1 f0 _ ["thing"] (sp_is_whole K (⟨cBellError, cNoClock, cNoFit, cNoWish, cNoRow, cNoText, cFit, cAny, cWay, cHour, cNever, cRaised, cLine, cWishes, t0, t1, t2, t3⟩ : Ad)) := FnOk.up (ok_is_whole (P := l.prog) (w := w) (base := base) B  F0)
  have C_is_whole : CalX l.prog w K mg base "is_whole" ["thing"] 1 (sp_is_whole K (⟨cBellError, cNoClock, cNoFit, cNoWish, cNoRow, cNoText, cFit, cAny, cWay, cHour, cNever, cRaised, cLine, cWishes, t0, t1, t2, t3⟩ : Ad)) := ⟨_, _, G_is_whole, b0, k0, PySem.W.mg_of X G a0⟩
  have G_is_name : FnOk l.prog w K mg base (CXF l.prog w) 1 f8 _ ["thing"] (sp_is_name K (⟨cBellError, cNoClock, cNoFit, cNoWish, cNoRow, cNoText, cFit, cAny, cWay, cHour, cNever, cRaised, cLine, cWishes, t0, t1, t2, t3⟩ : Ad)) := FnOk.up (ok_is_name (P := l.prog) (w := w) (base := base) B  F8)
  have C_is_name : CalX l.prog w K mg base "is_name" ["thing"] 1 (sp_is_name K (⟨cBellError, cNoClock, cNoFit, cNoWish, cNoRow, cNoText, cFit, cAny, cWay, cHour, cNever, cRaised, cLine, cWishes, t0, t1, t2, t3⟩ : Ad)) := ⟨_, _, G_is_name, b8, k8, PySem.W.mg_of X G a8⟩
  have G_check_by_way : FnOk l.prog w K mg base (CXF l.prog w) 1 f12 _ ["way", "roads", "sure", "raised"] (sp_check_by_way K (⟨cBellError, cNoClock, cNoFit, cNoWish, cNoRow, cNoText, cFit, cAny, cWay, cHour, cNever, cRaised, cLine, cWishes, t0, t1, t2, t3⟩ : Ad)) := FnOk.up (ok_check_by_way (P := l.prog) (w := w) (base := base) B  F12)
  have C_check_by_way : CalX l.prog w K mg base "check_by_way" ["way", "roads", "sure", "raised"] 1 (sp_check_by_way K (⟨cBellError, cNoClock, cNoFit, cNoWish, cNoRow, cNoText, cFit, cAny, cWay, cHour, cNever, cRaised, cLine, cWishes, t0, t1, t2, t3⟩ : Ad)) := ⟨_, _, G_check_by_way, b12, k12, PySem.W.mg_of X G a12⟩
  have G_check_lines : FnOk l.prog w K mg base (CXF l.prog w) 1 f15 _ ["lines"] (sp_check_lines K (⟨cBellError, cNoClock, cNoFit, cNoWish, cNoRow, cNoText, cFit, cAny, cWay, cHour, cNever, cRaised, cLine, cWishes, t0, t1, t2, t3⟩ : Ad)) := ok_check_lines (P := l.prog) (w := w) (base := base) B  F15
  have C_check_lines : CalX l.prog w K mg base "check_lines" ["lines"] 1 (sp_check_lines K (⟨cBellError, cNoClock, cNoFit, cNoWish, cNoRow, cNoText, cFit, cAny, cWay, cHour, cNever, cRaised, cLine, cWishes, t0, t1, t2, t3⟩ : Ad)) := ⟨_, _, G_check_lines, b15, k15, PySem.W.mg_of X G a15⟩
  have G_law_begin : FnOk l.prog w K mg base (CXF l.prog w) 1 f16 _ ["_law_cell"] (sp_law_begin K (⟨cBellError, cNoClock, cNoFit, cNoWish, cNoRow, cNoText, cFit, cAny, cWay, cHour, cNever, cRaised, cLine, cWishes, t0, t1, t2, t3⟩ : Ad)) := FnOk.up (ok_law_begin (P := l.prog) (w := w) (base := base) B  F16)
  have C_law_begin : CalX l.prog w K mg base "_law_begin" ["_law_cell"] 1 (sp_law_begin K (⟨cBellError, cNoClock, cNoFit, cNoWish, cNoRow, cNoText, cFit, cAny, cWay, cHour, cNever, cRaised, cLine, cWishes, t0, t1, t2, t3⟩ : Ad)) := ⟨_, _, G_law_begin, b16, k16, PySem.W.mg_of X G a16⟩
  have G_law_next : FnOk l.prog w K mg base (CXF l.prog w) 1 f17 _ ["_law_state", "_law_base"] (sp_law_next K (⟨cBellError, cNoClock, cNoFit, cNoWish, cNoRow, cNoText, cFit, cAny, cWay, cHour, cNever, cRaised, cLine, cWishes, t0, t1, t2, t3⟩ : Ad)) := FnOk.up (ok_law_next (P := l.prog) (w := w) (base := base) B  F17)
  have C_law_next : CalX l.prog w K mg base "_law_next" ["_law_state", "_law_base"] 1 (sp_law_next K (⟨cBellError, cNoClock, cNoFit, cNoWish, cNoRow, cNoText, cFit, cAny, cWay, cHour, cNever, cRaised, cLine, cWishes, t0, t1, t2, t3⟩ : Ad)) := ⟨_, _, G_law_next, b17, k17, PySem.W.mg_of X G a17⟩
  have G_law_no_zones : FnOk l.prog w K mg base (CXF l.prog w) 1 f20 _ ["_law_zone"] (sp_law_no_zones K (⟨cBellError, cNoClock, cNoFit, cNoWish, cNoRow, cNoText, cFit, cAny, cWay, cHour, cNever, cRaised, cLine, cWishes, t0, t1, t2, t3⟩ : Ad)) := FnOk.up (ok_law_no_zones (P := l.prog) (w := w) (base := base) B  F20)
  have C_law_no_zones : CalX l.prog w K mg base "_law_no_zones" ["_law_zone"] 1 (sp_law_no_zones K (⟨cBellError, cNoClock, cNoFit, cNoWish, cNoRow, cNoText, cFit, cAny, cWay, cHour, cNever, cRaised, cLine, cWishes, t0, t1, t2, t3⟩ : Ad)) := ⟨_, _, G_law_no_zones, b20, k20, PySem.W.mg_of X G a20⟩
  have G_law_no_quiet : FnOk l.prog w K mg base (CXF l.prog w) 1 f21 _ ["_law_hours"] (sp_law_no_quiet K (⟨cBellError, cNoClock, cNoFit, cNoWish, cNoRow, cNoText, cFit, cAny, cWay, cHour, cNever, cRaised, cLine, cWishes, t0, t1, t2, t3⟩ : Ad)) := FnOk.up (ok_law_no_quiet (P := l.prog) (w := w) (base := base) B  F21)
  have C_law_no_quiet : CalX l.prog w K mg base "_law_no_quiet" ["_law_hours"] 1 (sp_law_no_quiet K (⟨cBellError, cNoClock, cNoFit, cNoWish, cNoRow, cNoText, cFit, cAny, cWay, cHour, cNever, cRaised, cLine, cWishes, t0, t1, t2, t3⟩ : Ad)) := ⟨_, _, G_law_no_quiet, b21, k21, PySem.W.mg_of X G a21⟩
  have G_law_no_wakes : FnOk l.prog w K mg base (CXF l.prog w) 1 f22 _ ["_law_heavy"] (sp_law_no_wakes K (⟨cBellError, cNoClock, cNoFit, cNoWish, cNoRow, cNoText, cFit, cAny, cWay, cHour, cNever, cRaised, cLine, cWishes, t0, t1, t2, t3⟩ : Ad)) := FnOk.up (ok_law_no_wakes (P := l.prog) (w := w) (base := base) B  F22)
  have C_law_no_wakes : CalX l.prog w K mg base "_law_no_wakes" ["_law_heavy"] 1 (sp_law_no_wakes K (⟨cBellError, cNoClock, cNoFit, cNoWish, cNoRow, cNoText, cFit, cAny, cWay, cHour, cNever, cRaised, cLine, cWishes, t0, t1, t2, t3⟩ : Ad)) := ⟨_, _, G_law_no_wakes, b22, k22, PySem.W.mg_of X G a22⟩
  have G_law_minutes : FnOk l.prog w K mg base (CXF l.prog w) 1 f24 _ ["_law_found"] (sp_law_minutes K (⟨cBellError, cNoClock, cNoFit, cNoWish, cNoRow, cNoText, cFit, cAny, cWay, cHour, cNever, cRaised, cLine, cWishes, t0, t1, t2, t3⟩ : Ad)) := FnOk.up (ok_law_minutes (P := l.prog) (w := w) (base := base) B  F24)
  have C_law_minutes : CalX l.prog w K mg base "_law_minutes" ["_law_found"] 1 (sp_law_minutes K (⟨cBellError, cNoClock, cNoFit, cNoWish, cNoRow, cNoText, cFit, cAny, cWay, cHour, cNever, cRaised, cLine, cWishes, t0, t1, t2, t3⟩ : Ad)) := ⟨_, _, G_law_minutes, b24, k24, PySem.W.mg_of X G a24⟩
  have G_is_whole_between : FnOk l.prog w K mg base (CXF l.prog w) 2 f1 _ ["thing", "least", "most"] (sp_is_whole_between K (⟨cBellError, cNoClock, cNoFit, cNoWish, cNoRow, cNoText, cFit, cAny, cWay, cHour, cNever, cRaised, cLine, cWishes, t0, t1, t2, t3⟩ : Ad)) := FnOk.up (ok_is_whole_between (P := l.prog) (w := w) (base := base) B C_is_whole F1)
  have C_is_whole_between : CalX l.prog w K mg base "is_whole_between" ["thing", "least", "most"] 2 (sp_is_whole_between K (⟨cBellError, cNoClock, cNoFit, cNoWish, cNoRow, cNoText, cFit, cAny, cWay, cHour, cNever, cRaised, cLine, cWishes, t0, t1, t2, t3⟩ : Ad)) := ⟨_, _, G_is_whole_between, b1, k1, PySem.W.mg_of X G a1⟩
  have G_is_whole_from : FnOk l.prog w K mg base (CXF l.prog w) 2 f2 _ ["thing", "least"] (sp_is_whole_from K (⟨cBellError, cNoClock, cNoFit, cNoWish, cNoRow, cNoText, cFit, cAny, cWay, cHour, cNever, cRaised, cLine, cWishes, t0, t1, t2, t3⟩ : Ad)) := FnOk.up (ok_is_whole_from (P := l.prog) (w := w) (base := base) B C_is_whole F2)
  have C_is_whole_from : CalX l.prog w K mg base "is_whole_from" ["thing", "least"] 2 (sp_is_whole_from K (⟨cBellError, cNoClock, cNoFit, cNoWish, cNoRow, cNoText, cFit, cAny, cWay, cHour, cNever, cRaised, cLine, cWishes, t0, t1, t2, t3⟩ : Ad)) := ⟨_, _, G_is_whole_from, b2, k2, PySem.W.mg_of X G a2⟩
  have G_are_unlike_names : FnOk l.prog w K mg base (CXF l.prog w) 2 f9 _ ["thing"] (sp_are_unlike_names K (⟨cBellError, cNoClock, cNoFit, cNoWish, cNoRow, cNoText, cFit, cAny, cWay, cHour, cNever, cRaised, cLine, cWishes, t0, t1, t2, t3⟩ : Ad)) := FnOk.up (ok_are_unlike_names (P := l.prog) (w := w) (base := base) B C_is_name F9)
  have C_are_unlike_names : CalX l.prog w K mg base "are_unlike_names" ["thing"] 2 (sp_are_unlike_names K (⟨cBellError, cNoClock, cNoFit, cNoWish, cNoRow, cNoText, cFit, cAny, cWay, cHour, cNever, cRaised, cLine, cWishes, t0, t1, t2, t3⟩ : Ad)) := ⟨_, _, G_are_unlike_names, b9, k9, PySem.W.mg_of X G a9⟩
  have G_law_quiet : FnOk l.prog w K mg base (CXF l.prog w) 2 f18 _ ["_law_state"] (sp_law_quiet K (⟨cBellError, cNoClock, cNoFit, cNoWish, cNoRow, cNoText, cFit, cAny, cWay, cHour, cNever, cRaised, cLine, cWishes, t0, t1, t2, t3⟩ : Ad)) := FnOk.up (ok_law_quiet (P := l.prog) (w := w) (base := base) B C_law_next F18)
  have C_law_quiet : CalX l.prog w K mg base "_law_quiet" ["_law_state"] 2 (sp_law_quiet K (⟨cBellError, cNoClock, cNoFit, cNoWish, cNoRow, cNoText, cFit, cAny, cWay, cHour, cNever, cRaised, cLine, cWishes, t0, t1, t2, t3⟩ : Ad)) := ⟨_, _, G_law_quiet, b18, k18, PySem.W.mg_of X G a18⟩
  have G_law_right : FnOk l.prog w K mg base (CXF l.prog w) 2 f25 _ ["_law_wishes", "_law_zone", "_law_hours", "_law_heavy", "_law_minutes_here"] (sp_law_right K (⟨cBellError, cNoClock, cNoFit, cNoWish, cNoRow, cNoText, cFit, cAny, cWay, cHour, cNever, cRaised, cLine, cWishes, t0, t1, t2, t3⟩ : Ad)) := FnOk.up (ok_law_right (P := l.prog) (w := w) (base := base) B C_law_minutes F25)
  have C_law_right : CalX l.prog w K mg base "_law_right" ["_law_wishes", "_law_zone", "_law_hours", "_law_heavy", "_law_minutes_here"] 2 (sp_law_right K (⟨cBellError, cNoClock, cNoFit, cNoWish, cNoRow, cNoText, cFit, cAny, cWay, cHour, cNever, cRaised, cLine, cWishes, t0, t1, t2, t3⟩ : Ad)) := ⟨_, _, G_law_right, b25, k25, PySem.W.mg_of X G a25⟩
  have G_is_minute_of_day : FnOk l.prog w K mg base (CXF l.prog w) 3 f3 _ ["thing"] (sp_is_minute_of_day K (⟨cBellError, cNoClock, cNoFit, cNoWish, cNoRow, cNoText, cFit, cAny, cWay, cHour, cNever, cRaised, cLine, cWishes, t0, t1, t2, t3⟩ : Ad)) := FnOk.up (ok_is_minute_of_day (P := l.prog) (w := w) (base := base) B C_is_whole_between F3)
  have C_is_minute_of_day : CalX l.prog w K mg base "is_minute_of_day" ["thing"] 3 (sp_is_minute_of_day K (⟨cBellError, cNoClock, cNoFit, cNoWish, cNoRow, cNoText, cFit, cAny, cWay, cHour, cNever, cRaised, cLine, cWishes, t0, t1, t2, t3⟩ : Ad)) := ⟨_, _, G_is_minute_of_day, b3, k3, PySem.W.mg_of X G a3⟩
  have G_check_zone : FnOk l.prog w K mg base (CXF l.prog w) 3 f5 _ ["zone"] (sp_check_zone K (⟨cBellError, cNoClock, cNoFit, cNoWish, cNoRow, cNoText, cFit, cAny, cWay, cHour, cNever, cRaised, cLine, cWishes, t0, t1, t2, t3⟩ : Ad)) := ok_check_zone (P := l.prog) (w := w) (base := base) B C_is_whole_between F5
  have C_check_zone : CalX l.prog w K mg base "check_zone" ["zone"] 3 (sp_check_zone K (⟨cBellError, cNoClock, cNoFit, cNoWish, cNoRow, cNoText, cFit, cAny, cWay, cHour, cNever, cRaised, cLine, cWishes, t0, t1, t2, t3⟩ : Ad)) := ⟨_, _, G_check_zone, b5, k5, PySem.W.mg_of X G a5⟩
  have G_check_minute_of_hour : FnOk l.prog w K mg base (CXF l.prog w) 3 f7 _ ["minute"] (sp_check_minute_of_hour K (⟨cBellError, cNoClock, cNoFit, cNoWish, cNoRow, cNoText, cFit, cAny, cWay, cHour, cNever, cRaised, cLine, cWishes, t0, t1, t2, t3⟩ : Ad)) := FnOk.up (ok_check_minute_of_hour (P := l.prog) (w := w) (base := base) B C_is_whole_between F7)
  have C_check_minute_of_hour : CalX l.prog w K mg base "check_minute_of_hour" ["minute"] 3 (sp_check_minute_of_hour K (⟨cBellError, cNoClock, cNoFit, cNoWish, cNoRow, cNoText, cFit, cAny, cWay, cHour, cNever, cRaised, cLine, cWishes, t0, t1, t2, t3⟩ : Ad)) := ⟨_, _, G_check_minute_of_hour, b7, k7, PySem.W.mg_of X G a7⟩
  have G_Line___init__ : FnOk l.prog w K mg base (CXF l.prog w) 3 f11 _ ["self", "fit", "way", "roads", "sure", "raised"] (sp_Line___init__ K (⟨cBellError, cNoClock, cNoFit, cNoWish, cNoRow, cNoText, cFit, cAny, cWay, cHour, cNever, cRaised, cLine, cWishes, t0, t1, t2, t3⟩ : Ad)) := FnOk.up (ok_Line___init__ (P := l.prog) (w := w) (base := base) B C_check_by_way C_are_unlike_names F11)
  have CD_Line_3 : CalD l.prog w K mg base "Line" cLine ["self", "fit", "way", "roads", "sure", "raised"] 3 [.bl false, .non] (sp_Line___init__ K (⟨cBellError, cNoClock, cNoFit, cNoWish, cNoRow, cNoText, cFit, cAny, cWay, cHour, cNever, cRaised, cLine, cWishes, t0, t1, t2, t3⟩ : Ad)) := ⟨_, _, _, G_Line___init__, b11_3, (.cons rfl (.cons rfl .nil)), ⟨mkLine, a11, i11, kcLine⟩, B.Line⟩
  have G_check_wake : FnOk l.prog w K mg base (CXF l.prog w) 3 f14 _ ["wake", "quiet"] (sp_check_wake K (⟨cBellError, cNoClock, cNoFit, cNoWish, cNoRow, cNoText, cFit, cAny, cWay, cHour, cNever, cRaised, cLine, cWishes, t0, t1, t2, t3⟩ : Ad)) := ok_check_wake (P := l.prog) (w := w) (base := base) B C_is_whole_from F14
  have C_check_wake : CalX l.prog w K mg base "check_wake" ["wake", "quiet"] 3 (sp_check_wake K (⟨cBellError, cNoClock, cNoFit, cNoWish, cNoRow, cNoText, cFit, cAny, cWay, cHour, cNever, cRaised, cLine, cWishes, t0, t1, t2, t3⟩ : Ad)) := ⟨_, _, G_check_wake, b14, k14, PySem.W.mg_of X G a14⟩
  have G_is_quiet_hours : FnOk l.prog w K mg base (CXF l.prog w) 4 f4 _ ["thing"] (sp_is_quiet_hours K (⟨cBellError, cNoClock, cNoFit, cNoWish, cNoRow, cNoText, cFit, cAny, cWay, cHour, cNever, cRaised, cLine, cWishes, t0, t1, t2, t3⟩ : Ad)) := FnOk.up (ok_is_quiet_hours (P := l.prog) (w := w) (base := base) B C_is_minute_of_day F4)
  have C_is_quiet_hours : CalX l.prog w K mg base "is_quiet_hours" ["thing"] 4 (sp_is_quiet_hours K (⟨cBellError, cNoClock, cNoFit, cNoWish, cNoRow, cNoText, cFit, cAny, cWay, cHour, cNever, cRaised, cLine, cWishes, t0, t1, t2, t3⟩ : Ad)) := ⟨_, _, G_is_quiet_hours, b4, k4, PySem.W.mg_of X G a4⟩
  have G_Hour___init__ : FnOk l.prog w K mg base (CXF l.prog w) 4 f10 _ ["self", "minute"] (sp_Hour___init__ K (⟨cBellError, cNoClock, cNoFit, cNoWish, cNoRow, cNoText, cFit, cAny, cWay, cHour, cNever, cRaised, cLine, cWishes, t0, t1, t2, t3⟩ : Ad)) := FnOk.up (ok_Hour___init__ (P := l.prog) (w := w) (base := base) B C_check_minute_of_hour F10)
  have CC_Hour : CalC l.prog w K mg base "Hour" cHour ["self", "minute"] 4 (sp_Hour___init__ K (⟨cBellError, cNoClock, cNoFit, cNoWish, cNoRow, cNoText, cFit, cAny, cWay, cHour, cNever, cRaised, cLine, cWishes, t0, t1, t2, t3⟩ : Ad)) := ⟨_, _, G_Hour___init__, b10, ⟨mkHour, a10, i10, kcHour⟩, B.Hour⟩
  have G_check_quiet : FnOk l.prog w K mg base (CXF l.prog w) 5 f6 _ ["quiet"] (sp_check_quiet K (⟨cBellError, cNoClock, cNoFit, cNoWish, cNoRow, cNoText, cFit, cAny, cWay, cHour, cNever, cRaised, cLine, cWishes, t0, t1, t2, t3⟩ : Ad)) := ok_check_quiet (P := l.prog) (w := w) (base := base) B C_is_quiet_hours F6
  have C_check_quiet : CalX l.prog w K mg base "check_quiet" ["quiet"] 5 (sp_check_quiet K (⟨cBellError, cNoClock, cNoFit, cNoWish, cNoRow, cNoText, cFit, cAny, cWay, cHour, cNever, cRaised, cLine, cWishes, t0, t1, t2, t3⟩ : Ad)) := ⟨_, _, G_check_quiet, b6, k6, PySem.W.mg_of X G a6⟩
  have G_Wishes___init__ : FnOk l.prog w K mg base (CXF l.prog w) 6 f13 _ ["self", "zone", "quiet", "wake", "lines"] (sp_Wishes___init__ K (⟨cBellError, cNoClock, cNoFit, cNoWish, cNoRow, cNoText, cFit, cAny, cWay, cHour, cNever, cRaised, cLine, cWishes, t0, t1, t2, t3⟩ : Ad)) := ok_Wishes___init__ (P := l.prog) (w := w) (base := base) B C_check_zone C_check_quiet C_check_wake C_check_lines F13
  have CK_Wishes_1_lines : CalK l.prog w K mg base "Wishes" cWishes ["self", "zone", "quiet", "wake", "lines"] ["lines"] 6 gV1 (sp_Wishes___init__ K (⟨cBellError, cNoClock, cNoFit, cNoWish, cNoRow, cNoText, cFit, cAny, cWay, cHour, cNever, cRaised, cLine, cWishes, t0, t1, t2, t3⟩ : Ad)) := ⟨_, _, _, G_Wishes___init__, kb1 (fun s x y z X => by first | exact .of_eq rfl | exact PySem.W.binds_K X rfl d13 rfl rfl rfl), ⟨mkWishes, a13, i13, kcWishes⟩, B.Wishes⟩
  have CK_Wishes_0_quiet_wake : CalK l.prog w K mg base "Wishes" cWishes ["self", "zone", "quiet", "wake", "lines"] ["quiet", "wake"] 6 gV2 (sp_Wishes___init__ K (⟨cBellError, cNoClock, cNoFit, cNoWish, cNoRow, cNoText, cFit, cAny, cWay, cHour, cNever, cRaised, cLine, cWishes, t0, t1, t2, t3⟩ : Ad)) := ⟨_, _, _, G_Wishes___init__, kb2 (fun s x y z X => by first | exact .of_eq rfl | exact PySem.W.binds_K X rfl d13 rfl rfl rfl), ⟨mkWishes, a13, i13, kcWishes⟩, B.Wishes⟩
  have CD_Wishes_4 : CalD l.prog w K mg base "Wishes" cWishes ["self", "zone", "quiet", "wake", "lines"] 6 [] (sp_Wishes___init__ K (⟨cBellError, cNoClock, cNoFit, cNoWish, cNoRow, cNoText, cFit, cAny, cWay, cHour, cNever, cRaised, cLine, cWishes, t0, t1, t2, t3⟩ : Ad)) := ⟨_, _, _, G_Wishes___init__, b13_4, .nil, ⟨mkWishes, a13, i13, kcWishes⟩, B.Wishes⟩
  have CD_Wishes_0 : CalD l.prog w K mg base "Wishes" cWishes ["self", "zone", "quiet", "wake", "lines"] 6 [.int 0, .non, .non, .non] (sp_Wishes___init__ K (⟨cBellError, cNoClock, cNoFit, cNoWish, cNoRow, cNoText, cFit, cAny, cWay, cHour, cNever, cRaised, cLine, cWishes, t0, t1, t2, t3⟩ : Ad)) := ⟨_, _, _, G_Wishes___init__, b13_0, (.cons ⟨_, rfl⟩ (.cons rfl (.cons rfl (.cons rfl .nil)))), ⟨mkWishes, a13, i13, kcWishes⟩, B.Wishes⟩
  have G_law_no_lines : FnOk l.prog w K mg base (CXF l.prog w) 6 f23 _ ["_law_lots"] (sp_law_no_lines K (⟨cBellError, cNoClock, cNoFit, cNoWish, cNoRow, cNoText, cFit, cAny, cWay, cHour, cNever, cRaised, cLine, cWishes, t0, t1, t2, t3⟩ : Ad)) := FnOk.up (ok_law_no_lines (P := l.prog) (w := w) (base := base) B CD_Line_3 CC_Hour F23)
  have C_law_no_lines : CalX l.prog w K mg base "_law_no_lines" ["_law_lots"] 6 (sp_law_no_lines K (⟨cBellError, cNoClock, cNoFit, cNoWish, cNoRow, cNoText, cFit, cAny, cWay, cHour, cNever, cRaised, cLine, cWishes, t0, t1, t2, t3⟩ : Ad)) := ⟨_, _, G_law_no_lines, b23, k23, PySem.W.mg_of X G a23⟩
  have G_law_refused : FnOk l.prog w K mg base (CXF l.prog w) 8 f19 _ ["_law_zone", "_law_hours", "_law_heavy", "_law_lots"] (sp_law_refused K (⟨cBellError, cNoClock, cNoFit, cNoWish, cNoRow, cNoText, cFit, cAny, cWay, cHour, cNever, cRaised, cLine, cWishes, t0, t1, t2, t3⟩ : Ad)) := FnOk.up (ok_law_refused (P := l.prog) (w := w) (base := base) B CD_Wishes_4 F19)
  have C_law_refused : CalX l.prog w K mg base "_law_refused" ["_law_zone", "_law_hours", "_law_heavy", "_law_lots"] 8 (sp_law_refused K (⟨cBellError, cNoClock, cNoFit, cNoWish, cNoRow, cNoText, cFit, cAny, cWay, cHour, cNever, cRaised, cLine, cWishes, t0, t1, t2, t3⟩ : Ad)) := ⟨_, _, G_law_refused, b19, k19, PySem.W.mg_of X G a19⟩
  have G_law_odd_right : FnOk l.prog w K mg base (CXF l.prog w) 9 f26 _ ["_law_state", "_law_zone", "_law_hours", "_law_heavy", "_law_lots"] (sp_law_odd_right K (⟨cBellError, cNoClock, cNoFit, cNoWish, cNoRow, cNoText, cFit, cAny, cWay, cHour, cNever, cRaised, cLine, cWishes, t0, t1, t2, t3⟩ : Ad)) := FnOk.up (ok_law_odd_right (P := l.prog) (w := w) (base := base) B C_law_no_zones C_law_next C_law_no_quiet C_law_no_wakes C_law_no_lines C_law_refused F26)
  have C_law_odd_right : CalX l.prog w K mg base "_law_odd_right" ["_law_state", "_law_zone", "_law_hours", "_law_heavy", "_law_lots"] 9 (sp_law_odd_right K (⟨cBellError, cNoClock, cNoFit, cNoWish, cNoRow, cNoText, cFit, cAny, cWay, cHour, cNever, cRaised, cLine, cWishes, t0, t1, t2, t3⟩ : Ad)) := ⟨_, _, G_law_odd_right, b26, k26, PySem.W.mg_of X G a26⟩
  exact ok_law (P := l.prog) (w := w) (base := base) B C_law_right C_law_begin C_law_quiet C_law_next CD_Wishes_4 CD_Line_3 CD_Wishes_0 CC_Hour C_law_odd_right CK_Wishes_1_lines CK_Wishes_0_quiet_wake F27
theorem walk {l : PySem.W.OpenLaw} {q : Program} {loose : List Str} {XP : (Str → Option Value) → Heap → Prop} {YP : World → Heap → Prop} {d : DefRec} {K : Params → PySem.W.Frag} (hn : l.most = some 63) (hdf : d.params.defaults = [])
    (hY : ∀ (w : World) (h : Heap), YP w h → (K w.params).In h)
    (F : ∀ (w : World) (mg : Str → Option Value) (fa : Addr) (h : Heap), (K w.params).In h → h.Ns mainGlobals mg → mg d.name = some (.ref fa) →
      ∃ fd : FuncData, (∀ (s : Shared) (u : Value), BindsTo s fd ⟨[u], []⟩ [("_law_script", u)]) ∧ ∀ base : Heap, (K w.params).In base → base.Ns mainGlobals mg → FnOk l.prog w (K w.params) mg base CX0 10 fa fd ["_law_script"] (spL (K w.params))) :
    PySem.W.WalkO q loose XP YP l.row.toRowW d [] (fun f vs => PySem.call f vs) :=
  L2.walk_of (n := 63) (k := 10) (x := "_law_script") (CX := fun _ => CX0) (sp := fun w => spL (K w.params)) hn (by decide) hdf ⟨rfl, by decide, by decide⟩ hY F (fun _ _ a ns hl _ hS => ⟨a, ns, rfl, hS, hl, fun _ => rfl⟩) fun _ _ _ _ _ z => z
theorem all_mk2 {P : Program} {w : World} {K : PySem.W.Frag} {mg : Str → Option Value} {fa : Addr} (h : ∃ (a : Ad) (fd : FuncData), (∀ (s : Shared) (v : Value), BindsTo s fd ⟨[v], []⟩ [("_law_script", v)]) ∧ ∀ base : Heap, K.In base → base.Ns mainGlobals mg → FnOk P w K mg base CX0 10 fa fd ["_law_script"] (sp_law K a)) :
    ∃ fd : FuncData, (∀ (s : Shared) (v : Value), BindsTo s fd ⟨[v], []⟩ [("_law_script", v)]) ∧ ∀ base : Heap, K.In base → base.Ns mainGlobals mg → FnOk P w K mg base CX0 10 fa fd ["_law_script"] (spL K) := by
  obtain ⟨a, fd, b, q⟩ := h
  exact ⟨fd, b, fun base x y => q base x y⟩
end Bw
open PySem PySem.W PyProof.Rows
set_option maxRecDepth 100000 in
set_option maxHeartbeats 0 in
theorem PySem.Challenge.cw_bellsaway_k13_wishes_made_holds : PySem.Challenge.rw_bellsaway_k13_wishes_made.Holds := by
  w_on; o_law; k_head; (case hw => w_witness2)
  k_fill
  refine Bw.walk (l := PySem.Challenge.rw_bellsaway_k13_wishes_made) rfl rfl (fun w h Y => PySem.W.kIn_of Y) ?F
  case F =>
    intro w mg fa h KX G hmg
    refine Bw.all_mk2 ?Z
    refine' Bw.all_mk KX G hmg ?a0 ?l0 ?c0 ?k0 ?a1 ?l1 ?c1 ?k1 ?a2 ?l2 ?c2 ?k2 ?a3 ?l3 ?c3 ?k3 ?a4 ?l4 ?c4 ?k4 ?a5 ?l5 ?c5 ?k5 ?a6 ?l6 ?c6 ?k6 ?a7 ?l7 ?c7 ?k7 ?a8 ?l8 ?c8 ?k8 ?a9 ?l9 ?c9 ?k9 ?a10 ?i10 ?l10 ?c10 ?k10 ?a11 ?i11 ?l11 ?d11 ?c11 ?a12 ?l12 ?c12 ?k12 ?a13 ?i13 ?l13 ?d13 ?c13 ?a14 ?l14 ?c14 ?k14 ?a15 ?l15 ?c15 ?k15 ?a16 ?l16 ?c16 ?k16 ?a17 ?l17 ?c17 ?k17 ?a18 ?l18 ?c18 ?k18 ?a19 ?l19 ?c19 ?k19 ?a20 ?l20 ?c20 ?k20 ?a21 ?l21 ?c21 ?k21 ?a22 ?l22 ?c22 ?k22 ?a23 ?l23 ?c23 ?k23 ?a24 ?l24 ?c24 ?k24 ?a25 ?l25 ?c25 ?k25 ?a26 ?l26 ?c26 ?k26 ?a27 ?l27 ?c27 ?k27 ?y0 ?y1 ?y2 ?y3 ?y4 ?y5 ?y6 ?y7 ?y8 ?y9 ?y10 ?y11 ?y12 ?y13 ?y14 ?y15 ?y16 ?y17 ?y18 ?y19 ?y20 ?y21 ?y22 ?y23 ?y24 ?y25 ?y26 ?y27 ?y28 ?y29 ?y30_0 ?y30_1 ?y30_2 ?y30_3 ?y30_4 ?y30_5 ?y31 ?y32_0 ?y32_1 ?y32_2 ?y32_3 ?y32_4 ?y32_5 ?y33 ?y34 ?y35 ?y36 ?y37 ?y38 ?y39 ?y40 ?y41 ?y42 ?y43_0 ?y43_1 ?y43_2 ?y43_3 ?y43_4 ?y43_5 ?y43_6 ?y43_7 ?y44_0 ?y44_1 ?y44_2 ?y44_3 ?y44_4 ?y44_5 ?y44_6 ?y44_7 ?y45 ?y46_0 ?y46_1 ?y46_2 ?y46_3 ?y46_4 ?y46_5 ?y46_6 ?y46_7 ?y47 ?y48 ?y49 ?y50 ?y51 ?y52_0 ?y52_1 ?y52_2 ?y52_3 ?y52_4 ?y52_5 ?y52_6 ?y52_7 ?y53 ?y54 ?y55 ?y56 ?y57 ?y58 ?y59 ?y60 ?y61 ?y62 ?y63 ?y64 ?y65 ?y66 ?y67 ?y68 ?y69 ?y70 ?y71 ?y72_0 ?y72_1 ?y72_2 ?mkHour ?kcHour ?mkLine ?kcLine ?mkWishes ?kcWishes
    (case y0 => k_is)
    (case y1 => k_is)
    (case y2 => k_is)
    (case y3 => k_is)
    (case y4 => k_is)
    (case y5 => k_is)
    (case y6 => k_is)
    (case y7 => k_is)
    (case y8 => k_is)
    (case y9 => k_is)
    (case y10 => k_is)
    (case y11 => k_is)
    (case y12 => k_is)
    (case y13 => k_is)
    (case y14 => k_is)
    (case y15 => k_is)
    (case y16 => k_is)
    (case y17 => k_is)
    (case y18 => k_is)
    (case y19 => k_is)
    (case y20 => k_is)
    (case y21 => k_is)
    (case y22 => k_is)
    (case y23 => k_is)
    (case y24 => k_is)
    (case y25 => k_is)
    (case y26 => k_is)
    (case y27 => k_is)
    (case y28 => k_is)
    (case a0 => k_is)
    (case l0 => k_is)
    (case c0 => k_is)
    (case k0 => k_is)
    (case a1 => k_is)
    (case l1 => k_is)
    (case c1 => k_is)
    (case k1 => k_is)
    (case a2 => k_is)
    (case l2 => k_is)
    (case c2 => k_is)
    (case k2 => k_is)
    (case a3 => k_is)
    (case l3 => k_is)
    (case c3 => k_is)
    (case k3 => k_is)
    (case a4 => k_is)
    (case l4 => k_is)
    (case c4 => k_is)
    (case k4 => k_is)
    (case a5 => k_is)
    (case l5 => k_is)
    (case c5 => k_is)
    (case k5 => k_is)
    (case a6 => k_is)
    (case l6 => k_is)
    (case c6 => k_is)
    (case k6 => k_is)
    (case a7 => k_is)
    (case l7 => k_is)
    (case c7 => k_is)
    (case k7 => k_is)
    (case a8 => k_is)
    (case l8 => k_is)
    (case c8 => k_is)
    (case k8 => k_is)
    (case a9 => k_is)
    (case l9 => k_is)
    (case c9 => k_is)
    (case k9 => k_is)
    (case a10 => k_is)
    (case i10 => k_is)
    (case l10 => k_is)
    (case c10 => k_is)
    (case k10 => k_is)
    (case a11 => k_is)
    (case i11 => k_is)
    (case l11 => k_is)
    (case d11 => k_is)
    (case c11 => k_is)
    (case a12 => k_is)
    (case l12 => k_is)
    (case c12 => k_is)
    (case k12 => k_is)
    (case a13 => k_is)
    (case i13 => k_is)
    (case l13 => k_is)
    (case d13 => k_is)
    (case c13 => k_is)
    (case a14 => k_is)
    (case l14 => k_is)
    (case c14 => k_is)
    (case k14 => k_is)
    (case a15 => k_is)
    (case l15 => k_is)
    (case c15 => k_is)
    (case k15 => k_is)
    (case a16 => k_is)
    (case l16 => k_is)
    (case c16 => k_is)
    (case k16 => k_is)
    (case a17 => k_is)
    (case l17 => k_is)
    (case c17 => k_is)
    (case k17 => k_is)
    (case a18 => k_is)
    (case l18 => k_is)
    (case c18 => k_is)
    (case k18 => k_is)
    (case a19 => k_is)
    (case l19 => k_is)
    (case c19 => k_is)
    (case k19 => k_is)
    (case a20 => k_is)
    (case l20 => k_is)
    (case c20 => k_is)
    (case k20 => k_is)
    (case a21 => k_is)
    (case l21 => k_is)
    (case c21 => k_is)
    (case k21 => k_is)
    (case a22 => k_is)
    (case l22 => k_is)
    (case c22 => k_is)
    (case k22 => k_is)
    (case a23 => k_is)
    (case l23 => k_is)
    (case c23 => k_is)
    (case k23 => k_is)
    (case a24 => k_is)
    (case l24 => k_is)
    (case c24 => k_is)
    (case k24 => k_is)
    (case a25 => k_is)
    (case l25 => k_is)
    (case c25 => k_is)
    (case k25 => k_is)
    (case a26 => k_is)
    (case l26 => k_is)
    (case c26 => k_is)
    (case k26 => k_is)
    (case a27 => k_is)
    (case l27 => k_is)
    (case c27 => k_is)
    (case k27 => k_is)
    (case y29 => k_exc)
    (case y30_0 => k_is)
    (case y30_1 => k_is)
    (case y30_2 => k_is)
    (case y30_3 => k_is)
    (case y30_4 => k_is)
    (case y30_5 => k_is)
    (case y31 => k_exc)
    (case y32_0 => k_is)
    (case y32_1 => k_is)
    (case y32_2 => k_is)
    (case y32_3 => k_is)
    (case y32_4 => k_is)
    (case y32_5 => k_is)
    (case y33 => kts_exm)
    (case y34 => kit_is)
    (case y35 => kit_is)
    (case y36 => kit_is)
    (case y37 => kit_is)
    (case y38 => kts_exm)
    (case y39 => kit_is)
    (case y40 => kit_is)
    (case y41 => kit_is)
    (case y42 => kit_is)
    (case y43_0 => k_is)
    (case y43_1 => k_is)
    (case y43_2 => k_is)
    (case y43_3 => k_is)
    (case y43_4 => k_is)
    (case y43_5 => k_is)
    (case y43_6 => k_is)
    (case y43_7 => k_is)
    (case y44_0 => k_is)
    (case y44_1 => k_is)
    (case y44_2 => k_is)
    (case y44_3 => k_is)
    (case y44_4 => k_is)
    (case y44_5 => k_is)
    (case y44_6 => k_is)
    (case y44_7 => k_is)
    (case y45 => k_is)
    (case y46_0 => k_is)
    (case y46_1 => k_is)
    (case y46_2 => k_is)
    (case y46_3 => k_is)
    (case y46_4 => k_is)
    (case y46_5 => k_is)
    (case y46_6 => k_is)
    (case y46_7 => k_is)
    (case y47 => k_is)
    (case y48 => k_is)
    (case y49 => k_is)
    (case y50 => k_is)
    (case y51 => k_is)
    (case y52_0 => k_is)
    (case y52_1 => k_is)
    (case y52_2 => k_is)
    (case y52_3 => k_is)
    (case y52_4 => k_is)
    (case y52_5 => k_is)
    (case y52_6 => k_is)
    (case y52_7 => k_is)
    (case y53 => k_is)
    (case y54 => k_is)
    (case y55 => k_is)
    (case y56 => k_is)
    (case y57 => kit_is)
    (case y58 => kit_is)
    (case y59 => kit_is)
    (case y60 => kit_is)
    (case y61 => kit_is)
    (case y62 => kit_is)
    (case y63 => kit_is)
    (case y64 => kit_is)
    (case y65 => kit_is)
    (case y66 => kit_is)
    (case y67 => kit_is)
    (case y68 => kit_is)
    (case y69 => kit_is)
    (case y70 => kit_is)
    (case y71 => kit_is)
    (case y72_0 => k_is)
    (case y72_1 => k_is)
    (case y72_2 => k_is)
    (case mkHour => k_is)
    (case kcHour => k_is)
    (case mkLine => k_is)
    (case kcLine => k_is)
    (case mkWishes => k_is)
    (case kcWishes => k_is)
